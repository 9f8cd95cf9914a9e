/- A part of the proof: MemAc, Bld, Saf1, KpFl, Saf2. -/
import Derived.Conc.EventLaws
import Derived.Laws.CopyRow
import Derived.OwnWalk
import Derived.Test.YtbbdgokdfhdpiaaGreatDoorE2
import Derived.Test.YtbbdgokdfhdpiaaGreatDoorE5
namespace Go.Proofs.YtbbdgokdfhdpiaaGreatDoor
set_option linter.all false
set_option maxRecDepth 100000
set_option maxHeartbeats 40000000
open Go.Proofs.Tryz Go.RowKit
section
open Go.RowKit Go.Maps
abbrev oV:List UInt8:=[108,111,103]
abbrev tL:List UInt8:=[110,101,119]
abbrev qY:Value:=.string ⟨#[108,111,103]⟩
abbrev tV:Value:=.string ⟨#[110,101,119]⟩
abbrev oL(b:Nat):Value:=.pointer (some ⟨b,0,none⟩)
def oE:Value→Option (DataW Unit×List MemPlace)
 |.pointer (some ⟨b,0,none⟩)=>some (.lit (.int .i64 b),[])
 |.pointer none=>some (.lit (.int .i64 (-1)),[])
 |_=>none
theorem yX(b:Nat):oE (oL b)=some (.lit (.int .i64 b),[]):=rfl
theorem mN{v:Value}{b:Nat}{ps:List MemPlace}(h:oE v=some (.lit (.int .i64 b),ps)):v=oL b:=by
 unfold oE at h;split at h
 ·simp at h;have e:=h.1
  norm_cast at e
  rw[e]
 ·simp at h
 ·cases h
def fP(fl:Nat):Option Nat→DataW Unit
 |none=>.map [(.string oV,.lit (.int .i64 fl))]
 |some fn=>.map [(.string oV,.lit (.int .i64 fl)),(.string tL,.lit (.int .i64 fn))]
abbrev lT(W:World)(b fl:Nat)(fn:Option Nat):Prop:=W.ownsMap prog 9 oE b 2 (fP fl fn)
theorem vR:Keyed prog 9:=string_keyed underlying9
section
variable {H:Type} {P:Program} {kt:TypeId}
theorem dK{w:World}{R:Value→Option (DataW H×List MemPlace)}{b n:Nat}{D:DataW H}(h:w.ownsMap P kt R b n D):∃e k,w.heap[b]?=some (.map e k):=by
 obtain⟨c,a,d,_⟩:=h;exact⟨c,a,d⟩
theorem dF{w w':World}{R:Value→Option (DataW H×List MemPlace)}{b n:Nat}{D:DataW H}(h:w.ownsMap P kt R b n D)(hb:w'.heap[b]?=w.heap[b]?):w'.ownsMap P kt R b n D:=by
 obtain⟨d,a,c,e⟩:=h;exact⟨d,a,hb.trans c,e⟩
theorem oR{w w':World}{R:Value→Option (DataW H×List MemPlace)}{b c n:Nat}{D:DataW H}(h:w.ownsMap P kt R b n D)(hb:w'.heap[c]?=w.heap[b]?):w'.ownsMap P kt R c n D:=by
 obtain⟨e,a,d,f⟩:=h;exact⟨e,a,hb.trans d,f⟩
theorem lJ{w:World}{R:Value→Option (DataW H×List MemPlace)}{b n m:Nat}{D:DataW H}(h:w.ownsMap P kt R b n D)(hm:Maps.size D≤m):w.ownsMap P kt R b m D:=by
 obtain⟨c,a,f,d,g,rfl⟩:=h;refine⟨c,a,f,d,?_,rfl⟩;have e:Maps.size (DataW.map ((c.toList.map (WideElems.rg P kt R)).foldr DataW.insert []))=c.size:=by simp[Maps.size,length_sorted]
 omega
end
theorem mX{w w':World}{b:Nat}(h:w.mapTurned w' b):Chg (fun k=>k=b) w w':=by
 obtain⟨e,c,d,a,f,rfl⟩:=h;exact iL _ _ _
theorem lR{w w':World}{b:Nat}(h:w.mapTurned w' b):w'.heap.size=w.heap.size:=by
 obtain⟨e,c,d,a,f,rfl⟩:=h;simp[ChangeMaps.setBlock]
def FileAt(W:World)(b:Nat)(t:List Int)(y:Int):Prop:=W.heap[b]?=some (.cells #[.string (strOfNums t),.int .i64 y] 214 (0,0))
def NewAt(W:World)(F:Nat→Prop)(fl:Nat)(fn:Option Nat):Option (List Int×Int)→Prop
 |none=>fn=none
 |some p=>∃b,fn=some b∧FileAt W b p.1 p.2∧F b∧b≠fl
def OldAt(W:World)(F:Nat→Prop)(fl:Nat)(fn:Option Nat)(fk:Nat):Option (List Int×Int)→Prop
 |none=>fk=fl
 |some p=>FileAt W fk p.1 p.2∧F fk∧fk≠fl∧fn≠some fk
def FailAt(W:World)(F:Nat→Prop)(v:Value):Option (Int×Int)→Prop
 |none=>v= .pointer none
 |some p=>∃b,v= .pointer (some ⟨b,0,none⟩)∧W.heap[b]?=some (.cells #[.int .i64 p.1,.int .i64 p.2] 248 (0,0))∧F b
abbrev dkL(k:Dk)(nm km:Nat)(fv:Value):List Value:=[.int .i64 k.room,.map (some nm),.map (some km),fv]
structure DkAt(W:World)(F:Nat→Prop)(d:Nat)(k:Dk)(nm km fl:Nat)(fn:Option Nat)(fk:Nat)(fv:Value):Prop where
 blk:W.heap[d]?=some (.cells (dkL k nm km fv).toArray 212 (0,0))
 fd:F d
 names:lT W nm fl fn
 kept:lT W km fk none
 fnm:F nm
 fkm:F km
 nk:nm≠km
 log:FileAt W fl k.log k.lsyn
 flog:F fl
 new:NewAt W F fl fn k.new
 old:OldAt W F fl fn fk k.old
 fail:FailAt W F fv k.fail
 lt:∀x,F x→x<W.heap.size
section
variable {W W':World}{F S:Nat→Prop}{d:Nat}{k:Dk}{nm km fl fk:Nat}{fn:Option Nat}{fv:Value}
section
variable {x:Option (List Int×Int)}
theorem NewAt.of_heap(h:NewAt W F fl fn x)(hb:∀k,F k→W'.heap[k]?=W.heap[k]?):NewAt W' F fl fn x:=by
 cases x with
 |none=>exact h
 |some p=>obtain⟨b,e,c,a,d⟩:=h;exact⟨b,e,(hb b a).trans c,a,d⟩
theorem OldAt.of_heap(h:OldAt W F fl fn fk x)(hb:∀k,F k→W'.heap[k]?=W.heap[k]?):OldAt W' F fl fn fk x:=by
 cases x with
 |none=>exact h
 |some p=>obtain⟨b,a,c⟩:=h;exact⟨(hb _ a).trans b,a,c⟩
end
theorem FailAt.of_heap{v:Value}{x:Option (Int×Int)}(h:FailAt W F v x)(hb:∀k,F k→W'.heap[k]?=W.heap[k]?):FailAt W' F v x:=by
 cases x with
 |none=>exact h
 |some p=>obtain⟨b,c,d,a⟩:=h;exact⟨b,c,(hb b a).trans d,a⟩
theorem DkAt.of_heap(h:DkAt W F d k nm km fl fn fk fv)(hs:W.heap.size≤W'.heap.size)(hb:∀k,F k→W'.heap[k]?=W.heap[k]?):DkAt W' F d k nm km fl fn fk fv:=
 ⟨(hb d h.fd).trans h.blk,h.fd,dF h.names (hb _ h.fnm),dF h.kept (hb _ h.fkm),h.fnm,h.fkm,h.nk,(hb _ h.flog).trans h.log,h.flog,h.new.of_heap hb,h.old.of_heap hb,h.fail.of_heap hb,fun x hx=>aG (h.lt x hx) hs⟩
theorem DkAt.apart(h:DkAt W F d k nm km fl fn fk fv)(hc:Chg S W W')(hn:∀k,F k→¬S k):DkAt W' F d k nm km fl fn fk fv:=
 h.of_heap hc.size fun x hx=>hc.block x (h.lt x hx) (hn x hx)
theorem DkAt.cell(h:DkAt W F d k nm km fl fn fk fv)(j:Nat)(x:Value)(hj:(dkL k nm km fv)[j]?=some x):W.cell? ⟨d,j,none⟩=some x:=cB h.blk j x (by simpa using hj)
theorem DkAt.froz(h:DkAt W F d k nm km fl fn fk fv)(j:Nat):W.frozen? ⟨d,j,none⟩=false:=cY h.blk j
section
variable {x:Option (List Int×Int)} {c:Nat} {o:Obj}
theorem NewAt.kept(h:NewAt W F fl fn x)(hx:W.heap[c]?=some o)(ho:∀cs fr,o≠.cells cs 214 fr)(hc:Chg (fun k=>k=c) W W'):NewAt W' F fl fn x:=by
 cases x with
 |none=>exact h
 |some p=>obtain⟨b,f,a,g,d⟩:=h;exact⟨b,f,hc.kept a (fun e=>dR a hx (fun e=>ho _ _ e.symm) e),g,d⟩
theorem OldAt.kept(h:OldAt W F fl fn fk x)(hx:W.heap[c]?=some o)(ho:∀cs fr,o≠.cells cs 214 fr)(hc:Chg (fun k=>k=c) W W'):OldAt W' F fl fn fk x:=by
 cases x with
 |none=>exact h
 |some p=>obtain⟨a,b,d⟩:=h;exact⟨hc.kept a (fun e=>dR a hx (fun e=>ho _ _ e.symm) e),b,d⟩
end
theorem FailAt.kept{v:Value}{x:Option (Int×Int)}{c:Nat}{o:Obj}(h:FailAt W F v x)(hx:W.heap[c]?=some o)(ho:∀cs fr,o≠.cells cs 248 fr)(hc:Chg (fun k=>k=c) W W'):FailAt W' F v x:=by
 cases x with
 |none=>exact h
 |some p=>obtain⟨b,d,a,f⟩:=h;exact⟨b,d,hc.kept a (fun e=>dR a hx (fun e=>ho _ _ e.symm) e),f⟩
end
def Disk(W:World)(F:Nat→Prop)(d:Nat)(k:Dk):Prop:=∃nm km fl fn fk fv,DkAt W F d k nm km fl fn fk fv
def DkTo(W:World)(F:Nat→Prop)(d:Nat)(k:Dk)(W':World):Prop:=∃F',Disk W' F' d k∧Chg F W W'∧∀x,F' x→F x∨W.heap.size≤x
theorem DkTo.of{W:World}{F:Nat→Prop}{d:Nat}{k:Dk}(h:Disk W F d k):DkTo W F d k W:=⟨F,h,Chg.refl _ _,fun _ h=>Or.inl h⟩
theorem DkTo.trans{A B C:World}{F F1:Nat→Prop}{d:Nat}{k:Dk}(hc:Chg F A B)(hf:∀x,F1 x→F x∨A.heap.size≤x)(h:DkTo B F1 d k C):DkTo A F d k C:=by
 obtain⟨a,c,b,e⟩:=h;refine⟨a,c,hc.trans b (fun x hx h'=>?_),fun x hx=>?_⟩
 ·rcases hf x h' with h|h
  ·exact h
  ·omega
 ·rcases e x hx with h|h
  ·exact hf x h
  ·right;have:=hc.size;omega
abbrev oM(q:Int):List PanicEntry:=[{v:=.iface 199 (.agg #[.int .i64 q]),recovered:=false}]
def gZ(k:Dk):Prop:=∀p,k.fail=some p→0≤p.1∧p.1≤9223372036854775807
theorem DkAt.self{W W':World}{F:Nat→Prop}{d:Nat}{k k':Dk}{nm km fl fk nm' km' fk':Nat}{fn:Option Nat}{fv fv':Value}(h:DkAt W F d k nm km fl fn fk fv)(hc:Chg (fun x=>x=d) W W')
 (hb:W'.heap[d]?=some (.cells (dkL k' nm' km' fv').toArray 212 (0,0))) (hn:lT W nm' fl fn) (hk:lT W km' fk' none) (hfn:F nm') (hfk:F km') (hne:nm'≠km')
 (h1:k'.log=k.log) (h2:k'.lsyn=k.lsyn) (h3:k'.new=k.new) (h4:OldAt W F fl fn fk' k'.old) (h5:FailAt W F fv' k'.fail):DkAt W' F d k' nm' km' fl fn fk' fv':=by
 obtain⟨_,_,b⟩:=dK hn;obtain⟨_,_,a⟩:=dK hk;refine⟨hb,h.fd,dF hn (by rw[b];exact hc.kept b (fun e=>dR b h.blk (by simp) e)),dF hk (by rw[a];exact hc.kept a (fun e=>dR a h.blk (by simp) e)),hfn,hfk,hne,?_,h.flog,?_,h4.kept h.blk (by simp) hc,h5.kept h.blk (by simp) hc,fun x hx=>aG (h.lt x hx) hc.size⟩
 ·rw[h1,h2];exact hc.kept h.log (fun e=>dR h.log h.blk (by simp) e)
 ·rw[h3];exact h.new.kept h.blk (by simp) hc
theorem DkAt.grow{W:World}{F F':Nat→Prop}{d:Nat}{k:Dk}{nm km fl fk:Nat}{fn:Option Nat}{fv:Value}(h:DkAt W F d k nm km fl fn fk fv)(hF:∀x,F x→F' x)(hlt:∀x,F' x→x<W.heap.size):DkAt W F' d k nm km fl fn fk fv:=by
 refine⟨h.blk,hF _ h.fd,h.names,h.kept,hF _ h.fnm,hF _ h.fkm,h.nk,h.log,hF _ h.flog,?_,?_,?_,hlt⟩
 ·have a:=h.new;cases hk:k.new with
  |none=>rw[hk]at a;exact a
  |some p=>rw[hk]at a;obtain⟨b,e,c,f,g⟩:=a;exact⟨b,e,c,hF _ f,g⟩
 ·have a:=h.old;cases hk:k.old with
  |none=>rw[hk]at a;exact a
  |some p=>rw[hk]at a;obtain⟨e,c,f⟩:=a;exact⟨e,hF _ c,f⟩
 ·have a:=h.fail;cases hk:k.fail with
  |none=>rw[hk]at a;exact a
  |some p=>rw[hk]at a;obtain⟨b,e,c,f⟩:=a;exact⟨b,e,c,hF _ f⟩
theorem DkAt.self'{W W':World}{F:Nat→Prop}{d:Nat}{k k':Dk}{nm km fl fk nm' km' fk':Nat}{fn:Option Nat}{fv fv':Value}(h:DkAt W F d k nm km fl fn fk fv)(hc:Chg (fun x=>x=d) W W')
 (hb:W'.heap[d]?=some (.cells (dkL k' nm' km' fv').toArray 212 (0,0))) (hn:lT W nm' fl fn) (hk:lT W km' fk' none) (hfn:F nm') (hfk:F km') (hne:nm'≠km')
 (h1:k'.log=k.log) (h2:k'.lsyn=k.lsyn) (h3:k'.new=k.new) (h4:OldAt W F fl fn fk' k'.old) (h5:FailAt W' F fv' k'.fail):DkAt W' F d k' nm' km' fl fn fk' fv':=by
 obtain⟨_,_,b⟩:=dK hn;obtain⟨_,_,a⟩:=dK hk;refine⟨hb,h.fd,dF hn (by rw[b];exact hc.kept b (fun e=>dR b h.blk (by simp) e)),dF hk (by rw[a];exact hc.kept a (fun e=>dR a h.blk (by simp) e)),hfn,hfk,hne,?_,h.flog,?_,h4.kept h.blk (by simp) hc,h5,fun x hx=>aG (h.lt x hx) hc.size⟩
 ·rw[h1,h2];exact hc.kept h.log (fun e=>dR h.log h.blk (by simp) e)
 ·rw[h3];exact h.new.kept h.blk (by simp) hc
end
theorem aDc:(prog.info? 312).map (·.size)=some 2:=by kernel_rfl
theorem aGj:liesAt prog prog.depth 312 (2 / prog.cellsOf 312) 0 312 1=true:=by kernel_rfl
theorem infoByte:(prog.info? 5).map (fun i=>(i.zero,i.size,i.bytes))=some (some (.int .u8 0),1,1):=by kernel_rfl
theorem yY(b:Nat)(w:World)(h0:w.cell? ⟨b,0,none⟩=some (.pointer (some ⟨b,0,none⟩))):
 Calls prog 235 #[.pointer (some ⟨b,0,none⟩)] w fun e w'=>e= .returned (.tuple #[])∧w'=w:=by
 obtain⟨j,a,_⟩:=Option.map_eq_some_iff.1 aDc;have c:=Lib.run_neq_ptr_same (P:=prog) w ⟨b,0,none⟩ underlying310 a;go_enter func235,ntmps235;go_wp2
 (first|go_end0|skip)
 exact⟨rfl,rfl⟩
theorem vT(b:Nat)(w:World)(h0:w.cell? ⟨b,0,none⟩=some (.pointer none))(hsh:w.shape? b=some (312,2))(hfz:w.frozen? ⟨b,0,none⟩=false):
 Calls prog 235 #[.pointer (some ⟨b,0,none⟩)] w fun e w'=>e= .returned (.tuple #[])∧w'=w.setCell ⟨b,0,none⟩ (.pointer (some ⟨b,0,none⟩)):=by
 obtain⟨j,c,a⟩:=Option.map_eq_some_iff.1 aDc;have g:=Lib.run_to_unsafe (P:=prog) w ⟨b,0,none⟩ underlying310 underlying261 c (by rw[a];decide) hsh (Nat.zero_lt_succ 1);have d:= @run_callFunc_extern prog 241 _ Extern.AbiNoEscape.same func241 (by kernel_rfl) (by kernel_rfl) (by kernel_rfl) (by kernel_rfl);have h:=Lib.run_noEscape (P:=prog) (w:=w) (.pointer (some ⟨b,0,none⟩));have f:=Lib.run_from_unsafe (P:=prog) w ⟨b,0,none⟩ underlying261 underlying310 c hsh aGj;go_enter func235,ntmps235;go_wp2
 (first|go_end0|skip)
 exact⟨rfl,rfl⟩
structure BldAt(B:Nat)(W:World)(b:Nat)(v:Value)(bs:List Value):Prop where
 blk:∃p,(p= .pointer none∨p= .pointer (some ⟨b,0,none⟩))∧W.heap[b]?=some (.cells #[p,v] 312 (0,0))
 own:W.ownsRow B 5 1 v bs.length bs
 ne:v.ownBlock≠some b
 hB:B≤b
theorem BldAt.is{B:Nat}{W:World}{b:Nat}{v:Value}{bs:List Value}(h:BldAt B W b v bs):Lib.IsBuilder 312 5 B b bs W:=by
 obtain⟨p,c,a⟩:=h.blk;rcases c with rfl|rfl
 ·exact Or.inl ⟨h.hB,v,a,h.own,h.ne⟩
 ·exact Or.inr ⟨h.hB,v,a,h.own,h.ne⟩
theorem vJ(B b:Nat)(v:Value)(bs:List Value)(s:ByteArray)(w:World)(h:BldAt B w b v bs)(hlen:bs.length+s.size≤140737488355328)(hBw:B≤w.heap.size):
 Calls prog 222 #[.pointer (some ⟨b,0,none⟩),.string s] w fun e w'=>e= .returned (.tuple #[.int .i64 s.size,.nilIface])∧∃v',BldAt B w' b v' (bs++Lib.strCells s)∧Chg (fun k=>k=b∨v.ownBlock=some k) w w':=by
 obtain⟨K,M,E,F,G⟩:=info_parts infoByte;have I:Calls prog 235 #[.pointer (some ⟨b,0,none⟩)] w fun e w'=>e= .returned (.tuple #[])∧w'.heap[b]?=some (.cells #[.pointer (some ⟨b,0,none⟩),v] 312 (0,0))∧Chg (fun k=>k=b) w w':=by
  obtain⟨p,L,z⟩:=h.blk;rcases L with rfl|rfl
  ·have l:Lib.BuilderAt 312 5 B b (.pointer none) bs w:=⟨h.hB,v,z,h.own,h.ne⟩;refine(vT b w l.cell0 l.shape l.frozen0).mono ?_;rintro e w' ⟨rfl,rfl⟩;exact⟨rfl,cO z 0 _,(Chg.refl _ _).setCell _ _ (fun _=>rfl)⟩
  ·have l:Lib.BuilderAt 312 5 B b (.pointer (some ⟨b,0,none⟩)) bs w:=⟨h.hB,v,z,h.own,h.ne⟩;refine(yY b w l.cell0).mono ?_;rintro e w' ⟨rfl,rfl⟩;exact⟨rfl,z,Chg.refl _ _⟩
 have y:=h.own;have u:=h.ne;have l:=h.hB;clear h;go_enter func222,ntmps222;go_wp2_with (go_at_call 235;refine I.mono ?_);rintro e J ⟨rfl,i,m⟩;have n:=m.row y (fun q hq e=>u (by rw[hq,e]));have Q:J.cell? ⟨b,0,none⟩=some (.pointer (some ⟨b,0,none⟩)):=cB i 0 _ rfl;have R:J.cell? ⟨b,1,none⟩=some v:=cB i 1 _ rfl;go_wp2_with (at_builtin;refine Lib.wpList_append_own_string _ rfl _ _ 218 9 rfl B 5 K underlying218 underlying9 M E F G _ _ _ rfl n s rfl ?c3 ?c4 ?c5 ?_)
 case c3=>unfold maxLen;omega
 case c4=>omega
 case c5=>have:=m.size;omega
 intro v' t a f _;have D:=cX i;have d:t.heap[b]?=some (.cells #[.pointer (some ⟨b,0,none⟩),v] 312 (0,0)):=by
  rw[f.block b D (fun e=>u e.symm)];exact i
 have H:=(m.mono (fun _ _ h=>Or.inl h)).trans (Chg.of_grown f) (fun x _ h=>Or.inr h.symm);have S:t.cell? ⟨b,0,none⟩=some (.pointer (some ⟨b,0,none⟩)):=cB d 0 _ rfl;have P:t.cell? ⟨b,1,none⟩=some v:=cB d 1 _ rfl;have O:=cY d 1;obtain⟨r,o,c,rfl⟩:∃r o c,v'= .slice r o c:=by
  rcases a.2 with⟨A,_⟩|⟨g,c,N,A,_⟩
  ·exact⟨_,_,_,A⟩
  ·exact⟨_,_,_,A⟩
 go_wp2
 go_ret2
 have j:(Value.slice r o c).ownBlock≠some b:=fun e=>gA a d (by decide) b e rfl;refine⟨rfl,.slice r o c,⟨⟨_,Or.inr rfl,cO d 1 _⟩,?_,j,l⟩,H.setCell _ _ (fun _=>Or.inl rfl)⟩;have C:Chg (fun k=>k=b) t (t.setCell ⟨b,1,none⟩ (.slice r o c)):=(Chg.refl _ _).setCell _ _ (fun _=>rfl);have:=C.row a (fun q hq e=>j (by rw[hq,e]));rw[aD,Lib.strCells_length];exact this
def aHT(c:Ct):Prop:=c.up=false→c.clock=0∧c.round=0∧c.toks=(fun _=>0)∧c.holds=(fun _=>0)∧c.wat=(fun _=>zWt)∧c.doing=none
structure Bg where
 used:Bool
 op:Nat
 cl:Int
 lock:Int
 kind:Int
 ttl:Int
 start:Int
 t0:Nat
 asked:Bool
 base:Int
 pv:Vl
 val:Vl
 t1:Nat
def zBg:Bg:=⟨false,0,0,0,0,0,0,0,false,0,zVl,zVl,0⟩
structure Sx where
 cl:Int→Ct
 tb:Int→Int→Rw
 tr:List Ev
 opx:Int→Nat
 bl:Int→Bg
 ah:Int→Int→Int
def Sx.setC(s:Sx)(i:Int)(c:Ct)(e:List Ev):Sx:={s with cl:=upd s.cl i c,tr:=s.tr++e}
def aAu(f:Cf)(a:Int→Int→Int)(i:Int):Int→Int→Int:=fun k j=>
 if k=j then a k j else if j=i then a k j+10 else if k=i then max 0 (a k j-(10+f.drift))else a k j
def iM(a:Int→Int→Int)(i:Int):Int→Int→Int:=fun k j=>if k=i∨j=i then 0 else a k j
def tE(f:Cf)(s:Sx)(i:Int):Sx:={s.setC i {s.cl i with clock:=(s.cl i).clock+1} []with ah:=aAu f s.ah i}
def tI(s:Sx)(i r:Int):Sx:=s.setC i {s.cl i with round:=r} []
def gQ(s:Sx)(i k l t:Int):Sx:={s.setC i (dJ {s.cl i with doing:=some (dT (s.cl i) k l t)} k l t) [gW (s.cl i).num (dT (s.cl i) k l t)]with opx:=upd s.opx i s.tr.length}
def iP(f:Cf)(s:Sx)(i:Int)(o:On):Sx:={s.setC i {s.cl i with round:=(s.cl i).round+1,doing:=some (eH o (s.cl i))} (fA (s.cl i) (eH o (s.cl i)) 1 0 zVl (dI f))with
 bl:=upd s.bl (hO (s.cl i)).bal ⟨true,s.opx i,i,o.lock,o.kind,o.ttl,o.began,s.tr.length,false,0,zVl,zVl,0⟩}
def tN(s:Sx)(i:Int)(o:On)(res:Int):Sx:=s.setC i {s.cl i with doing:=none} (kX (s.cl i) o res 0 0)
def pO(s:Sx)(i:Int)(o:On):Sx:=s.setC i (fT (s.cl i) o o.att.eres o.att.etok o.att.val) (kX (s.cl i) o o.att.eres o.att.eown o.att.etok)
def kE(s:Sx)(i:Int)(o:On)(m:Mg):Sx:=s.setC i {s.cl i with doing:=some (heardOn o m)} []
def iI(f:Cf)(s:Sx)(i:Int)(o:On):Sx:=
 let w:=cU f (s.cl i) o o.att.val
 {s.setC i {s.cl i with doing:=some (eJ o w)} (fA (s.cl i) (eJ o w) 3 o.att.base w.next (dI f))with
  bl:=upd s.bl o.att.bal {s.bl o.att.bal with asked:=true,base:=o.att.base,pv:=o.att.val,val:=w.next,t1:=s.tr.length}}
def rG(s:Sx)(i:Int):Sx:={s.setC i (lY (s.cl i)) (lO (s.cl i))with ah:=iM s.ah i}
def tA(s:Sx)(i:Int):Sx:={s.setC i (iQ (s.cl i)) (iE (s.cl i))with ah:=iM s.ah i}
def jG(j:Int)(r:Rw)(m:Mg):Mg:={decMsg m r with src:=j,dst:=m.src,lock:=m.lock,bal:=m.bal}
def rA(s:Sx)(j:Int)(m:Mg)(e:List Ev):Sx:={s with tb:=fun a l=>if a=j∧l=m.lock then dX m (s.tb j m.lock)else s.tb a l,tr:=s.tr++e}
def sEv(s:Sx)(j k:Int):Sx:={s with tr:=s.tr++[{zEv with kind:=k,node:=j}]}
def aAj(f:Cf)(s:Sx)(i:Int):Prop:=∀k,0≤k→k<f.clients→k≠i→(s.cl k).up=true→s.ah k i≤10
def Mi(f:Cf)(gd:Bool)(s s':Sx):Prop:=∀P:Sx→Prop,
 (∀(i:Int) (h0:0≤i) (h1:i<f.clients) (hu:(s.cl i).up=true) (hg:gd=true→aAj f s i),P (tE f s i))→
 (∀(i r:Int) (o:On) (h0:0≤i) (h1:i<f.clients) (hu:(s.cl i).up=true) (hd:(s.cl i).doing=some o) (hr:(s.cl i).round≤r) (hr':r≤1000),P (tI s i r))→
 (∀(i k l t:Int) (h0:0≤i) (h1:i<f.clients) (hu:(s.cl i).up=true) (hd:(s.cl i).doing=none) (hk:1≤k∧k≤4) (hl:0≤l∧l≤3) (ht:0≤t∧t≤1000) (ht1:k≤2→1≤t) (ht2:2<k→t=0),P (gQ s i k l t))→
 (∀(i:Int) (o:On) (h0:0≤i) (h1:i<f.clients) (hu:(s.cl i).up=true) (hd:(s.cl i).doing=some o) (hr:(s.cl i).round<1000),P (iP f s i o))→
 (∀(i:Int) (o:On) (res:Int) (h0:0≤i) (h1:i<f.clients) (hu:(s.cl i).up=true) (hd:(s.cl i).doing=some o) (hr:res=5∨res=6),P (tN s i o res))→
 (∀(i:Int) (o:On) (h0:0≤i) (h1:i<f.clients) (hu:(s.cl i).up=true) (hd:(s.cl i).doing=some o) (h4:o.att.awaited=4) (hq:f.f<o.att.ans.length),P (pO s i o))→
 (∀(i:Int) (o:On) (m:Mg) (h0:0≤i) (h1:i<f.clients) (hu:(s.cl i).up=true) (hd:(s.cl i).doing=some o) (hm:m ∈ cH s.tr) (hb:m.bal=o.att.bal) (hk0:1≤m.kind) (hk:m.kind=o.att.awaited) (ha:o.att.ans.contains m.src=false),P (kE s i o m))→
 (∀(i:Int) (o:On) (h0:0≤i) (h1:i<f.clients) (hu:(s.cl i).up=true) (hd:(s.cl i).doing=some o) (h2:o.att.awaited=2) (hq:f.f<o.att.ans.length) (hr:(cU f (s.cl i) o o.att.val).res≠5),P (iI f s i o))→
 (∀(i:Int) (h0:0≤i) (h1:i<f.clients) (hu:(s.cl i).up=true),P (rG s i))→
 (∀(i:Int) (h0:0≤i) (h1:i<f.clients) (hu:(s.cl i).up=false) (hi:(s.cl i).inc<63),P (tA s i))→
 (∀(j:Int) (m:Mg) (e:List Ev) (h0:0≤j) (h1:j<2*f.f+1) (hm:m ∈ cH s.tr) (hk:m.kind=1∨m.kind=3) (he:e=[]∨e=[fC (jG j (s.tb j m.lock) m)]),P (rA s j m e))→
 (∀(j k:Int) (h0:0≤j) (hk:k=4∨k=5),P (sEv s j k))→
 P s'
theorem Mi.elim{f:Cf}{gd:Bool}{s s':Sx}{P:Sx→Prop}(h:Mi f gd s s')(tick:∀(i:Int) (h0:0≤i) (h1:i<f.clients) (hu:(s.cl i).up=true) (hg:gd=true→aAj f s i),P (tE f s i))
 (bump:∀(i r:Int) (o:On) (h0:0≤i) (h1:i<f.clients) (hu:(s.cl i).up=true) (hd:(s.cl i).doing=some o) (hr:(s.cl i).round≤r) (hr':r≤1000),P (tI s i r))
 (began:∀(i k l t:Int) (h0:0≤i) (h1:i<f.clients) (hu:(s.cl i).up=true) (hd:(s.cl i).doing=none) (hk:1≤k∧k≤4) (hl:0≤l∧l≤3) (ht:0≤t∧t≤1000) (ht1:k≤2→1≤t) (ht2:2<k→t=0),P (gQ s i k l t))
 (att:∀(i:Int) (o:On) (h0:0≤i) (h1:i<f.clients) (hu:(s.cl i).up=true) (hd:(s.cl i).doing=some o) (hr:(s.cl i).round<1000),P (iP f s i o))
 (endU:∀(i:Int) (o:On) (res:Int) (h0:0≤i) (h1:i<f.clients) (hu:(s.cl i).up=true) (hd:(s.cl i).doing=some o) (hr:res=5∨res=6),P (tN s i o res))
 (endQ:∀(i:Int) (o:On) (h0:0≤i) (h1:i<f.clients) (hu:(s.cl i).up=true) (hd:(s.cl i).doing=some o) (h4:o.att.awaited=4) (hq:f.f<o.att.ans.length),P (pO s i o))
 (hear:∀(i:Int) (o:On) (m:Mg) (h0:0≤i) (h1:i<f.clients) (hu:(s.cl i).up=true) (hd:(s.cl i).doing=some o) (hm:m ∈ cH s.tr) (hb:m.bal=o.att.bal) (hk0:1≤m.kind) (hk:m.kind=o.att.awaited) (ha:o.att.ans.contains m.src=false),P (kE s i o m))
 (prop:∀(i:Int) (o:On) (h0:0≤i) (h1:i<f.clients) (hu:(s.cl i).up=true) (hd:(s.cl i).doing=some o) (h2:o.att.awaited=2) (hq:f.f<o.att.ans.length) (hr:(cU f (s.cl i) o o.att.val).res≠5),P (iI f s i o))
 (lose:∀(i:Int) (h0:0≤i) (h1:i<f.clients) (hu:(s.cl i).up=true),P (rG s i))
 (ret:∀(i:Int) (h0:0≤i) (h1:i<f.clients) (hu:(s.cl i).up=false) (hi:(s.cl i).inc<63),P (tA s i))
 (acc:∀(j:Int) (m:Mg) (e:List Ev) (h0:0≤j) (h1:j<2*f.f+1) (hm:m ∈ cH s.tr) (hk:m.kind=1∨m.kind=3) (he:e=[]∨e=[fC (jG j (s.tb j m.lock) m)]),P (rA s j m e))
 (ev:∀(j k:Int) (h0:0≤j) (hk:k=4∨k=5),P (sEv s j k)):P s':=h P tick bump began att endU endQ hear prop lose ret acc ev
section
variable {f:Cf}{gd:Bool}(s:Sx)
theorem Mi.tick(i:Int)(h0:0≤i)(h1:i<f.clients)(hu:(s.cl i).up=true)(hg:gd=true→aAj f s i):Mi f gd s (tE f s i):=fun _ c _ _ _ _ _ _ _ _ _ _ _=>c i h0 h1 hu hg
theorem Mi.bump(i r:Int)(o:On)(h0:0≤i)(h1:i<f.clients)(hu:(s.cl i).up=true)(hd:(s.cl i).doing=some o)(hr:(s.cl i).round≤r)(hr':r≤1000):Mi f gd s (tI s i r):=fun _ _ c _ _ _ _ _ _ _ _ _ _=>c i r o h0 h1 hu hd hr hr'
theorem Mi.began(i k l t:Int)(h0:0≤i)(h1:i<f.clients)(hu:(s.cl i).up=true)(hd:(s.cl i).doing=none)(hk:1≤k∧k≤4)(hl:0≤l∧l≤3)(ht:0≤t∧t≤1000)(ht1:k≤2→1≤t)(ht2:2<k→t=0):Mi f gd s (gQ s i k l t):=fun _ _ _ c _ _ _ _ _ _ _ _ _=>c i k l t h0 h1 hu hd hk hl ht ht1 ht2
section
variable (i:Int) (o:On)
theorem Mi.att(h0:0≤i)(h1:i<f.clients)(hu:(s.cl i).up=true)(hd:(s.cl i).doing=some o)(hr:(s.cl i).round<1000):Mi f gd s (iP f s i o):=fun _ _ _ _ c _ _ _ _ _ _ _ _=>c i o h0 h1 hu hd hr
theorem Mi.endU(res:Int)(h0:0≤i)(h1:i<f.clients)(hu:(s.cl i).up=true)(hd:(s.cl i).doing=some o)(hr:res=5∨res=6):Mi f gd s (tN s i o res):=fun _ _ _ _ _ c _ _ _ _ _ _ _=>c i o res h0 h1 hu hd hr
theorem Mi.endQ(h0:0≤i)(h1:i<f.clients)(hu:(s.cl i).up=true)(hd:(s.cl i).doing=some o)(h4:o.att.awaited=4)(hq:f.f<o.att.ans.length):Mi f gd s (pO s i o):=fun _ _ _ _ _ _ c _ _ _ _ _ _=>c i o h0 h1 hu hd h4 hq
theorem Mi.hear(m:Mg)(h0:0≤i)(h1:i<f.clients)(hu:(s.cl i).up=true)(hd:(s.cl i).doing=some o)(hm:m ∈ cH s.tr)(hb:m.bal=o.att.bal)(hk0:1≤m.kind)(hk:m.kind=o.att.awaited)(ha:o.att.ans.contains m.src=false):Mi f gd s (kE s i o m):=fun _ _ _ _ _ _ _ c _ _ _ _ _=>c i o m h0 h1 hu hd hm hb hk0 hk ha
theorem Mi.prop(h0:0≤i)(h1:i<f.clients)(hu:(s.cl i).up=true)(hd:(s.cl i).doing=some o)(h2:o.att.awaited=2)(hq:f.f<o.att.ans.length)(hr:(cU f (s.cl i) o o.att.val).res≠5):Mi f gd s (iI f s i o):=fun _ _ _ _ _ _ _ _ c _ _ _ _=>c i o h0 h1 hu hd h2 hq hr
end
theorem Mi.lose(i:Int)(h0:0≤i)(h1:i<f.clients)(hu:(s.cl i).up=true):Mi f gd s (rG s i):=fun _ _ _ _ _ _ _ _ _ c _ _ _=>c i h0 h1 hu
theorem Mi.ret(i:Int)(h0:0≤i)(h1:i<f.clients)(hu:(s.cl i).up=false)(hi:(s.cl i).inc<63):Mi f gd s (tA s i):=fun _ _ _ _ _ _ _ _ _ _ c _ _=>c i h0 h1 hu hi
theorem Mi.acc(j:Int)(m:Mg)(e:List Ev)(h0:0≤j)(h1:j<2*f.f+1)(hm:m ∈ cH s.tr)(hk:m.kind=1∨m.kind=3)(he:e=[]∨e=[fC (jG j (s.tb j m.lock) m)]):Mi f gd s (rA s j m e):=fun _ _ _ _ _ _ _ _ _ _ _ c _=>c j m e h0 h1 hm hk he
theorem Mi.ev(j k:Int)(h0:0≤j)(hk:k=4∨k=5):Mi f gd s (sEv s j k):=fun _ _ _ _ _ _ _ _ _ _ _ _ c=>c j k h0 hk
end
def qX:Sx:=⟨fun i=>uN i,fun _ l=>{zRw with lock:=l},[],fun _=>0,fun _=>zBg,fun _ _=>0⟩
def MiR(f:Cf)(gd:Bool)(s:Sx):Prop:=∀P:Sx→Prop,P qX→(∀s s',P s→Mi f gd s s'→P s')→P s
section
variable {f:Cf} {gd:Bool}
theorem MiR.new:MiR f gd qX:=fun _ h _=>h
theorem MiR.step{s s':Sx}(h:MiR f gd s)(h':Mi f gd s s'):MiR f gd s':=fun P a b=>b s s' (h P a b) h'
theorem MiR.ind{P:Sx→Prop}(h0:P qX)(hs:∀s s',MiR f gd s→P s→Mi f gd s s'→P s'){s:Sx}(h:MiR f gd s):P s:=
 (h (fun s=>MiR f gd s∧P s) ⟨.new,h0⟩ (fun s s' k h'=>⟨k.1.step h',hs s s' k.1 k.2 h'⟩)).2
end
abbrev flL(c:Cf)(g:Nat)(a:Int→Int→Int)(d:Int→Bool):List Value:=
 [.int .i64 c.f,.int .i64 c.clients,.int .i64 c.patience,.int .i64 c.tries,.int .i64 c.drift,.int .i64 c.compact,.int .i64 c.room,.pointer (some ⟨g,0,none⟩),
  .int .i64 (a 0 0),.int .i64 (a 0 1),.int .i64 (a 0 2),.int .i64 (a 0 3),.int .i64 (a 1 0),.int .i64 (a 1 1),.int .i64 (a 1 2),.int .i64 (a 1 3),
  .int .i64 (a 2 0),.int .i64 (a 2 1),.int .i64 (a 2 2),.int .i64 (a 2 3),.int .i64 (a 3 0),.int .i64 (a 3 1),.int .i64 (a 3 2),.int .i64 (a 3 3),
  .bool (d 0),.bool (d 1),.bool (d 2),.bool (d 3)]
def FlB(W:World)(b:Nat)(c:Cf)(g:Nat)(a:Int→Int→Int)(d:Int→Bool):Prop:=W.heap[b]?=some (.cells (flL c g a d).toArray 40 (0,0))
def tD(a:Int→Int→Int)(k i v:Int):Int→Int→Int:=fun p q=>if p=k∧q=i then v else a p q
section
variable {W W':World}{b:Nat}{c:Cf}{g:Nat}{a a':Int→Int→Int}{d d':Int→Bool}
theorem FlB.congr(h:FlB W b c g a d)(ha:∀p q:Int,0≤p→p<4→0≤q→q<4→a p q=a' p q)(hd:∀p:Int,0≤p→p<4→d p=d' p):FlB W b c g a' d':=by
 have e:flL c g a d=flL c g a' d':=by
  unfold flL;rw[ha 0 0 (by decide) (by decide) (by decide) (by decide),ha 0 1 (by decide) (by decide) (by decide) (by decide),ha 0 2 (by decide) (by decide) (by decide) (by decide),ha 0 3 (by decide) (by decide) (by decide) (by decide),ha 1 0 (by decide) (by decide) (by decide) (by decide),ha 1 1 (by decide) (by decide) (by decide) (by decide),ha 1 2 (by decide) (by decide) (by decide) (by decide),ha 1 3 (by decide) (by decide) (by decide) (by decide),ha 2 0 (by decide) (by decide) (by decide) (by decide),ha 2 1 (by decide) (by decide) (by decide) (by decide),ha 2 2 (by decide) (by decide) (by decide) (by decide),ha 2 3 (by decide) (by decide) (by decide) (by decide),ha 3 0 (by decide) (by decide) (by decide) (by decide),ha 3 1 (by decide) (by decide) (by decide) (by decide),ha 3 2 (by decide) (by decide) (by decide) (by decide),ha 3 3 (by decide) (by decide) (by decide) (by decide),hd 0 (by decide) (by decide),hd 1 (by decide) (by decide),hd 2 (by decide) (by decide),hd 3 (by decide) (by decide)]
 unfold FlB at h⊢;rw[←e];exact h
theorem aDP{k:Nat}(h:k<4):k=0∨k=1∨k=2∨k=3:=by omega
theorem FlB.ah(h:FlB W b c g a d){k i:Nat}(hk:k<4)(hi:i<4):W.cell? ⟨b,8+k*4+i,none⟩=some (.int .i64 (a k i)):=by
 refine cB h _ _ ?_;rcases aDP hk with rfl|rfl|rfl|rfl<;>rcases aDP hi with rfl|rfl|rfl|rfl<;>rfl
theorem FlB.dn(h:FlB W b c g a d){k:Nat}(hk:k<4):W.cell? ⟨b,24+k,none⟩=some (.bool (d k)):=by
 refine cB h _ _ ?_;rcases aDP hk with rfl|rfl|rfl|rfl<;>rfl
theorem FlB.setA(h:FlB W b c g a d){k i:Nat}(hk:k<4)(hi:i<4)(v:Int):FlB (W.setCell ⟨b,8+k*4+i,none⟩ (.int .i64 v)) b c g (tD a k i v) d:=by
 have:=cO h (8+k*4+i) (.int .i64 v);unfold FlB;rw[this];rcases aDP hk with rfl|rfl|rfl|rfl<;>rcases aDP hi with rfl|rfl|rfl|rfl<;>rfl
theorem FlB.setD(h:FlB W b c g a d){k:Nat}(hk:k<4)(v:Bool):FlB (W.setCell ⟨b,24+k,none⟩ (.bool v)) b c g a (fun p=>if p=k then v else d p):=by
 have:=cO h (24+k) (.bool v);unfold FlB;rw[this];rcases aDP hk with rfl|rfl|rfl|rfl<;>rfl
theorem FlB.of_heap(h:FlB W b c g a d)(hb:W'.heap[b]?=W.heap[b]?):FlB W' b c g a d:=hb.trans h
theorem FlB.lt(h:FlB W b c g a d):b<W.heap.size:=by
 have:=h;unfold FlB at this;exact(Array.getElem?_eq_some_iff.1 this).1
end
def wA(a:Int→Int→Int)(i n:Int):Int→Int→Int:=fun p q=>if(p=i∧q<n)∨(q=i∧p<n)then 0 else a p q
theorem aDC(W:World)(b:Nat)(i:Int)(e:Int)(he:e≠0)(v:Bool):
 Calls prog 45 #[.pointer (some ⟨b,0,none⟩),.int .i64 i,.int .i64 e,.bool v] W fun r W'=>r= .returned (.tuple #[])∧W'=W:=by
 have a:(e !=0)=true:=by simp[he]
 clear he;go_enter func45,ntmps45;go_wp2_with fail
 ((try simp only[Exit.inBlock,Exit.then]);refine bodyPost_ret (results_none rfl _ _ _) rfl ?_)
 exact⟨rfl,rfl⟩
theorem FlB.open_{W:World}{b:Nat}{c:Cf}{g:Nat}{a:Int→Int→Int}{d:Int→Bool}(h:FlB W b c g a d):∃X:Array Value,W.heap[b]?=some (.cells X 40 (0,0)):=⟨_,h⟩
theorem aDn(W:World)(b:Nat)(c:Cf)(g:Nat)(a:Int→Int→Int)(d:Int→Bool)(h:FlB W b c g a d)(i:Nat)(hi:i<4)(v:Bool):
 Calls prog 45 #[.pointer (some ⟨b,0,none⟩),.int .i64 (i:Int),.int .i64 0,.bool v] W fun r W'=>r= .returned (.tuple #[])∧Chg (fun k=>k=b) W W'∧FlB W' b c g (iM a i) (fun p=>if p=i then v else d p):=by
 have u:=cA hi;have j:=h.setD hi v;obtain⟨X,t⟩:=h.open_;have G:=h.dn hi;have F:=cY t (24+i);have J:decide ((i:Int)<0)=false:=by simp
 have K:decide ((4:Int)≤(i:Int))=false:=by simp;omega
 have E:(i:Int)<4:=by omega
 have e:Chg (fun k=>k=b) W (W.setCell ⟨b,24+i,none⟩ (.bool v)):=(Chg.refl _ _).setCell _ _ (fun _=>rfl);generalize f:W.setCell ⟨b,24+i,none⟩ (.bool v)=W1 at j e;have B:=cA f;have D:=cA (aH3 j e);clear h f j e hi;go_enter func45,ntmps45;go_wp2_with (first|rw[B.out]);clear t G F;go_loopw [8] (fun k wr=>∃n:Nat,n≤4∧k= .int .i64 n∧Hid (FlB wr b c g (wA a i n) (fun p=>if p=i then v else d p)∧Chg (fun k=>k=b) W wr)) (fun k _=>4-(intOf k).toNat)
 case atStart=>exact⟨0,by decide,rfl,⟨D.out.1.congr (fun p q p0 p1 q0 q1=>by unfold wA;rw[if_neg];omega) (fun _ _ _=>rfl),D.out.2⟩⟩
 case round=>
  obtain⟨n,O,rfl,o⟩:=hrel;by_cases l:n<4
  ·obtain⟨X,t⟩:=o.out.1.open_;have M:=o.out.1.ah u.out l;have L:=cY t (8+i*4+n);have j:=o.out.1.setA u.out l 0;have e:=o.out.2.setCell ⟨b,8+i*4+n,none⟩ (.int .i64 0) (fun _=>rfl);generalize f:wr.setCell ⟨b,8+i*4+n,none⟩ (.int .i64 0)=W2 at j e;have A:=cA f;obtain⟨Q,y⟩:=j.open_;have N:=j.ah l u.out;have P:=cY y (8+n*4+i);have w:=j.setA l u.out 0;have m:=e.setCell ⟨b,8+n*4+i,none⟩ (.int .i64 0) (fun _=>rfl);generalize s:W2.setCell ⟨b,8+n*4+i,none⟩ (.int .i64 0)=W3 at w m;have z:=cA s;have C:=cA (aH3 w m);clear f s j e w m;have I:decide ((n:Int)<0)=false:=by simp
   have H:decide ((4:Int)≤(n:Int))=false:=by simp;omega
   have x:(n:Int)<4:=by omega
   go_wp2_with (first|rw[A.out]|rw[z.out]);go_roundw
   case rel=>exact⟨n+1,by omega,by go_num,⟨C.out.1.congr (fun p q p0 p1 q0 q1=>by
    unfold tD wA
    repeat' split
    all_goals first|rfl|(exfalso;omega)) (fun _ _ _=>rfl),C.out.2⟩⟩
   case measure=>simp[intOf];omega
  ·have x:¬(n:Int)<4:=by omega
   go_wp2_with fail
   (first|go_end0|((try simp only[Exit.inBlock,Exit.then]);refine bodyPost_ret (results_none rfl _ _ _) rfl ?_))
   exact⟨rfl,o.out.2,o.out.1.congr (fun p q p0 p1 q0 q1=>by
    unfold wA iM
    repeat' split
    all_goals first|rfl|(exfalso;omega)) (fun _ _ _=>rfl)⟩
theorem eW{α:Type}(f:Int→α)(k:Int)(v:α):upd f k v k=v:=if_pos rfl
theorem fJ{α:Type}(f:Int→α){k j:Int}(v:α)(h:j≠k):upd f k v j=f j:=if_neg h
structure aHe(c c':Ct):Prop where
 num:c'.num=c.num
 inc:c'.inc=c.inc
 up:c'.up=c.up
 clock:c'.clock=c.clock
 round:c'.round=c.round
theorem qC(c:Ct)(o:On)(res tok:Int)(v:Vl):aHe c (fT c o res tok v)∧(fT c o res tok v).doing=none:=by
 unfold fT kD nZ lW;dsimp only
 repeat' split
 all_goals exact⟨⟨rfl,rfl,rfl,rfl,rfl⟩,rfl⟩
theorem mY(c:Ct)(k l t:Int):aHe c (dJ c k l t)∧(dJ c k l t).doing=c.doing:=by
 unfold dJ
 repeat' split
 all_goals exact⟨⟨rfl,rfl,rfl,rfl,rfl⟩,rfl⟩
theorem sT{c:Ct}(h:c.up=true):lY c=⟨c.num,c.inc,false,0,0,fun _=>0,fun _=>0,fun _=>zWt,none⟩:=by
 unfold lY;rw[if_neg (by rw[h];decide)]
theorem tH{c:Ct}(h:c.up=false)(hi:c.inc<63):iQ c={c with inc:=c.inc+1,up:=true}:=by
 have e:eK c=0:=by unfold eK;rw[if_neg (by rw[h];decide),if_neg (by omega)]
 unfold iQ;rw[e,if_neg (by decide)]
structure I0(f:Cf)(s:Sx):Prop where
 num:∀i,0≤i→i<f.clients→(s.cl i).num=i
 inc0:∀i,0≤i→i<f.clients→0≤(s.cl i).inc
 inc1:∀i,0≤i→i<f.clients→(s.cl i).inc≤63
 rnd0:∀i,0≤i→i<f.clients→0≤(s.cl i).round
 rnd1:∀i,0≤i→i<f.clients→(s.cl i).round≤1000
 clk:∀i,0≤i→i<f.clients→0≤(s.cl i).clock
 gone:∀i,0≤i→i<f.clients→aHT (s.cl i)
 bal:∀i,0≤i→i<f.clients→∀o,(s.cl i).doing=some o→(o.att.bal=0∧o.att.awaited=0∧o.mine=[]∧o.att.ans=[])∨((s.bl o.att.bal).used=true∧(s.bl o.att.bal).cl=i∧o.att.bal / 4 % 64=(s.cl i).inc∧(o.att.awaited=2∨o.att.awaited=4))
 fr0:∀b,(s.bl b).used=true→256≤b∧0≤(s.bl b).cl∧(s.bl b).cl<f.clients∧b % 4=(s.bl b).cl
 fr1:∀b,(s.bl b).used=true→b / 4 % 64≤(s.cl (s.bl b).cl).inc
 fr2:∀b,(s.bl b).used=true→b / 4 % 64=(s.cl (s.bl b).cl).inc→(s.cl (s.bl b).cl).up=true→b / 256≤(s.cl (s.bl b).cl).round
theorem aGd(f:Cf):I0 f qX:=by
 refine⟨fun i _ _=>rfl,fun i _ _=>(by decide:(0:Int)≤0),fun i _ _=>(by decide:(0:Int)≤63),fun i _ _=>(by decide:(0:Int)≤0),fun i _ _=>(by decide:(0:Int)≤1000),fun i _ _=>(by decide:(0:Int)≤0),fun i _ _ h=>?_,fun i _ _ o ho=>?_,fun b hb=>?_,fun b hb=>?_,fun b hb=>?_⟩
 ·cases h
 ·cases ho
 ·cases hb
 ·cases hb
 ·cases hb
theorem aBT{c:Ct}(h:c.up=true):aHT c:=fun e=>by rw[h]at e;cases e
theorem I0.go{f:Cf}{s s':Sx}(h:I0 f s){i:Int}{c:Ct}(hbl:∀b,((s'.bl b).used=true→(s.bl b).used=true∧(s'.bl b).cl=(s.bl b).cl)∧((s.bl b).used=true→(s'.bl b).used=true))(hcl:s'.cl=upd s.cl i c)(h0:0≤i)(h1:i<f.clients)
 (hn:c.num=(s.cl i).num) (hi:c.inc=(s.cl i).inc) (hup:c.up=(s.cl i).up) (hu:(s.cl i).up=true) (hk:(s.cl i).clock≤c.clock) (hr:(s.cl i).round≤c.round) (hr':c.round≤1000)
 (hb:∀o,c.doing=some o→(o.att.bal=0∧o.att.awaited=0∧o.mine=[]∧o.att.ans=[])∨((s'.bl o.att.bal).used=true∧(s'.bl o.att.bal).cl=i∧o.att.bal / 4 % 64=(s.cl i).inc∧(o.att.awaited=2∨o.att.awaited=4))):I0 f s':=by
 have e:∀j,s'.cl j=if j=i then c else s.cl j:=fun j=>by rw[hcl];rfl
 refine⟨fun j j0 j1=>?_,fun j j0 j1=>?_,fun j j0 j1=>?_,fun j j0 j1=>?_,fun j j0 j1=>?_,fun j j0 j1=>?_,fun j j0 j1=>?_,fun j j0 j1 o ho=>?_,fun b hbu=>?_,fun b hbu=>?_,fun b hbu=>?_⟩
 ·rw[e];split
  ·rename_i q;subst q;rw[hn];exact h.num j j0 j1
  ·exact h.num j j0 j1
 ·rw[e];split
  ·rw[hi];exact h.inc0 i h0 h1
  ·exact h.inc0 j j0 j1
 ·rw[e];split
  ·rw[hi];exact h.inc1 i h0 h1
  ·exact h.inc1 j j0 j1
 ·rw[e];split
  ·have:=h.rnd0 i h0 h1;omega
  ·exact h.rnd0 j j0 j1
 ·rw[e];split
  ·exact hr'
  ·exact h.rnd1 j j0 j1
 ·rw[e];split
  ·have:=h.clk i h0 h1;omega
  ·exact h.clk j j0 j1
 ·rw[e];split
  ·exact aBT (hup.trans hu)
  ·exact h.gone j j0 j1
 ·rw[e]at ho⊢;split at ho
  ·rename_i q;subst q;rw[if_pos rfl,hi];exact hb o ho
  ·rename_i q;rw[if_neg q];rcases h.bal j j0 j1 o ho with d|⟨d,g,m,l⟩
   ·exact Or.inl d
   ·have k:=(hbl o.att.bal).2 d;exact Or.inr ⟨k,((hbl o.att.bal).1 k).2.trans g,m,l⟩
 ·obtain⟨d,g⟩:=(hbl b).1 hbu;rw[g];exact h.fr0 b d
 ·obtain⟨d,g⟩:=(hbl b).1 hbu;rw[g,e];have:=h.fr1 b d;split
  ·rename_i q;rw[q]at this;rw[hi];exact this
  ·exact this
 ·obtain⟨d,g⟩:=(hbl b).1 hbu;rw[g,e];have:=h.fr2 b d;split
  ·rename_i q;rw[q]at this;rw[hi];exact fun a b'=>by have:=this a hu;omega
  ·exact this
theorem I0.round_bal{f:Cf}{s:Sx}(h:I0 f s)(hf:f.clients≤4){i:Int}(h0:0≤i)(h1:i<f.clients):(hO (s.cl i)).bal % 4=i∧(hO (s.cl i)).bal / 4 % 64=(s.cl i).inc∧(hO (s.cl i)).bal / 256=(s.cl i).round+1∧256≤(hO (s.cl i)).bal:=by
 have e:(hO (s.cl i)).bal=((s.cl i).round+1)*256+(s.cl i).inc*4+(s.cl i).num:=rfl;rw[e];have:=h.num i h0 h1;have:=h.inc0 i h0 h1;have:=h.inc1 i h0 h1;have:=h.rnd0 i h0 h1;omega
theorem I0.new_unused{f:Cf}{s:Sx}(h:I0 f s)(hf:f.clients≤4){i:Int}(h0:0≤i)(h1:i<f.clients)(hu:(s.cl i).up=true):(s.bl (hO (s.cl i)).bal).used=false:=by
 cases hb:(s.bl (hO (s.cl i)).bal).used with
 |false=>rfl
 |true=>
  exfalso;obtain⟨b,d,e,g⟩:=h.round_bal hf h0 h1;have q:=h.fr0 _ hb;have c:(s.bl (hO (s.cl i)).bal).cl=i:=by rw[←q.2.2.2];exact b
  have a:=h.fr2 _ hb;rw[c]at a;have:=a d hu;omega
theorem aDB{f:Cf}(hf:f.clients≤4){gd:Bool}{s s':Sx}(h:I0 f s)(hs:Mi f gd s s'):I0 f s':=by
 refine hs.elim (P:=I0 f) ?tick ?bump ?began ?att ?endU ?endQ ?hear ?prop ?lose ?ret ?acc ?ev
 case tick=>
  intro i c d n hg;exact h.go (s':=tE f s i) (fun b=>⟨fun q=>⟨q,rfl⟩,fun q=>q⟩) rfl c d rfl rfl rfl n (by show(s.cl i).clock≤(s.cl i).clock+1;omega) (aL _) (h.rnd1 i c d) (fun o g=>h.bal i c d o g)
 case bump=>
  intro i r o c d n v z F;exact h.go (s':=tI s i r) (fun b=>⟨fun q=>⟨q,rfl⟩,fun q=>q⟩) rfl c d rfl rfl rfl n (aL _) z F (fun o g=>h.bal i c d o g)
 case began=>
  intro i k l t c d n v C hl Z W X;obtain⟨q,D⟩:=mY {s.cl i with doing:=some (dT (s.cl i) k l t)} k l t;refine h.go (s':=gQ s i k l t) (fun b=>⟨fun q=>⟨q,rfl⟩,fun q=>q⟩) rfl c d q.num q.inc q.up n (by rw[q.clock];exact aL _) (by rw[q.round];exact aL _) (by rw[q.round];exact h.rnd1 i c d) (fun o g=>?_);rw[D]at g;cases g;exact Or.inl ⟨rfl,rfl,rfl,rfl⟩
 case att=>
  intro i o c d n v z;obtain⟨R,M,e3,S⟩:=h.round_bal hf c d;have x:=h.new_unused hf c d n;generalize I:(hO (s.cl i)).bal=B at*;have u:∀b,(iP f s i o).bl b=if b=B then⟨true,s.opx i,i,o.lock,o.kind,o.ttl,o.began,s.tr.length,false,0,zVl,zVl,0⟩else s.bl b:=fun b=>by
   show upd s.bl (hO (s.cl i)).bal _ b=_;rw[I];rfl
  have e:∀j,(iP f s i o).cl j=if j=i then{s.cl i with round:=(s.cl i).round+1,doing:=some (eH o (s.cl i))}else s.cl j:=fun j=>rfl
  refine⟨fun j j0 j1=>?_,fun j j0 j1=>?_,fun j j0 j1=>?_,fun j j0 j1=>?_,fun j j0 j1=>?_,fun j j0 j1=>?_,fun j j0 j1=>?_,fun j j0 j1 o' g=>?_,fun b hbu=>?_,fun b hbu=>?_,fun b hbu=>?_⟩
  ·rw[e];split
   ·rename_i q;subst q;exact h.num j j0 j1
   ·exact h.num j j0 j1
  ·rw[e];split
   ·exact h.inc0 i c d
   ·exact h.inc0 j j0 j1
  ·rw[e];split
   ·exact h.inc1 i c d
   ·exact h.inc1 j j0 j1
  ·rw[e];split
   ·have:=h.rnd0 i c d;show 0≤(s.cl i).round+1;omega
   ·exact h.rnd0 j j0 j1
  ·rw[e];split
   ·show(s.cl i).round+1≤1000;omega
   ·exact h.rnd1 j j0 j1
  ·rw[e];split
   ·exact h.clk i c d
   ·exact h.clk j j0 j1
  ·rw[e];split
   ·exact fun q=>by rw[show(s.cl i).up=false from q]at n;cases n
   ·exact h.gone j j0 j1
  ·rw[e]at g⊢;split at g
   ·rename_i q;subst q;rw[if_pos rfl];cases g;have N:(eH o (s.cl j)).att.bal=B:=I;rw[N,u,if_pos rfl];exact Or.inr ⟨rfl,rfl,M,Or.inl rfl⟩
   ·rename_i q;rw[if_neg q];rcases h.bal j j0 j1 o' g with w|⟨w,A,y,H⟩
    ·exact Or.inl w
    ·have E:o'.att.bal≠B:=fun e=>by rw[e,x]at w;cases w
     rw[u,if_neg E];exact Or.inr ⟨w,A,y,H⟩
  ·rw[u]at hbu⊢;by_cases p:b=B
   ·subst p;rw[if_pos rfl];exact⟨S,c,d,R⟩
   ·rw[if_neg p]at hbu⊢;exact h.fr0 b hbu
  ·rw[u]at hbu⊢;by_cases p:b=B
   ·subst p;rw[if_pos rfl,e,if_pos rfl];show b / 4 % 64≤(s.cl i).inc;omega
   ·rw[if_neg p]at hbu⊢;rw[e];have:=h.fr1 b hbu;split
    ·rename_i q;rw[q]at this;exact this
    ·exact this
  ·rw[u]at hbu⊢;by_cases p:b=B
   ·subst p;rw[if_pos rfl,e,if_pos rfl];intro _ _;show b / 256≤(s.cl i).round+1;omega
   ·rw[if_neg p]at hbu⊢;rw[e];have:=h.fr2 b hbu;split
    ·rename_i q;rw[q]at this;intro a K;have:=this a K;show b / 256≤(s.cl i).round+1;omega
    ·exact this
 case endU=>
  intro i o G c d n v z;exact h.go (s':=tN s i o G) (fun b=>⟨fun q=>⟨q,rfl⟩,fun q=>q⟩) rfl c d rfl rfl rfl n (aL _) (aL _) (h.rnd1 i c d) (fun o g=>by cases g)
 case endQ=>
  intro i o c d n v h4 L;obtain⟨q,D⟩:=qC (s.cl i) o o.att.eres o.att.etok o.att.val;exact h.go (s':=pO s i o) (fun b=>⟨fun q=>⟨q,rfl⟩,fun q=>q⟩) rfl c d q.num q.inc q.up n (by rw[q.clock];exact aL _) (by rw[q.round];exact aL _) (by rw[q.round];exact h.rnd1 i c d) (fun o' g=>by rw[D]at g;cases g)
 case hear=>
  intro i o m c d n v Q hb V C ha;refine h.go (s':=kE s i o m) (fun b=>⟨fun q=>⟨q,rfl⟩,fun q=>q⟩) rfl c d rfl rfl rfl n (aL _) (aL _) (h.rnd1 i c d) (fun o' g=>?_);cases g;rcases h.bal i c d o v with⟨w,A,y,H⟩|q
  ·exfalso;omega
  ·exact Or.inr q
 case prop=>
  intro i o c d n v Y L z;have g:=h.bal i c d o v;have u:∀b,((iI f s i o).bl b).used=(s.bl b).used∧((iI f s i o).bl b).cl=(s.bl b).cl:=fun b=>by
   show(upd s.bl o.att.bal _ b).used=_∧(upd s.bl o.att.bal _ b).cl=_;unfold upd;split
   ·rename_i q;subst q;exact⟨rfl,rfl⟩
   ·exact⟨rfl,rfl⟩
  refine h.go (s':=iI f s i o) (fun b=>?_) rfl c d rfl rfl rfl n (aL _) (aL _) (h.rnd1 i c d) (fun o' ho'=>?_)
  ·rw[(u b).1,(u b).2];exact⟨fun q=>⟨q,rfl⟩,fun q=>q⟩
  ·cases ho';rcases g with⟨_,q,_⟩|⟨w,A,y,_⟩
   ·omega
   ·refine Or.inr ⟨?_,?_,y,Or.inr rfl⟩
    ·exact(u o.att.bal).1.trans w
    ·exact(u o.att.bal).2.trans A
 case lose=>
  intro i c d n;have e:∀j,(rG s i).cl j=if j=i then lY (s.cl i)else s.cl j:=fun j=>rfl
  rw[sT n]at e;refine⟨fun j j0 j1=>?_,fun j j0 j1=>?_,fun j j0 j1=>?_,fun j j0 j1=>?_,fun j j0 j1=>?_,fun j j0 j1=>?_,fun j j0 j1=>?_,fun j j0 j1 o' g=>?_,fun b hbu=>?_,fun b hbu=>?_,fun b hbu=>?_⟩
  ·rw[e];split
   ·rename_i q;subst q;exact h.num j j0 j1
   ·exact h.num j j0 j1
  ·rw[e];split
   ·exact h.inc0 i c d
   ·exact h.inc0 j j0 j1
  ·rw[e];split
   ·exact h.inc1 i c d
   ·exact h.inc1 j j0 j1
  ·rw[e];split
   ·exact aL _
   ·exact h.rnd0 j j0 j1
  ·rw[e];split
   ·exact(by decide:(0:Int)≤1000)
   ·exact h.rnd1 j j0 j1
  ·rw[e];split
   ·exact aL _
   ·exact h.clk j j0 j1
  ·rw[e];split
   ·exact fun _=>⟨rfl,rfl,rfl,rfl,rfl,rfl⟩
   ·exact h.gone j j0 j1
  ·rw[e]at g⊢;split at g
   ·cases g
   ·rename_i q;rw[if_neg q];exact h.bal j j0 j1 o' g
  ·exact h.fr0 b hbu
  ·rw[e];have:=h.fr1 b hbu;show b / 4 % 64≤(if(s.bl b).cl=i then _ else s.cl (s.bl b).cl:Ct).inc;split
   ·rename_i q;rw[q]at this;exact this
   ·exact this
  ·rw[e];show b / 4 % 64=(if(s.bl b).cl=i then _ else s.cl (s.bl b).cl:Ct).inc→(if(s.bl b).cl=i then _ else s.cl (s.bl b).cl:Ct).up=true→b / 256≤(if(s.bl b).cl=i then _ else s.cl (s.bl b).cl:Ct).round;split
   ·intro _ q;cases q
   ·exact h.fr2 b hbu
 case ret=>
  intro i c d n O;have e:∀j,(tA s i).cl j=if j=i then iQ (s.cl i)else s.cl j:=fun j=>rfl
  rw[tH n O]at e;obtain⟨g1,g2,g3,g4,g5,J⟩:=h.gone i c d n;refine⟨fun j j0 j1=>?_,fun j j0 j1=>?_,fun j j0 j1=>?_,fun j j0 j1=>?_,fun j j0 j1=>?_,fun j j0 j1=>?_,fun j j0 j1=>?_,fun j j0 j1 o' g=>?_,fun b hbu=>?_,fun b hbu=>?_,fun b hbu=>?_⟩
  ·rw[e];split
   ·rename_i q;subst q;exact h.num j j0 j1
   ·exact h.num j j0 j1
  ·rw[e];split
   ·have:=h.inc0 i c d;show 0≤(s.cl i).inc+1;omega
   ·exact h.inc0 j j0 j1
  ·rw[e];split
   ·show(s.cl i).inc+1≤63;omega
   ·exact h.inc1 j j0 j1
  ·rw[e];split
   ·exact h.rnd0 i c d
   ·exact h.rnd0 j j0 j1
  ·rw[e];split
   ·exact h.rnd1 i c d
   ·exact h.rnd1 j j0 j1
  ·rw[e];split
   ·exact h.clk i c d
   ·exact h.clk j j0 j1
  ·rw[e];split
   ·exact fun q=>by cases q
   ·exact h.gone j j0 j1
  ·rw[e]at g⊢;split at g
   ·rw[show({s.cl i with inc:=(s.cl i).inc+1,up:=true}:Ct).doing=(s.cl i).doing from rfl,J]at g;cases g
   ·rename_i q;rw[if_neg q];exact h.bal j j0 j1 o' g
  ·exact h.fr0 b hbu
  ·rw[e];have:=h.fr1 b hbu;show b / 4 % 64≤(if(s.bl b).cl=i then _ else s.cl (s.bl b).cl:Ct).inc;split
   ·rename_i q;rw[q]at this;show _≤(s.cl i).inc+1;omega
   ·exact this
  ·rw[e];show b / 4 % 64=(if(s.bl b).cl=i then _ else s.cl (s.bl b).cl:Ct).inc→(if(s.bl b).cl=i then _ else s.cl (s.bl b).cl:Ct).up=true→b / 256≤(if(s.bl b).cl=i then _ else s.cl (s.bl b).cl:Ct).round;have:=h.fr1 b hbu;split
   ·rename_i q;rw[q]at this;intro T _;have U:b / 4 % 64=(s.cl i).inc+1:=T;omega
   ·exact h.fr2 b hbu
 case acc=>
  intro j m e c d Q C he;exact⟨h.num,h.inc0,h.inc1,h.rnd0,h.rnd1,h.clk,h.gone,h.bal,h.fr0,h.fr1,h.fr2⟩
 case ev=>
  intro j k c C;exact⟨h.num,h.inc0,h.inc1,h.rnd0,h.rnd1,h.clk,h.gone,h.bal,h.fr0,h.fr1,h.fr2⟩
end Go.Proofs.YtbbdgokdfhdpiaaGreatDoor
