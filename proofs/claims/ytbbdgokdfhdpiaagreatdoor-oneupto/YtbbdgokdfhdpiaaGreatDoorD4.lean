/- A part of the proof: MapLaw, MapKeys, PCli, PSend, PMap, PHold, KpLow, PWatch, PrgRec, ChkWalks. -/
import Derived.Maps.OwnSet
import Derived.OwnWalk
import Derived.Test.YtbbdgokdfhdpiaaGreatDoorD1
namespace Go.Proofs.YtbbdgokdfhdpiaaGreatDoor
set_option linter.all false
set_option maxRecDepth 100000
set_option maxHeartbeats 40000000
open Go.Proofs.Tryz Go.RowKit
section
open Go.ChangeMaps (setBlock)
structure aA3(P:Program)(kt:TypeId){α:Type}(inj:α→Value):Prop where
 desc:∃d,P.underlying kt=some d∧∀a b,Instr.sameNow d (inj a) (inj b)=some true↔a=b
 same:∀d a b,P.underlying kt=some d→∃r,Instr.sameNow d (inj a) (inj b)=some r
 check:∀empty a w,(Instr.checkKey empty 10000 kt (inj a)).run P w= .ok () w
 stays:∀a w,(Instr.keyThatStays (inj a) (inj a)).run P w= .ok (inj a) w
section
variable {P:Program}{α:Type}{kt:TypeId}{inj:α→Value}
abbrev ent(inj:α→Value)(p:α×Value×Nat):MapEntry:=⟨inj p.1,p.2.1,p.2.2⟩
def lk [DecidableEq α]:List (α×Value×Nat)→α→Option Value
 |[],_=>none
 |p::l,a=>if p.1=a then some p.2.1 else lk l a
def MapAt [DecidableEq α] (inj:α→Value)(W:World)(b:Nat)(f:α→Option Value)(n:Nat):Prop:=
 ∃(l:List (α×Value×Nat)) (clk:Nat),W.heap[b]?=some (.map (l.map (ent inj)).toArray clk)∧(l.map (·.1)).Nodup∧l.length=n∧∀a,lk l a=f a
variable [DecidableEq α]
theorem MapAt.lt{W:World}{b:Nat}{f:α→Option Value}{n:Nat}(h:MapAt inj W b f n):b<W.heap.size:=by
 obtain⟨l,c,a,_⟩:=h;exact cW a
theorem MapAt.of_heap{W W':World}{b:Nat}{f:α→Option Value}{n:Nat}(h:MapAt inj W b f n)(hb:W'.heap[b]?=W.heap[b]?):MapAt inj W' b f n:=by
 obtain⟨l,a,c,d⟩:=h;exact⟨l,a,hb.trans c,d⟩
theorem MapAt.kept{S:Nat→Prop}{W W':World}{b:Nat}{f:α→Option Value}{n:Nat}(h:MapAt inj W b f n)(hc:Chg S W W')(hn:¬S b):MapAt inj W' b f n:=h.of_heap (hc.block b h.lt hn)
theorem MapAt.congr{W:World}{b:Nat}{f g:α→Option Value}{n:Nat}(h:MapAt inj W b f n)(e:∀a,f a=g a):MapAt inj W b g n:=by
 obtain⟨l,c,j,d,k,i⟩:=h;exact⟨l,c,j,d,k,fun a=>(i a).trans (e a)⟩
theorem MapAt.ne_cells{W:World}{b c:Nat}{f:α→Option Value}{n:Nat}(h:MapAt inj W b f n){cs:Array Value}{t:TypeId}{fr:Nat×Nat}(hc:W.heap[c]?=some (.cells cs t fr)):b≠c:=by
 obtain⟨l,d,a,_⟩:=h;exact dT a hc (by simp)
theorem rS(K:aA3 P kt inj){d:TypeDesc}(hd:P.underlying kt=some d)(a:α):∀(l:List (α×Value×Nat)) (i:Nat),
 (∃l1 v c l2,l=l1++(a,v,c)::l2∧(∀p ∈ l1,p.1≠a)∧Instr.findNow d (inj a) (l.map (ent inj)) i=some (some (i+l1.length,v)))∨((∀p ∈ l,p.1≠a)∧Instr.findNow d (inj a) (l.map (ent inj)) i=some none)
 |[],i=>Or.inr ⟨by simp,rfl⟩
 |(x,v,c)::l,i=>by
  obtain⟨d',hd',hsame⟩:=K.desc;obtain rfl:d=d':=aN (hd.symm.trans hd');obtain⟨r,hr⟩:=K.same d a x hd;by_cases hx:a=x
  ·subst hx;have:=(hsame a a).2 rfl;exact Or.inl ⟨[],v,c,l,rfl,by simp,by simp[Instr.findNow,this]⟩
  ·have hrf:r=false:=by
    cases r with
    |false=>rfl
    |true=>exact absurd ((hsame a x).1 hr) hx
   subst hrf;rcases rS K hd a l (i+1)with⟨l1,v',c',l2,rfl,h1,h2⟩|⟨h1,h2⟩
   ·refine Or.inl ⟨(x,v,c)::l1,v',c',l2,rfl,?_,?_⟩
    ·intro p hp;rcases List.mem_cons.1 hp with rfl|hp
     ·exact fun e=>hx e.symm
     ·exact h1 p hp
    ·simp only[List.map_cons,Instr.findNow,hr,h2,bH]
     congr 3
     omega
   ·refine Or.inr ⟨?_,by simp only[List.map_cons,Instr.findNow,hr,h2]⟩;intro p hp;rcases List.mem_cons.1 hp with rfl|hp
    ·exact fun e=>hx e.symm
    ·exact h1 p hp
theorem xU{l:List (α×Value×Nat)}{a:α}(h:∀p ∈ l,p.1≠a):lk l a=none:=by
 induction l with
 |nil=>rfl
 |cons p l ih=>simp only[lk];rw[if_neg (h p (by simp)),ih (fun q hq=>h q (by simp[hq]))]
section
variable {l1 l2:List (α×Value×Nat)}
theorem tV{a:α}{v:Value}{c:Nat}(h:∀p ∈ l1,p.1≠a):lk (l1++(a,v,c)::l2) a=some v:=by
 induction l1 with
 |nil=>simp[lk]
 |cons p l ih=>simp only[List.cons_append,lk];rw[if_neg (h p (by simp)),ih (fun q hq=>h q (by simp[hq]))]
theorem aGj{a x:α}{v u:Value}{c e:Nat}(hx:x≠a):lk (l1++(a,v,c)::l2) x=lk (l1++(a,u,e)::l2) x:=by
 induction l1 with
 |nil=>simp[lk,Ne.symm hx]
 |cons p l ih=>simp only[List.cons_append,lk,ih]
theorem aIO{a x:α}{v:Value}{c:Nat}(hx:x≠a):lk (l1++(a,v,c)::l2) x=lk (l1++l2) x:=by
 induction l1 with
 |nil=>simp[lk,Ne.symm hx]
 |cons p l ih=>simp only[List.cons_append,lk,ih]
end
theorem aIV{l:List (α×Value×Nat)}{a x:α}{v:Value}{c:Nat}(h:∀p ∈ l,p.1≠a):lk (l++[(a,v,c)]) x=if x=a then some v else lk l x:=by
 induction l with
 |nil=>
   by_cases b:x=a
   ·subst b;simp[lk]
   ·simp[lk,b,Ne.symm b]
 |cons p l ih=>
  have d:=h p (by simp);simp only[List.cons_append,lk,ih (fun q hq=>h q (by simp[hq]))];by_cases b:p.1=x
  ·have:x≠a:=by rw[←b];exact d
   simp[b,this]
  ·simp[b]
theorem iR(_:aA3 P kt inj){w:World}(a:α)(l:List (α×Value×Nat))(r:Option (Nat×Value))(d:TypeDesc)(hd:P.underlying kt=some d)(h:Instr.findNow d (inj a) (l.map (ent inj)) 0=some r):
 (Instr.findKey kt (inj a) (l.map (ent inj))).run P w= .ok r w:=by
 unfold Instr.findKey;simp[aT,run_underlying hd,h]
theorem MapAt.lookup(K:aA3 P kt inj){W:World}{b:Nat}{f:α→Option Value}{n:Nat}(h:MapAt inj W b f n){t e:TypeId}(ht:P.underlying t=some (.map kt e)){z:Value}(hz:∀w,(zeroValue e).run P w= .ok z w)(a:α):
 (Instr.lookup t (.map (some b)) (inj a) false).run P W= .ok ((f a).getD z) W∧(Instr.lookup t (.map (some b)) (inj a) true).run P W= .ok (.tuple #[(f a).getD z,.bool (f a).isSome]) W:=by
 obtain⟨l,u,k,x,y,r⟩:=h;obtain⟨d,o,_⟩:=K.desc;have m:=K.check (l.map (ent inj)).toArray.isEmpty a W;have j:(l.map (ent inj)).toArray.toList=l.map (ent inj):=rfl;rcases rS K o a l 0 with⟨A,v,c,B,s,q,p⟩|⟨q,p⟩
 ·have i:f a=some v:=by rw[←r a,s,tV q]
  have g:=iR K (w:=W) a _ _ d o p;rw[←j]at g;generalize (l.map (ent inj)).toArray=es at k m g;constructor<;>simp[Instr.lookup,aT,run_underlying ht,MapKept.run_getObj_map k,m,g,i]
 ·have i:f a=none:=by rw[←r a,xU q]
  have g:=iR K (w:=W) a _ _ d o p;rw[←j]at g;generalize (l.map (ent inj)).toArray=es at k m g;constructor<;>simp[Instr.lookup,aT,run_underlying ht,MapKept.run_getObj_map k,m,g,i,hz W]
theorem iO(W:World)(b:Nat)(o:Obj):Chg (fun k=>k=b) W (setBlock W b o):=
 ⟨rfl,rfl,rfl,by simp[setBlock],fun k _ hk=>by simp only[setBlock];rw[Array.getElem?_setIfInBounds_ne (fun e=>hk e.symm)]⟩
theorem jB{W:World}{b:Nat}{x:Obj}(h:W.heap[b]?=some x)(o:Obj):(setBlock W b o).heap[b]?=some o:=by
 have:=cW h;simp[setBlock,this]
theorem MapAt.update(K:aA3 P kt inj){W:World}{b:Nat}{f:α→Option Value}{n:Nat}(h:MapAt inj W b f n){t e:TypeId}(ht:P.underlying t=some (.map kt e))(a:α)(v:Value):
 ∃W',(Instr.mapUpdate t (.map (some b)) (inj a) v).run P W= .ok () W'∧Chg (fun k=>k=b) W W'∧W'.heap.size=W.heap.size∧MapAt inj W' b (fun x=>if x=a then some v else f x) (if(f a).isSome then n else n+1):=by
 obtain⟨l,i,j,r,J,I⟩:=h;obtain⟨d,M,_⟩:=K.desc;have O:=K.check false a W;have F:(l.map (ent inj)).toArray.toList=l.map (ent inj):=rfl;rcases rS K M a l 0 with⟨D,u,c,L,C,z,N⟩|⟨z,N⟩
 ·have q:f a=some u:=by rw[←I a,C,tV z]
  have m:=iR K (w:=W) a _ _ d M N;rw[←F]at m;rw[Nat.zero_add]at m;have H:(l.map (ent inj)).toArray.modify D.length (fun e=>{e with key:=inj a,val:=v})=((D++(a,v,c)::L).map (ent inj)).toArray:=by
   rw[C,List.modify_toArray,bO,bO]
   congr 1
   have G:∀(A:List MapEntry) (x:MapEntry) (B:List MapEntry) (g:MapEntry→MapEntry),(A++x::B).modify A.length g=A++g x::B:=by
    intro A;induction A with
    |nil=>intro x B g;rfl
    |cons y A ih=>intro x B g;simp[ih]
   have:=G (D.map (ent inj)) (ent inj (a,u,c)) (L.map (ent inj)) (fun e=>{e with key:=inj a,val:=v});rw[bL]at this;exact this
  have o:(((l.map (ent inj)).toArray[D.length]?).map (·.key)).getD (inj a)=inj a:=by
   rw[C];simp
  refine⟨setBlock W b (.map ((D++(a,v,c)::L).map (ent inj)).toArray i),?_,iO _ _ _,by simp[setBlock],D++(a,v,c)::L,i,jB j _,?_,?_,?_⟩
  ·rw[←H];generalize (l.map (ent inj)).toArray=es at j m o;simp[Instr.mapUpdate,aT,run_underlying ht,MapKept.run_getObj_map j,O,m,o,K.stays,MapKept.run_setObj_map _ j,Result.andThen,setBlock]
  ·rw[C]at r;simpa using r
  ·rw[C]at J;simp[q]at J⊢;exact J
  ·intro x;show _=if x=a then some v else f x
   by_cases E:x=a
   ·subst E;rw[if_pos rfl,tV z]
   ·rw[if_neg E,←I x,C];exact aGj E
 ·have q:f a=none:=by rw[←I a,xU z]
  have m:=iR K (w:=W) a _ _ d M N;rw[←F]at m;have s:(l.map (ent inj)).toArray.push ⟨inj a,v,i⟩=((l++[(a,v,i)]).map (ent inj)).toArray:=by simp
  refine⟨setBlock W b (.map ((l++[(a,v,i)]).map (ent inj)).toArray (i+1)),?_,iO _ _ _,by simp[setBlock],l++[(a,v,i)],i+1,jB j _,?_,?_,?_⟩
  ·rw[←s];generalize (l.map (ent inj)).toArray=es at j m;simp[Instr.mapUpdate,aT,run_underlying ht,MapKept.run_getObj_map j,O,m,MapKept.run_setObj_map _ j,Result.andThen,setBlock]
  ·rw[bO,List.nodup_append];refine⟨r,by simp,fun x E y hy=>?_⟩;obtain⟨p,Q,rfl⟩:=bN.1 E;have:y=a:=by simpa using hy
   rw[this];exact z p Q
  ·simp[q,J]
  ·intro x;rw[aIV z,I x]
theorem MapAt.delete(K:aA3 P kt inj){W:World}{b:Nat}{f:α→Option Value}{n:Nat}(h:MapAt inj W b f n){t e ty:TypeId}(ht:P.underlying t=some (.map kt e))(a:α):
 ∃W',(Builtin.delete_ #[t,kt] ty #[.map (some b),inj a]).run P W= .ok (.tuple #[]) W'∧Chg (fun k=>k=b) W W'∧W'.heap.size=W.heap.size∧MapAt inj W' b (fun x=>if x=a then none else f x) (if(f a).isSome then n-1 else n):=by
 obtain⟨l,j,m,g,E,v⟩:=h;obtain⟨d,C,_⟩:=K.desc;have B:=K.check (l.map (ent inj)).toArray.isEmpty a W;have z:(l.map (ent inj)).toArray.toList=l.map (ent inj):=rfl;rcases rS K C a l 0 with⟨s,u,c,y,q,A,D⟩|⟨A,D⟩
 ·have i:f a=some u:=by rw[←v a,q,tV A]
  have o:=iR K (w:=W) a _ _ d C D;rw[←z]at o;have H:∀p ∈ y,p.1≠a:=fun p hp e=>by
   rw[q,bO,List.map_cons,List.nodup_append]at g;have:=(List.nodup_cons.1 g.2.1).1;exact this (by subst e;exact bN.2 ⟨p,hp,rfl⟩)
  rw[Nat.zero_add]at o;have G:(l.map (ent inj)).toArray.eraseIdxIfInBounds s.length=((s++y).map (ent inj)).toArray:=by
   rw[q];have F:s.length<((s++(a,u,c)::y).map (ent inj)).toArray.size:=by simp
   unfold Array.eraseIdxIfInBounds;rw[dif_pos F];apply Array.ext';simp[List.eraseIdx_append_of_length_le]
  refine⟨setBlock W b (.map ((s++y).map (ent inj)).toArray j),?_,iO _ _ _,by simp[setBlock],s++y,j,jB m _,?_,?_,?_⟩
  ·rw[←G];generalize (l.map (ent inj)).toArray=es at m o B;simp[Builtin.delete_,aT,run_underlying ht,MapKept.run_getObj_map m,B,o,MapKept.run_setObj_map _ m,Result.andThen,setBlock]
  ·rw[q]at g;simp only[bO,List.map_cons]at g⊢;exact g.sublist (List.Sublist.append_left (List.sublist_cons_self _ _) _)
  ·rw[q]at E;simp[i]at E⊢;omega
  ·intro x;show _=if x=a then none else f x
   by_cases r:x=a
   ·subst r;rw[if_pos rfl];exact xU (fun p hp=>(aO.1 hp).elim (A p) (H p))
   ·rw[if_neg r,←v x,q,aIO r]
 ·have i:f a=none:=by rw[←v a,xU A]
  have o:=iR K (w:=W) a _ _ d C D;rw[←z]at o;refine⟨setBlock W b (.map (l.map (ent inj)).toArray j),?_,iO _ _ _,by simp[setBlock],l,j,jB m _,g,by simp[i,E],?_⟩
  ·generalize (l.map (ent inj)).toArray=es at m o B;simp[Builtin.delete_,aT,run_underlying ht,MapKept.run_getObj_map m,B,o,MapKept.run_setObj_map _ m,Result.andThen,setBlock]
  ·intro x;show _=if x=a then none else f x
   by_cases r:x=a
   ·subst r;rw[if_pos rfl,v,i]
   ·rw[if_neg r,v]
section
variable {W:World} {b:Nat} {f:α→Option Value} {n:Nat}
theorem MapAt.clear(h:MapAt inj W b f n){t e ty:TypeId}(ht:P.underlying t=some (.map kt e)):
 ∃W',(Builtin.clear_ #[t] ty #[.map (some b)]).run P W= .ok (.tuple #[]) W'∧Chg (fun k=>k=b) W W'∧W'.heap.size=W.heap.size∧MapAt inj W' b (fun _=>none) 0:=by
 obtain⟨l,a,c,d,i,g⟩:=h;refine⟨setBlock W b (.map #[] a),?_,iO _ _ _,by simp[setBlock],[],a,jB c _,by simp,rfl,fun _=>rfl⟩;generalize (l.map (ent inj)).toArray=es at c;simp[Builtin.clear_,aT,run_underlying ht,MapKept.run_getObj_map c,MapKept.run_setObj_map _ c,Result.andThen,setBlock]
theorem MapAt.len(h:MapAt inj W b f n){t e ty:TypeId}(ht:P.underlying t=some (.map kt e)):
 (Builtin.len_ #[t] ty #[.map (some b)]).run P W= .ok (.int .i64 n) W:=by
 obtain⟨l,g,c,i,d,j⟩:=h;have a:(l.map (ent inj)).toArray.size=n:=by simp[d]
 generalize (l.map (ent inj)).toArray=es at c a;simp[Builtin.len_,aT,run_underlying ht,MapKept.run_getObj_map c,goInt,a]
end
theorem MapAt.made(W:World):MapAt inj (W.alloc (.map #[] 0)) W.heap.size (fun _=>none) 0:=
 ⟨[],0,aA W _,by simp,rfl,fun _=>rfl⟩
end
end
abbrev iK(a:Int):Value:=.int .i64 a
theorem aCl:aA3 prog 3 iK where
 desc:=⟨_,underlying3,fun a b=>by simp[Instr.sameNow]⟩
 same:=fun d a b hd=>by
  obtain rfl:=aN (underlying3.symm.trans hd);exact⟨_,by simp[Instr.sameNow];rfl⟩
 check:=fun empty a w=>by
  unfold Instr.checkKey;simp[aT,run_underlying underlying3]
 stays:=fun a w=>by simp[Instr.keyThatStays,Instr.sameBits]
abbrev wtV(w:Wt):Value:=.agg #[.int .i64 w.own,.int .i64 w.tok,.int .i64 w.seq,.int .i64 w.since]
abbrev vL(g:Nat):Value:=.func (.func 77) #[.pointer (some ⟨g,0,none⟩)] #[]
def MapI(W:World)(b:Nat)(f:Int→Int):Prop:=∃ft n,MapAt iK W b ft n∧∀k,(ft k).getD (.int .i64 0)= .int .i64 (f k)
def MapW(W:World)(b:Nat)(f:Int→Wt):Prop:=∃ft n,MapAt iK W b ft n∧∀k,(ft k).getD (wtV zWt)=wtV (f k)
def aBV(l:List Int):Int→Option Value:=fun k=>if l.contains k=true then some (.agg #[])else none
def AnsAt(W:World)(F:Nat→Prop)(v:Value)(t:At):Prop:=(v= .map none∧t.ans=[]∧t.awaited=0)∨∃am,v= .map (some am)∧MapAt iK W am (aBV t.ans) t.ans.length∧F am
abbrev tA(o:On)(an mv:Value):List Value:=[.int .i64 o.kind,.int .i64 o.lock,.int .i64 o.ttl,.int .i64 o.began,.int .i64 o.tries,
 .int .i64 o.att.bal,.int .i64 o.att.began,.int .i64 o.att.awaited,an,.int .i64 o.att.base,.int .i64 o.att.val.own,.int .i64 o.att.val.tok,.int .i64 o.att.val.ttl,.int .i64 o.att.val.seq,.int .i64 o.att.eres,.int .i64 o.att.eown,.int .i64 o.att.etok,mv]
def OnAt(W:World)(F:Nat→Prop)(ob:Nat)(an mv:Value)(o:On):Prop:=
 W.heap[ob]?=some (.cells (tA o an mv).toArray 195 (0,0))∧F ob∧AnsAt W F an o.att∧
  W.ownsRow 0 3 1 mv o.mine.length (o.mine.map fun x=>.int .i64 x)∧(∀k,mv.ownBlock=some k→F k)
abbrev clL(f:Cf)(c:Ct)(ch tk hd wt g:Nat)(dv:Value):List Value:=[.int .i64 f.f,.int .i64 f.clients,.int .i64 f.patience,.int .i64 f.tries,.int .i64 f.drift,.int .i64 f.compact,.int .i64 f.room,
 .int .i64 c.num,.int .i64 c.inc,.chan (some ch),vL g,.int .i64 c.clock,.int .i64 c.round,.map (some tk),.map (some hd),.map (some wt),dv]
structure MapsAt(W:World)(F:Nat→Prop)(tk hd wt:Nat)(c:Ct):Prop where
 toks:MapI W tk c.toks
 holds:MapI W hd c.holds
 wat:MapW W wt c.wat
 th:tk≠hd
 tw:tk≠wt
 hw:hd≠wt
 ft:F tk
 fh:F hd
 fw:F wt
def DoAt(W:World)(F:Nat→Prop)(tk hd wt:Nat)(dv:Value):Option On→Prop
 |none=>dv= .pointer none
 |some o=>∃ob an mv,dv= .pointer (some ⟨ob,0,none⟩)∧OnAt W F ob an mv o∧an≠.map (some tk)∧an≠.map (some hd)∧an≠.map (some wt)
structure ClAt(W:World)(F:Nat→Prop)(b g:Nat)(f:Cf)(c:Ct)(ch tk hd wt:Nat)(dv:Value):Prop where
 blk:W.heap[b]?=some (.cells (clL f c ch tk hd wt g dv).toArray 150 (0,0))
 fb:F b
 chan:W.heap[ch]?=some (.chan 0 #[] (!c.up) 0 0 false)
 fc:F ch
 maps:MapsAt W F tk hd wt c
 doing:DoAt W F tk hd wt dv c.doing
 lt:∀k,F k→k<W.heap.size
section
variable {W W':World}
theorem MapI.of_heap{b:Nat}{f:Int→Int}(h:MapI W b f)(hb:W'.heap[b]?=W.heap[b]?):MapI W' b f:=by
 obtain⟨d,n,a,c⟩:=h;exact⟨d,n,a.of_heap hb,c⟩
theorem MapW.of_heap{b:Nat}{f:Int→Wt}(h:MapW W b f)(hb:W'.heap[b]?=W.heap[b]?):MapW W' b f:=by
 obtain⟨d,n,a,c⟩:=h;exact⟨d,n,a.of_heap hb,c⟩
theorem AnsAt.of_heap{F:Nat→Prop}{v:Value}{l:At}(h:AnsAt W F v l)(hb:∀k,F k→W'.heap[k]?=W.heap[k]?):AnsAt W' F v l:=by
 rcases h with h|⟨a,d,c,b⟩
 ·exact Or.inl h
 ·exact Or.inr ⟨a,d,c.of_heap (hb a b),b⟩
theorem OnAt.of_heap{F:Nat→Prop}{ob:Nat}{an mv:Value}{o:On}(h:OnAt W F ob an mv o)(hb:∀k,F k→W'.heap[k]?=W.heap[k]?):OnAt W' F ob an mv o:=by
 obtain⟨d,a,e,c,b⟩:=h;exact⟨(hb ob a).trans d,a,e.of_heap hb,fP c fun k hk=>hb k (b k hk),b⟩
theorem MapsAt.of_heap{F:Nat→Prop}{tk hd wt:Nat}{c:Ct}(h:MapsAt W F tk hd wt c)(hb:∀k,F k→W'.heap[k]?=W.heap[k]?):MapsAt W' F tk hd wt c:=
 {h with toks:=h.toks.of_heap (hb _ h.ft),holds:=h.holds.of_heap (hb _ h.fh),wat:=h.wat.of_heap (hb _ h.fw)}
theorem DoAt.of_heap{F:Nat→Prop}{tk hd wt:Nat}{dv:Value}{o:Option On}(h:DoAt W F tk hd wt dv o)(hb:∀k,F k→W'.heap[k]?=W.heap[k]?):DoAt W' F tk hd wt dv o:=by
 cases o with
 |none=>exact h
 |some o=>
  obtain⟨e,a,b,d,c,f⟩:=h;exact⟨e,a,b,d,c.of_heap hb,f⟩
theorem ClAt.of_heap{F:Nat→Prop}{b g:Nat}{f:Cf}{c:Ct}{ch tk hd wt:Nat}{dv:Value}(h:ClAt W F b g f c ch tk hd wt dv)(hs:W.heap.size≤W'.heap.size)(hb:∀k,F k→W'.heap[k]?=W.heap[k]?):ClAt W' F b g f c ch tk hd wt dv:=
 ⟨(hb b h.fb).trans h.blk,h.fb,(hb ch h.fc).trans h.chan,h.fc,h.maps.of_heap hb,h.doing.of_heap hb,fun k hk=>aG (h.lt k hk) hs⟩
theorem ClAt.kept{F S:Nat→Prop}{b g:Nat}{f:Cf}{c:Ct}{ch tk hd wt:Nat}{dv:Value}(h:ClAt W F b g f c ch tk hd wt dv)(hc:Chg S W W')(hn:∀k,F k→¬S k):ClAt W' F b g f c ch tk hd wt dv:=
 h.of_heap hc.size fun k hk=>hc.block k (h.lt k hk) (hn k hk)
end
structure Sys(W:World)(F G:Nat→Prop)(b g:Nat)(f:Cf)(av cv:Value)(c:Ct)(net:List Mg)(tr:List Ev):Prop where
 cl:∃ch tk hd wt dv,ClAt W F b g f c ch tk hd wt dv
 nt:NtAt W G g av cv net tr
 apart:∀k,F k→¬G k
structure Went(W W':World)(F F' G G':Nat→Prop):Prop where
 chg:Chg (fun k=>F k∨G k) W W'
 f:∀k,F' k→F k∨W.heap.size≤k
 g:∀k,G' k→G k∨W.heap.size≤k
theorem Went.refl(W:World)(F G:Nat→Prop):Went W W F F G G:=⟨Chg.refl _ _,fun _ h=>Or.inl h,fun _ h=>Or.inl h⟩
theorem Went.trans{A B C:World}{F F1 F2 G G1 G2:Nat→Prop}(h:Went A B F F1 G G1)(k:Went B C F1 F2 G1 G2):Went A C F F2 G G2:=
 ⟨h.chg.trans k.chg (fun x hx hs=>by
  rcases hs with hs|hs
  ·rcases h.f x hs with h'|h'
   ·exact Or.inl h'
   ·omega
  ·rcases h.g x hs with h'|h'
   ·exact Or.inr h'
   ·omega),
  fun x hx=>by
   rcases k.f x hx with h'|h'
   ·exact h.f x h'
   ·right;have:=h.chg.size;omega,
  fun x hx=>by
   rcases k.g x hx with h'|h'
   ·exact h.g x h'
   ·right;have:=h.chg.size;omega⟩
def After(W:World)(F G:Nat→Prop)(b g:Nat)(f:Cf)(av cv:Value)(c:Ct)(net:List Mg)(tr:List Ev)(W':World):Prop:=∃F' G',Sys W' F' G' b g f av cv c net tr∧Went W W' F F' G G'
theorem After.trans{A B C:World}{F F1 G G1:Nat→Prop}{b g:Nat}{f:Cf}{av cv:Value}{c:Ct}{net:List Mg}{tr:List Ev}(h:Went A B F F1 G G1)(k:After B F1 G1 b g f av cv c net tr C):After A F G b g f av cv c net tr C:=by
 obtain⟨e,d,a,i⟩:=k;exact⟨e,d,a,h.trans i⟩
theorem jE(W:World)(F G:Nat→Prop)(b g:Nat)(f:Cf)(av cv:Value)(c:Ct)(net:List Mg)(tr:List Ev)(e:Ev)(h:Sys W F G b g f av cv c net tr)(hn:net.length≤100000000000)(ht:tr.length≤100000000000):
 Calls prog 77 #[.pointer (some ⟨g,0,none⟩),evV e] W fun r W'=>r= .returned (.tuple #[])∧∃G',Sys W' F G' b g f av cv c (net++cJ [e]) (tr++[e])∧Chg G W W'∧∀k,G' k→G k∨W.heap.size≤k:=by
 refine(yO W G g av cv net tr e h.nt hn ht).mono ?_;rintro r W' ⟨o,G',d,j,l⟩;obtain⟨p,n,m,wt,q,a⟩:=h.cl;refine⟨o,G',⟨⟨p,n,m,wt,q,a.kept j h.apart⟩,d,fun k hk hk'=>?_⟩,j,l⟩;rcases l k hk' with i|i
 ·exact h.apart k hk i
 ·have:=a.lt k hk;omega
section
variable (c:Ct) (o:On) (kind base:Int) (v:Vl) (n:Nat)
theorem aD3:fD c o kind base v (n+1)=fD c o kind base v n++[fI ⟨kind,c.num,(n:Int),o.lock,o.att.bal,base,v⟩]:=by
 simp[fD,List.range_succ]
theorem uI:(fD c o kind base v n).length=n:=by simp[fD]
theorem sC:(cJ (fD c o kind base v n)).length≤n:=by
 have:=mB (fD c o kind base v n)
 rwa [uI]at this
end
theorem NtAt.lt{W:World}{G:Nat→Prop}{g:Nat}{av cv:Value}{net:List Mg}{tr:List Ev}(h:NtAt W G g av cv net tr):∀k,G k→k<W.heap.size:=by
 obtain⟨_,_,_,_,_,_,_,_,h⟩:=h;exact h
theorem NtAt.of_heap{W W':World}{G:Nat→Prop}{g:Nat}{av cv:Value}{net:List Mg}{tr:List Ev}(h:NtAt W G g av cv net tr)(hs:W.heap.size≤W'.heap.size)(hb:∀k,G k→W'.heap[k]?=W.heap[k]?):NtAt W' G g av cv net tr:=by
 obtain⟨d,e,i,b,l,f,c,a,j⟩:=h;exact⟨d,e,(hb g b).trans i,b,fP l (fun k hk=>hb k (c k hk)),fP f (fun k hk=>hb k (a k hk)),c,a,fun k hk=>aG (j k hk) hs⟩
theorem NtAt.kept{W W':World}{G S:Nat→Prop}{g:Nat}{av cv:Value}{net:List Mg}{tr:List Ev}(h:NtAt W G g av cv net tr)(hc:Chg S W W')(hn:∀k,G k→¬S k):NtAt W' G g av cv net tr:=
 h.of_heap hc.size fun k hk=>hc.block k (h.lt k hk) (hn k hk)
theorem Sys.ltF{W:World}{F G:Nat→Prop}{b g:Nat}{f:Cf}{av cv:Value}{c:Ct}{net:List Mg}{tr:List Ev}(h:Sys W F G b g f av cv c net tr):∀k,F k→k<W.heap.size:=by
 obtain⟨⟨_,_,_,_,_,a⟩,_,_⟩:=h;exact a.lt
theorem Sys.kept{W W':World}{F G S:Nat→Prop}{b g:Nat}{f:Cf}{av cv:Value}{c:Ct}{net:List Mg}{tr:List Ev}(h:Sys W F G b g f av cv c net tr)(hc:Chg S W W')(hf:∀k,F k→¬S k)(hg:∀k,G k→¬S k):Sys W' F G b g f av cv c net tr:=by
 obtain⟨⟨l,j,i,wt,m,e⟩,a,d⟩:=h;exact⟨⟨l,j,i,wt,m,e.kept hc hf⟩,a.kept hc hg,d⟩
theorem Chg.of_drew{S:Nat→Prop}{A B:World}(h:Chg S A.drew B):Chg S A B:=⟨h.os,h.tape,h.output,h.size,h.block⟩
theorem Sys.drew{W:World}{F G:Nat→Prop}{b g:Nat}{f:Cf}{av cv:Value}{c:Ct}{net:List Mg}{tr:List Ev}(h:Sys W F G b g f av cv c net tr):Sys W.drew F G b g f av cv c net tr:=
 h.kept ((Chg.refl NoS W).drew) (fun _ _ h=>h) (fun _ _ h=>h)
theorem qW(W:World)(F G:Nat→Prop)(b g:Nat)(f:Cf)(av cv:Value)(c:Ct)(o:On)(net:List Mg)(tr:List Ev)(kind base:Int)(v:Vl)(h:Sys W F G b g f av cv c net tr)(hd:c.doing=some o)(hf1:1≤f.f)(hf2:f.f≤2)(hn:net.length≤99999999990)(ht:tr.length≤99999999990):
 Calls prog 165 #[.pointer (some ⟨b,0,none⟩),mgV ⟨kind,0,0,0,0,base,v⟩] W fun r W'=>r= .returned (.tuple #[])∧
  ∃G',Sys W' F G' b g f av cv c (net++cJ (fD c o kind base v (gB f))) (tr++fD c o kind base v (gB f))∧Chg G W W'∧∀k,G' k→G k∨W.heap.size≤k:=by
 obtain⟨ch,tk,b3,wt,dv,m⟩:=h.cl;have L:=m.doing;rw[hd]at L;obtain⟨U,an,mv,rfl,⟨d,a5,_⟩,_⟩:=L;have a:=m.blk;have a1:=m.fb;have z:=m.lt;have T:=h.nt.lt;have a7:=h.apart;have HS:=cB h;have c0:W.cell? ⟨b,0,none⟩=some (.int .i64 f.f):=cC a 0 _ rfl;have HN:Hid (gB f=(2*f.f+1).toNat):=rfl;have a3:=z b a1;clear h m hd;go_enter func165,ntmps165;go_wp2_with fail;refine rlx [0,0,0,1,0,0,0,1,0,0,0,1,0,0,0,1,0,0,0,1,0,2,0,2,0] (fun x=>x.cell? ⟨b,7,none⟩=some (.int .i64 c.num)∧x.cell? ⟨b,16,none⟩=some (.pointer (some ⟨U,0,none⟩))∧x.cell? ⟨U,1,none⟩=some (.int .i64 o.lock)∧x.cell? ⟨U,5,none⟩=some (.int .i64 o.att.bal)) (by kernel_rfl) (fun _ _ _ _=>rfl) ?_ ?_
 ·exact⟨cC (cX _ a) 7 _ rfl,cC (cX _ a) 16 _ rfl,cC (cX _ d) 1 _ rfl,cC (cX _ d) 5 _ rfl⟩
 simp only[cL,cK];iterate 21 (apply sB rfl rfl;·(intro x h;(try have h:=h rfl);(try dsimp only at h);go_simp;with_reducible rfl))
 try simp only[pA]
 refine dC rfl (fun C hC=>?_);go_simp;refine hC _ _ ⟨cC (cX _ a) 7 _ rfl,cC (cX _ a) 16 _ rfl,cC (cX _ d) 1 _ rfl,cC (cX _ d) 5 _ rfl⟩ ?_;clear hC C;iterate 1 (apply sB rfl rfl;·(intro x h;(try have h:=h rfl);(try dsimp only at h);go_simp;with_reducible rfl))
 try simp only[pA]
 refine dC rfl (fun C hC=>?_);go_simp;refine hC _ _ ⟨cC (cX _ a) 7 _ rfl,cC (cX _ a) 16 _ rfl,cC (cX _ d) 1 _ rfl,cC (cX _ d) 5 _ rfl⟩ ?_;clear hC C;iterate 1 (apply sB rfl rfl;·(intro x h;(try have h:=h rfl);(try dsimp only at h);go_simp;with_reducible rfl))
 refine cD ?_;try simp only[pA]
 go_wp2_with fail;generalize s:(W.alloc (.cells #[.int .i64 kind,.int .i64 c.num,.int .i64 0,.int .i64 o.lock,.int .i64 o.att.bal,.int .i64 base,.int .i64 v.own,.int .i64 v.tok,.int .i64 v.ttl,.int .i64 v.seq] 66)).drew=W1;have bM:W1.heap[W.heap.size]?=some (.cells #[.int .i64 kind,.int .i64 c.num,.int .i64 0,.int .i64 o.lock,.int .i64 o.att.bal,.int .i64 base,.int .i64 v.own,.int .i64 v.tok,.int .i64 v.ttl,.int .i64 v.seq] 66 (0,0)):=by
  rw[←s];exact aA W _
 have R:Chg NoS W W1:=by rw[←s];exact((Chg.refl _ _).alloc _).drew
 have a8:W1.heap.size=W.heap.size+1:=by rw[←s];simp
 have Y:=cB (HS.out.kept R (fun _ _ h=>h) (fun _ _ h=>h));clear s c0 a d HS;go_loopw [35] (fun i wr=>∃(k:Nat),(k:Int)≤2*f.f+1∧i= .int .i64 k∧∃(J:Nat→Prop) (K:Int),Sys wr F J b g f av cv c (net++cJ (fD c o kind base v k)) (tr++fD c o kind base v k)∧wr.heap[W.heap.size]?=some (.cells #[.int .i64 kind,.int .i64 c.num,.int .i64 K,.int .i64 o.lock,.int .i64 o.att.bal,.int .i64 base,.int .i64 v.own,.int .i64 v.tok,.int .i64 v.ttl,.int .i64 v.seq] 66 (0,0))∧Chg G W wr∧(∀q,J q→G q∨W.heap.size+1≤q)∧W.heap.size+1≤wr.heap.size) (fun i _=>(2*f.f+1).toNat-(intOf i).toNat)
 case atStart=>exact⟨0,by simp;omega,rfl,G,0,by simpa[fD,cJ]using Y.out,bM,R.mono (fun _ _ h=>h.elim),fun q hq=>Or.inl hq,by omega⟩
 case round=>
  obtain⟨k,hk,rfl,J,K,l,p,H,n,O⟩:=hrel;by_cases a4:(k:Int)<2*f.f+1
  ·have N:¬J W.heap.size:=fun hq=>by
    rcases n _ hq with h'|h'
    ·have:=T _ h';omega
    ·omega
   have a0:¬F W.heap.size:=fun hq=>by have:=z _ hq;omega
   obtain⟨b2,b0,a2,b4,a9,u⟩:=l.cl;have D:=u.blk;have c4:wr.cell? ⟨b,10,none⟩=some (vL g):=cC D 10 _ rfl;have m2:=cC p 2 _ rfl;have f2:=cV p 2;have S:b≠W.heap.size:=by omega
   have Q:=cB l;clear l u;go_wp2_with fail;have E:(wr.setCell ⟨W.heap.size,2,none⟩ (.int .i64 (k:Int))).heap[W.heap.size]?=some (.cells (mgL ⟨kind,c.num,(k:Int),o.lock,o.att.bal,base,v⟩).toArray 66 (0,0)):=cU p 2 (.int .i64 (k:Int));have M:Chg (fun q=>q=W.heap.size) wr (wr.setCell ⟨W.heap.size,2,none⟩ (.int .i64 (k:Int))):=(Chg.refl _ _).setCell _ _ (fun _=>rfl);have B:=cB (Q.out.kept M (fun q hq e=>a0 (e▸hq)) (fun q hq e=>N (e▸hq)));have t:=H.setCell ⟨W.heap.size,2,none⟩ (.int .i64 (k:Int)) (fun h=>absurd h (Nat.lt_irrefl _));have w:W.heap.size+1≤(wr.setCell ⟨W.heap.size,2,none⟩ (.int .i64 (k:Int))).heap.size:=by simpa using O
   have P:(wr.setCell ⟨W.heap.size,2,none⟩ (.int .i64 (k:Int))).cell? ⟨b,10,none⟩=some (vL g):=cC (aAc D ⟨W.heap.size,2,none⟩ _ S) 10 _ rfl;generalize wr.setCell ⟨W.heap.size,2,none⟩ (.int .i64 (k:Int))=W2 at E B t w P⊢;clear M H O p m2 f2 Q D c4;refine rlx [0,0,0,1,1,0] (fun x=>x.cell? ⟨b,10,none⟩=some (vL g)∧∀j y,(mgL ⟨kind,c.num,(k:Int),o.lock,o.att.bal,base,v⟩)[j]?=some y→x.cell? ((⟨W.heap.size,0,none⟩:Addr).add j)=some y) (by kernel_rfl) (fun _ _ _ _=>rfl) ?_ ?_
   ·exact⟨P,cF E⟩
   simp only[cL,cK];iterate 4 (apply sB rfl rfl;·(intro x h;(try have h:=h rfl);(try dsimp only at h);go_simp;with_reducible rfl))
   try simp only[pA]
   refine cM rfl (fun x hx=>cG 66 _ rfl ⟨W.heap.size,0,none⟩ rfl _ _ hx.2 underlying66 rfl (by kernel_rfl)) ?_;iterate 1 (apply sB rfl rfl;·(intro x h;(try have h:=h rfl);(try dsimp only at h);go_simp;with_reducible rfl))
   refine cD ?_;try simp only[pA]
   have a6:=uI c o kind base v k;have b1:=sC c o kind base v k;have I:=jE W2.drew F J b g f av cv c _ _ (fI ⟨kind,c.num,(k:Int),o.lock,o.att.bal,base,v⟩) B.out.drew (by rw[aD];omega) (by rw[aD];omega);clear B;go_wp2_with fail;refine I.mono ?_;rintro r W3 ⟨rfl,G3,Z,A,X⟩;go_wp2_with fail;go_roundw
   case measure=>simp[intOf];omega
   case rel=>
    refine⟨k+1,by omega,by go_num,G3,k,?_,(A.kept (by exact E) N),t.trans A.of_drew (fun x hx hq=>(n x hq).elim id (fun h=>by omega)),fun q hq=>?_,bU w A.of_drew.size⟩
    ·rw[aD3,gI,←aS,←aS];exact Z
    ·rcases X q hq with h|h
     ·exact n q h
     ·right;simp at h;omega
  ·have V:k=gB f:=by rw[HN.out];omega
   subst V;go_wp2_with fail;go_end0;refine⟨rfl,J,l,H,fun q hq=>?_⟩;rcases n q hq with h|h
   ·exact Or.inl h
   ·right;omega
theorem aCa:∀w,(zeroValue 3).run prog w= .ok (iK 0) w:=by
 intro w;have h:(prog.info? 3).map (fun i=>(i.zero,i.size,i.bytes))=some (some (iK 0),1,8):=by kernel_rfl
 obtain⟨i,b,a,_⟩:=info_parts h;simp[zeroValue,typeInfo,aT,b,a]
theorem aIx:∀w,(zeroValue 292).run prog w= .ok (wtV zWt) w:=by
 intro w;have h:(prog.info? 292).map (fun i=>(i.zero,i.size,i.bytes))=some (some (wtV zWt),4,32):=by kernel_rfl
 obtain⟨i,b,a,_⟩:=info_parts h;simp[zeroValue,typeInfo,aT,b,a]
theorem aGg:∀w,(zeroValue 206).run prog w= .ok (.agg #[]) w:=by
 intro w;have h:(prog.info? 206).map (fun i=>(i.zero,i.size,i.bytes))=some (some (.agg #[]),0,0):=by kernel_rfl
 obtain⟨i,b,a,_⟩:=info_parts h;simp[zeroValue,typeInfo,aT,b,a]
section
variable {W:World}{b:Nat}
section
variable {f:Int→Int}
theorem MapI.get(h:MapI W b f)(k:Int):(Instr.lookup 146 (.map (some b)) (iK k) false).run prog W= .ok (iK (f k)) W:=by
 obtain⟨d,n,a,c⟩:=h;have:=(a.lookup aCl underlying146 aCa k).1;rw[this,c k]
theorem MapI.get2(h:MapI W b f)(k:Int):∃ok,(Instr.lookup 146 (.map (some b)) (iK k) true).run prog W= .ok (.tuple #[iK (f k),.bool ok]) W∧(ok=false→f k=0):=by
 obtain⟨c,n,e,a⟩:=h;have:=(e.lookup aCl underlying146 aCa k).2;refine⟨(c k).isSome,by rw[this,a k],fun hk=>?_⟩;have d:=a k;cases hfk:c k with
 |none=>rw[hfk]at d;simpa using d.symm
 |some v=>rw[hfk]at hk;cases hk
theorem MapI.set(h:MapI W b f)(k v:Int):∃W',(Instr.mapUpdate 146 (.map (some b)) (iK k) (iK v)).run prog W= .ok () W'∧Chg (fun x=>x=b) W W'∧W'.heap.size=W.heap.size∧MapI W' b (upd f k v):=by
 obtain⟨l,n,a,c⟩:=h;obtain⟨W',g,d,i,e⟩:=a.update aCl underlying146 k (iK v);exact⟨W',g,d,i,_,_,e,fun x=>by by_cases j:x=k<;>simp[upd,j,c]⟩
theorem MapI.del(h:MapI W b f)(k:Int)(ty:TypeId):∃W',(Builtin.delete_ #[146,3] ty #[.map (some b),iK k]).run prog W= .ok (.tuple #[]) W'∧Chg (fun x=>x=b) W W'∧W'.heap.size=W.heap.size∧MapI W' b (upd f k 0):=by
 obtain⟨l,n,a,c⟩:=h;obtain⟨W',g,d,i,e⟩:=a.delete (ty:=ty) aCl underlying146 k;exact⟨W',g,d,i,_,_,e,fun x=>by by_cases j:x=k<;>simp[upd,j,c]⟩
theorem MapI.clr(h:MapI W b f)(ty:TypeId):∃W',(Builtin.clear_ #[146] ty #[.map (some b)]).run prog W= .ok (.tuple #[]) W'∧Chg (fun x=>x=b) W W'∧W'.heap.size=W.heap.size∧MapI W' b (fun _=>0):=by
 obtain⟨j,n,a,i⟩:=h;obtain⟨W',e,c,g,d⟩:=a.clear (ty:=ty) underlying146;exact⟨W',e,c,g,_,_,d,fun x=>rfl⟩
end
theorem MapI.made(W:World):MapI (W.alloc (.map #[] 0)) W.heap.size (fun _=>0):=⟨_,_,MapAt.made W,fun _=>rfl⟩
section
variable {f:Int→Wt}
theorem MapW.get(h:MapW W b f)(k:Int):(Instr.lookup 147 (.map (some b)) (iK k) false).run prog W= .ok (wtV (f k)) W:=by
 obtain⟨d,n,a,c⟩:=h;have:=(a.lookup aCl underlying147 aIx k).1;rw[this,c k]
theorem MapW.set(h:MapW W b f)(k:Int)(v:Wt):∃W',(Instr.mapUpdate 147 (.map (some b)) (iK k) (wtV v)).run prog W= .ok () W'∧Chg (fun x=>x=b) W W'∧W'.heap.size=W.heap.size∧MapW W' b (upd f k v):=by
 obtain⟨l,n,c,d⟩:=h;obtain⟨W',i,e,j,g⟩:=c.update aCl underlying147 k (wtV v);refine⟨W',i,e,j,_,_,g,fun x=>?_⟩;by_cases a:x=k
 ·simp[upd,a]
 ·simp only[upd,a,if_false];exact d x
theorem MapW.clr(h:MapW W b f)(ty:TypeId):∃W',(Builtin.clear_ #[147] ty #[.map (some b)]).run prog W= .ok (.tuple #[]) W'∧Chg (fun x=>x=b) W W'∧W'.heap.size=W.heap.size∧MapW W' b (fun _=>zWt):=by
 obtain⟨j,n,a,i⟩:=h;obtain⟨W',e,c,g,d⟩:=a.clear (ty:=ty) underlying147;exact⟨W',e,c,g,_,_,d,fun x=>rfl⟩
end
theorem MapW.made(W:World):MapW (W.alloc (.map #[] 0)) W.heap.size (fun _=>zWt):=⟨_,_,MapAt.made W,fun _=>rfl⟩
abbrev SetAt(W:World)(b:Nat)(l:List Int):Prop:=MapAt iK W b (aBV l) l.length
section
variable {l:List Int}
theorem SetAt.has(h:SetAt W b l)(k:Int):(Instr.lookup 189 (.map (some b)) (iK k) true).run prog W= .ok (.tuple #[.agg #[],.bool (l.contains k)]) W:=by
 have:=(MapAt.lookup aCl h underlying189 aGg k).2;rw[this];unfold aBV;cases l.contains k<;>rfl
theorem SetAt.put(h:SetAt W b l)(k:Int)(hk:l.contains k=false):∃W',(Instr.mapUpdate 189 (.map (some b)) (iK k) (.agg #[])).run prog W= .ok () W'∧Chg (fun x=>x=b) W W'∧W'.heap.size=W.heap.size∧SetAt W' b (l++[k]):=by
 obtain⟨W',f,e,j,d⟩:=MapAt.update aCl h underlying189 k (.agg #[]);refine⟨W',f,e,j,?_⟩;have m:(aBV l k).isSome=false:=by unfold aBV;rw[hk];rfl
 rw[m,if_neg (by decide)]at d;have i:=d.congr (g:=aBV (l++[k])) (fun a=>by
  unfold aBV;by_cases c:a=k
  ·simp[c]
  ·simp[c])
 show MapAt iK W' b (aBV (l++[k])) (l++[k]).length;rw[aD];exact i
theorem SetAt.clr(h:SetAt W b l)(ty:TypeId):∃W',(Builtin.clear_ #[189] ty #[.map (some b)]).run prog W= .ok (.tuple #[]) W'∧Chg (fun x=>x=b) W W'∧W'.heap.size=W.heap.size∧SetAt W' b []:=by
 obtain⟨W',d,a,e,c⟩:=MapAt.clear (ty:=ty) h underlying189;exact⟨W',d,a,e,c.congr (fun _=>rfl)⟩
theorem SetAt.size(h:SetAt W b l)(ty:TypeId):(Builtin.len_ #[189] ty #[.map (some b)]).run prog W= .ok (iK l.length) W:=MapAt.len h underlying189
end
theorem SetAt.made(W:World):SetAt (W.alloc (.map #[] 0)) W.heap.size []:=(MapAt.made W).congr (fun _=>rfl)
end
section
variable {P:Program}{ops:Array Oper}{rest:List Oper}{o:Oper}{a:Act}{W:World}{Q:Exit→Act→World→Prop}
theorem tG(hg:o.guard=none)(v:Value)(W':World)(hrun:(execOp a.eval o).run P W= .ok (.value v) W')(h:wpList P ops Q rest (a.put o.dst v) W'):wpList P ops Q (o::rest) a W:=by
 refine wpList_plain hg fun K hK=>?_;unfold Oper.wp;rw[hrun,Oper.upon_value];exact hK _ _ h
theorem tN(hg:o.guard=none)(W':World)(hrun:(execOp a.eval o).run P W= .ok .skip W')(h:wpList P ops Q rest (a.put o.dst undef) W'):wpList P ops Q (o::rest) a W:=by
 refine wpList_plain hg fun K hK=>?_;unfold Oper.wp;rw[hrun];exact hK _ _ h
theorem jT(hg:o.guard=none)(t:TypeId)(m x y:Operand)(hop:o.op= .mapUpdate t m x y)(mv kv vv:Value)(hm:a.eval m=mv)(hx:a.eval x=kv)(hy:a.eval y=vv)(R:World→Prop)
 (hr:∃W',(Instr.mapUpdate t mv kv vv).run P W= .ok () W'∧R W') (h:∀W',R W'→wpList P ops Q rest (a.put o.dst undef) W'):wpList P ops Q (o::rest) a W:=by
 obtain⟨W',b,c⟩:=hr;refine tN hg W' ?_ (h W' c);simp[execOp,hop,hm,hx,hy,b,Result.andThen]
theorem pM(hg:o.guard=none)(t k:TypeId)(m x:Operand)(hop:o.op= .call {callee:=.builtin .delete,args:=#[m,x],argTypes:=#[t,k]})(mv kv:Value)(hm:a.eval m=mv)(hx:a.eval x=kv)(R:World→Prop)
 (hr:∃W',(Builtin.delete_ #[t,k] o.type #[mv,kv]).run P W= .ok (.tuple #[]) W'∧R W') (h:∀W',R W'→wpList P ops Q rest (a.put o.dst (.tuple #[])) W'):wpList P ops Q (o::rest) a W:=by
 obtain⟨W',h1,h2⟩:=hr;refine tG hg _ W' ?_ (h W' h2);simp[execOp,hop,resolve,invoke,builtin,hm,hx,h1,Result.andThen]
theorem nZ(hg:o.guard=none)(t:TypeId)(m:Operand)(hop:o.op= .call {callee:=.builtin .clear,args:=#[m],argTypes:=#[t]})(mv:Value)(hm:a.eval m=mv)(R:World→Prop)
 (hr:∃W',(Builtin.clear_ #[t] o.type #[mv]).run P W= .ok (.tuple #[]) W'∧R W') (h:∀W',R W'→wpList P ops Q rest (a.put o.dst (.tuple #[])) W'):wpList P ops Q (o::rest) a W:=by
 obtain⟨W',h1,h2⟩:=hr;refine tG hg _ W' ?_ (h W' h2);simp[execOp,hop,resolve,invoke,builtin,hm,h1,Result.andThen]
end
section
variable {W:World} {b:Nat}
theorem MapI.lt{f:Int→Int}(h:MapI W b f):b<W.heap.size:=by
 obtain⟨c,n,a,_⟩:=h;exact a.lt
theorem MapW.lt{f:Int→Wt}(h:MapW W b f):b<W.heap.size:=by
 obtain⟨c,n,a,_⟩:=h;exact a.lt
theorem MapI.obj{f:Int→Int}(h:MapI W b f):∃e k,W.heap[b]?=some (.map e k):=by
 obtain⟨d,n,⟨l,c,a,_⟩,_⟩:=h;exact⟨_,_,a⟩
theorem MapW.obj{f:Int→Wt}(h:MapW W b f):∃e k,W.heap[b]?=some (.map e k):=by
 obtain⟨d,n,⟨l,c,a,_⟩,_⟩:=h;exact⟨_,_,a⟩
end
theorem MapAt.obj{α:Type} [DecidableEq α] {inj:α→Value}{W:World}{b:Nat}{f:α→Option Value}{n:Nat}(h:MapAt inj W b f n):∃e k,W.heap[b]?=some (.map e k):=by
 obtain⟨l,c,a,_⟩:=h;exact⟨_,_,a⟩
theorem aBF{W:World}{base:Nat}{e:TypeId}{size:Nat}{v:Value}{n:Nat}{xs:List Value}(h:W.ownsRow base e size v n xs){b:Nat}{x:Array MapEntry}{k:Nat}(hb:W.heap[b]?=some (.map x k)):∀q,v.ownBlock=some q→q≠b:=fun q hq=>by
 rcases jW h with⟨rfl,_⟩|⟨g,cap,cur,rfl,_,hg⟩
 ·cases hq
 ·have:g=q:=by simpa[Value.ownBlock]using hq
  subst this;exact dT hg hb (by simp)
theorem ClAt.maps'{W W':World}{F:Nat→Prop}{b g:Nat}{f:Cf}{c:Ct}{ch tk hd wt:Nat}{dv:Value}(h:ClAt W F b g f c ch tk hd wt dv)(hc:Chg (fun k=>k=tk∨k=hd∨k=wt) W W')(t' hl':Int→Int)(w':Int→Wt)
 (ht:MapI W' tk t') (hh:MapI W' hd hl') (hw:MapW W' wt w'):ClAt W' F b g f {c with toks:=t',holds:=hl',wat:=w'} ch tk hd wt dv:=by
 obtain⟨h1,h2,h3,h4,h5,h6,h7⟩:=h;obtain⟨e1,k1,o1⟩:=h5.toks.obj;obtain⟨e2,k2,o2⟩:=h5.holds.obj;obtain⟨e3,k3,o3⟩:=h5.wat.obj;have keep:∀{x:Nat} {ob:Obj},W.heap[x]?=some ob→(∀e k,ob≠.map e k)→W'.heap[x]?=some ob:=fun hx hne=>
  hc.kept hx (fun hk=>by
   rcases hk with rfl|rfl|rfl
   ·rw[o1]at hx;exact hne _ _ (aN hx).symm
   ·rw[o2]at hx;exact hne _ _ (aN hx).symm
   ·rw[o3]at hx;exact hne _ _ (aN hx).symm)
 refine⟨keep h1 (by simp),h2,keep h3 (by simp),h4,⟨ht,hh,hw,h5.th,h5.tw,h5.hw,h5.ft,h5.fh,h5.fw⟩,?_,fun k hk=>aG (h7 k hk) hc.size⟩;cases hd':c.doing with
 |none=>rw[hd']at h6;exact h6
 |some o=>
  rw[hd']at h6;obtain⟨ob,an,mv,r1,⟨r2,r3,r4,r5,r6⟩,r7,r8,r9⟩:=h6;refine⟨ob,an,mv,r1,⟨keep r2 (by simp),r3,?_,?_,r6⟩,r7,r8,r9⟩
  ·rcases r4 with r4|⟨am,q1,q2,q3⟩
   ·exact Or.inl r4
   ·refine Or.inr ⟨am,q1,q2.kept hc (fun hk=>?_),q3⟩;subst q1;rcases hk with rfl|rfl|rfl
    ·exact r7 rfl
    ·exact r8 rfl
    ·exact r9 rfl
  ·refine hc.row r5 (fun q hq hk=>?_);rcases hk with rfl|rfl|rfl
   ·exact aBF r5 o1 _ hq rfl
   ·exact aBF r5 o2 _ hq rfl
   ·exact aBF r5 o3 _ hq rfl
abbrev S3(tk hd wt:Nat):Nat→Prop:=fun k=>k=tk∨k=hd∨k=wt
section
variable {S:Nat→Prop}
theorem Chg.one{b:Nat}{A B C:World}(h:Chg S A B)(k:Chg (fun x=>x=b) B C)(hb:S b):Chg S A C:=h.trans k (fun x _ hx=>by subst hx;exact hb)
theorem MapI.kept{W W':World}{b:Nat}{f:Int→Int}(h:MapI W b f)(hc:Chg S W W')(hn:¬S b):MapI W' b f:=h.of_heap (hc.block b h.lt hn)
theorem MapW.kept{W W':World}{b:Nat}{f:Int→Wt}(h:MapW W b f)(hc:Chg S W W')(hn:¬S b):MapW W' b f:=h.of_heap (hc.block b h.lt hn)
end
theorem dZ{x:Int}(h1: -9223372036854775808≤x)(h2:x≤9223372036854775807):IntKind.i64.wrap x=x:=by rw[IntKind.wrap_i64];omega
section
variable {W:World}{F:Nat→Prop}{b g:Nat}{f:Cf}{c:Ct}{ch tk hd wt:Nat}{dv:Value}
theorem ClAt.cell(h:ClAt W F b g f c ch tk hd wt dv)(j:Nat)(v:Value)(hj:(clL f c ch tk hd wt g dv)[j]?=some v):W.cell? ⟨b,j,none⟩=some v:=cC h.blk j v (by simpa using hj)
theorem ClAt.froz(h:ClAt W F b g f c ch tk hd wt dv)(j:Nat):W.frozen? ⟨b,j,none⟩=false:=cV h.blk j
theorem ClAt.bt(h:ClAt W F b g f c ch tk hd wt dv):b≠tk:=by
 obtain⟨_,_,o⟩:=h.maps.toks.obj;exact dT h.blk o (by simp)
theorem ClAt.bh(h:ClAt W F b g f c ch tk hd wt dv):b≠hd:=by
 obtain⟨_,_,o⟩:=h.maps.holds.obj;exact dT h.blk o (by simp)
theorem ClAt.bw(h:ClAt W F b g f c ch tk hd wt dv):b≠wt:=by
 obtain⟨_,_,o⟩:=h.maps.wat.obj;exact dT h.blk o (by simp)
theorem ClAt.setT{W':World}(h:ClAt W F b g f c ch tk hd wt dv)(hc:Chg (fun k=>k=tk) W W'){t:Int→Int}(ht:MapI W' tk t):ClAt W' F b g f {c with toks:=t} ch tk hd wt dv:=
 h.maps' (hc.mono (fun _ _ h=>Or.inl h)) t c.holds c.wat ht (h.maps.holds.kept hc (fun e=>h.maps.th e.symm)) (h.maps.wat.kept hc (fun e=>h.maps.tw e.symm))
theorem ClAt.setH{W':World}(h:ClAt W F b g f c ch tk hd wt dv)(hc:Chg (fun k=>k=hd) W W'){t:Int→Int}(ht:MapI W' hd t):ClAt W' F b g f {c with holds:=t} ch tk hd wt dv:=
 h.maps' (hc.mono (fun _ _ h=>Or.inr (Or.inl h))) c.toks t c.wat (h.maps.toks.kept hc h.maps.th) ht (h.maps.wat.kept hc (fun e=>h.maps.hw e.symm))
theorem ClAt.setW{W':World}(h:ClAt W F b g f c ch tk hd wt dv)(hc:Chg (fun k=>k=wt) W W'){t:Int→Wt}(ht:MapW W' wt t):ClAt W' F b g f {c with wat:=t} ch tk hd wt dv:=
 h.maps' (hc.mono (fun _ _ h=>Or.inr (Or.inr h))) c.toks c.holds t (h.maps.toks.kept hc h.maps.tw) (h.maps.holds.kept hc h.maps.hw) ht
end
section
variable (W:World) (F:Nat→Prop) (b g:Nat) (f:Cf) (c:Ct) (ch tk hd wt:Nat) (dv:Value)
theorem yH(l:Int)(h:ClAt W F b g f c ch tk hd wt dv):
 Calls prog 188 #[.pointer (some ⟨b,0,none⟩),.int .i64 l] W fun r W'=>r= .returned (.tuple #[])∧ClAt W' F b g f (pY c l) ch tk hd wt dv∧Chg (S3 tk hd wt) W W':=by
 have j:=cB h;have u:=h.cell 13 _ rfl;clear h;go_enter func188,ntmps188;go_wp2_with (at_delete;refine pM rfl _ _ _ _ rfl _ _ rfl rfl _ (j.out.maps.toks.del _ _) ?_);intro w d k s;have i:=j.out.setT d s;have e:=cB i;have m:=cB d;have v:=i.cell 14 _ rfl;clear j i d k s;go_wp2_with (at_delete;refine pM rfl _ _ _ _ rfl _ _ rfl rfl _ (e.out.maps.holds.del _ _) ?_);intro t a p q;have o:Hid (ClAt t F b g f (pY c l) ch tk hd wt dv):=e.out.setH a q;have n:=cB ((m.out.mono (T:=S3 tk hd wt) (fun _ _ h=>Or.inl h)).one a (Or.inr (Or.inl rfl)));clear a p q e;go_wp2_with fail;go_end0;exact⟨rfl,o.out,n.out⟩
theorem aCh(ob:Nat)(an mv:Value)(o:On)(tok:Int)(h:ClAt W F b g f c ch tk hd wt dv)(hob:OnAt W F ob an mv o)(hb1:0≤o.began)(hb2:o.began≤1000000000000)(ht1:0≤o.ttl)(ht2:o.ttl≤1000000):
 Calls prog 187 #[.pointer (some ⟨b,0,none⟩),.pointer (some ⟨ob,0,none⟩),.int .i64 tok] W fun r W'=>r= .returned (.tuple #[])∧ClAt W' F b g f (lD c o tok) ch tk hd wt dv∧Chg (S3 tk hd wt) W W':=by
 have m:=cB h;have I:Hid (∀l,Calls prog 188 #[.pointer (some ⟨b,0,none⟩),.int .i64 l] W fun r W'=>r= .returned (.tuple #[])∧ClAt W' F b g f (pY c l) ch tk hd wt dv∧Chg (S3 tk hd wt) W W'):=fun l=>yH W F b g f c ch tk hd wt dv l h;have a:=hob.1;have p:=cB a;have G:=cC a 0 _ rfl;have C:=cC a 1 _ rfl;clear h hob a;go_enter func187,ntmps187;by_cases j:o.kind=3
 ·have s:(o.kind==3)=true:=by simp[j]
  have q:=cB j;clear j;go_wp2_with (go_at_call 188;refine(I.out _).mono ?_;rintro r A ⟨rfl,k,E⟩)
  ((try simp only[Exit.inBlock,Exit.then]);refine bodyPost_ret (results_none rfl _ _ _) rfl ?_)
  refine⟨rfl,?_,E⟩;unfold lD;rw[if_pos q.out];exact k
 ·have s:(o.kind==3)=false:=by simp[j]
  have q:Hid (o.kind≠3):=j;clear j;have v:=m.out.cell 13 _ rfl;have K:IntKind.i64.wrap (o.began+o.ttl)=o.began+o.ttl:=dZ (by omega) (by omega);go_wp2_with fail;refine dJ [0,0,0,1,0,0,0,0,1,0] (by kernel_rfl) (fun _ _ _ _=>rfl) ?_;simp only[cL,cK];iterate 10 (apply sB rfl rfl;·(intro x h;(try cases h rfl);go_simp;with_reducible rfl))
  refine cD ?_;try simp only[pA]
  refine jT rfl _ _ _ _ rfl _ _ _ rfl rfl rfl _ (MapI.set (W:=W.drew) m.out.maps.toks _ _) ?_;rintro A ⟨i,u,B⟩;have k:=m.out.setT i.of_drew B;have d:=cB k;have n:=cB i.of_drew;have a:=n.out.kept p.out (by obtain⟨_,_,H⟩:=m.out.maps.toks.obj;exact dT p.out H (by simp));have J:=k.cell 14 _ rfl;have N:=cC a 1 _ rfl;have M:=cC a 2 _ rfl;have L:=cC a 3 _ rfl;clear m k i u B a p G C v;go_wp2_with fail;refine dJ [0,0,0,1,0,0,0,0,1,0,0,0,1,0,0,0,0,1,0] (by kernel_rfl) (fun _ _ _ _=>rfl) ?_;simp only[cL,cK];iterate 19 (apply sB rfl rfl;·(intro x h;(try cases h rfl);go_simp;with_reducible rfl))
  refine cD ?_;try simp only[pA]
  refine jT rfl _ _ _ _ rfl _ _ _ rfl rfl rfl _ (MapI.set (W:=A.drew) d.out.maps.holds _ _) ?_;rintro D ⟨e,y,z⟩;have w:Hid (ClAt D F b g f (lD c o tok) ch tk hd wt dv):=by
   have:=d.out.setH e.of_drew z;unfold lD;rw[if_neg q.out];exact this
  have t:=cB ((n.out.mono (T:=S3 tk hd wt) (fun _ _ h=>Or.inl h)).one e.of_drew (Or.inr (Or.inl rfl)));clear e y z d;go_wp2_with fail;go_end0;exact⟨rfl,w.out,t.out⟩
end
abbrev opV(k l t:Int):Value:=.agg #[.int .i64 k,.int .i64 l,.int .i64 t]
theorem aGv{α:Type}(f:Int→α)(k:Int)(v:α)(h:f k=v):upd f k v=f:=by
 funext x
 unfold upd;split
 ·rename_i a;rw[a,h]
 ·rfl
section
variable (W:World)
theorem aCf(F:Nat→Prop)(b g:Nat)(f:Cf)(c:Ct)(ch tk hd wt:Nat)(dv:Value)(k l t:Int)(h:ClAt W F b g f c ch tk hd wt dv)(hc1:0≤c.clock)(hc2:c.clock≤1000000000000)(ht1:0≤t)(ht2:t≤1000000):
 Calls prog 123 #[.pointer (some ⟨b,0,none⟩),opV k l t] W fun r W'=>r= .returned (.tuple #[])∧ClAt W' F b g f (dN c k l t) ch tk hd wt dv∧Chg (S3 tk hd wt) W W':=by
 have a:Hid (ClAt (W.alloc (.cells #[.int .i64 k,.int .i64 l,.int .i64 t] 68)) F b g f c ch tk hd wt dv):=h.kept (S:=NoS) ((Chg.refl _ _).alloc _) (fun _ _ h=>h);have y:Hid (Chg (S3 tk hd wt) W (W.alloc (.cells #[.int .i64 k,.int .i64 l,.int .i64 t] 68))):=(Chg.refl _ _).alloc _;have q:=aA W (.cells #[.int .i64 k,.int .i64 l,.int .i64 t] 68);clear h;go_enter func123,ntmps123;have N:IntKind.i64.wrap (c.clock+t)=c.clock+t:=dZ (by omega) (by omega);have G:=cC q 0 _ rfl;have D:=cC q 1 _ rfl;have C:=cC q 2 _ rfl;have s:=a.out.cell 14 _ rfl;have u:=a.out.cell 11 _ rfl;by_cases j:k=3
 ·have A:(k==3)=true:=by simp[j]
  have i:=cB j;clear j;go_wp2_with fail;generalize W.alloc (.cells #[.int .i64 k,.int .i64 l,.int .i64 t] 68)=W0 at*;refine dJ [0,0,0,1,0,1] (by kernel_rfl) (fun _ _ _ _=>rfl) ?_;simp only[cL,cK];iterate 6 (apply sB rfl rfl;·(intro x h;(try cases h rfl);go_simp;with_reducible rfl))
  refine cD ?_;try simp only[pA]
  refine pM rfl _ _ _ _ rfl _ _ rfl rfl _ (MapI.del (W:=W0.drew) a.out.maps.holds _ _) ?_;rintro z ⟨hc2,o,p⟩;have n:Hid (ClAt z F b g f (dN c k l t) ch tk hd wt dv):=by
   unfold dN;rw[if_pos i.out];exact a.out.setH hc2.of_drew p
  have m:=cB (y.out.one hc2.of_drew (Or.inr (Or.inl rfl)));clear hc2 o p a G D C s u q;go_wp2_with fail;go_end0;exact⟨rfl,n.out,m.out⟩
 ·have A:(k==3)=false:=by simp[j]
  by_cases d:k=1∨k=2
  ·have w:(k==1)=true∨(k==1)=false∧(k==2)=true:=by rcases d with rfl|rfl<;>simp
   have i:Hid (¬k=3∧(k=1∨k=2)):=⟨j,d⟩;clear j d;obtain⟨K,I,E⟩:=MapI.get2 (W:=(W.alloc (.cells #[.int .i64 k,.int .i64 l,.int .i64 t] 68)).drew) a.out.maps.holds l;generalize v:W.alloc (.cells #[.int .i64 k,.int .i64 l,.int .i64 t] 68)=W0 at*;have B:=cB v;clear v;rcases w with J|⟨J,O⟩;all_goals
    go_wp2_with fail;try rw[B.out]
    refine dJ [0,0,0,1,0,1,1,0,0,0,0,0] (by kernel_rfl) (fun _ _ _ _=>rfl) ?_;simp only[cL,cK];iterate 12 (apply sB rfl rfl;·(intro x h;(try cases h rfl);go_simp;with_reducible rfl))
    refine cD ?_;try simp only[pA]
    have H:=cB E;clear E;cases K with
    |false=>
     go_wp2_with fail;go_end0;refine⟨rfl,?_,y.out.drew⟩;have e:dN c k l t=c:=by
      unfold dN;rw[if_neg i.out.1,if_pos i.out.2,aGv];rw[(by first|exact H.out rfl|exact H.out trivial:c.holds l=0)];omega
     rw[e];exact a.out.kept (S:=NoS) (Chg.refl _ _).drew (fun _ _ h=>h)
    |true=>
     go_wp2_with fail;refine dJ [0,0,0,1,0,1,0,0,0,0,1,0,1,0,0] (by kernel_rfl) (fun _ _ _ _=>rfl) ?_;simp only[cL,cK];iterate 15 (apply sB rfl rfl;·(intro x h;(try cases h rfl);go_simp;with_reducible rfl))
     refine cD ?_;try simp only[pA]
     refine jT rfl _ _ _ _ rfl _ _ _ rfl rfl rfl _ (MapI.set (W:=W0.drew.drew) a.out.maps.holds _ _) ?_;rintro z ⟨hc2,o,p⟩;have n:Hid (ClAt z F b g f (dN c k l t) ch tk hd wt dv):=by
      unfold dN;rw[if_neg i.out.1,if_pos i.out.2];have e:(if c.clock+t<c.holds l then c.clock+t else c.holds l)=min (c.holds l) (c.clock+t):=by
       split<;>omega
      try rw[e]at p
      exact a.out.setH hc2.of_drew.of_drew p
     have m:=cB (y.out.one hc2.of_drew.of_drew (Or.inr (Or.inl rfl)));clear hc2 o p a G D C s u q;go_wp2_with fail;all_goals(go_end0;exact⟨rfl,n.out,m.out⟩)
  ·have M:(k==1)=false:=by simp;omega
   have L:(k==2)=false:=by simp;omega
   have i:Hid (¬k=3∧¬(k=1∨k=2)):=⟨j,d⟩;clear j d;go_wp2_with fail;go_end0;refine⟨rfl,?_,y.out⟩;have e:dN c k l t=c:=by
    unfold dN;rw[if_neg i.out.1,if_neg i.out.2]
   rw[e];exact a.out
theorem oR(b:Nat)(n:Int)(h:W.cell? ⟨b,7,none⟩=some (.int .i64 n))(h1:0≤n)(h2:n≤1000):
 Calls prog 217 #[.pointer (some ⟨b,0,none⟩)] W fun r W'=>r= .returned (.int .i64 (n+1))∧W'=W:=by
 go_enter func217,ntmps217;have a:IntKind.i64.wrap (n+1)=n+1:=dZ (by omega) (by omega);go_wp2_with fail;go_ret;exact⟨rfl,rfl⟩
theorem Chg.alloc2(x y:Obj):Chg NoS W ((W.alloc x).alloc y):=((Chg.refl _ _).alloc _).alloc _
theorem aG5(w:Wt)(v:Vl):
 Calls prog 218 #[wtV w,vlV v] W fun r W'=>r= .returned (.bool (aAH w v))∧Chg NoS W W':=by
 obtain⟨a,e,ws,g⟩:=w;obtain⟨d,b,f,c⟩:=v;go_enter func218,ntmps218;unfold aAH;cases h1:a==d<;>cases h2:e==b<;>cases h3:ws==c<;>(
  go_wp2_with fail;go_ret;refine⟨by simp[*],?_⟩;exact Chg.alloc2 _ _ _)
end
def cO(c n:Int):Int:=(if c<0 then -(c+1)else c) % n
theorem dX{c n:Int}(h:0<n):0≤cO c n∧cO c n<n:=⟨Int.emod_nonneg _ (by omega),Int.emod_lt_of_pos _ h⟩
theorem eI(c n:Int)(W:World)(hc1: -9223372036854775808≤c)(hc2:c≤9223372036854775807)(hn:0<n)(hn2:n≤9223372036854775807):
 Calls prog 19 #[.int .i64 c,.int .i64 n] W fun e W'=>e= .returned (.int .i64 (cO c n))∧W'=W:=by
 obtain⟨a,b⟩:=dX (c:=c) hn;have h:n≠0:=by omega
 by_cases f:c<0
 ·have e:cO c n=(-(c+1)) % n:=by unfold cO;rw[if_pos f]
  have d:(-(c+1)) % n= -((c+1).tmod n):=by rw[←Int.neg_tmod,Int.tmod_eq_emod_of_nonneg (by omega)]
  rw[e,d];rw[e,d]at a b;have i:IntKind.i64.wrap (c+1)=c+1:=dZ (by omega) (by omega);have j:IntKind.i64.wrap (-(c+1))= -(c+1):=dZ (by omega) (by omega);have g:IntKind.i64.wrap (-((c+1).tmod n))= -((c+1).tmod n):=dZ (by omega) (by omega);clear e d a b;go_enter func19,ntmps19;go_wp2;go_ret;exact⟨rfl,rfl⟩
 ·have e:cO c n=c % n:=by unfold cO;rw[if_neg f]
  have g:IntKind.i64.wrap (c % n)=c % n:=dZ (by omega) (by omega);rw[e];clear e a b;go_enter func19,ntmps19;go_wp2;go_ret;exact⟨rfl,rfl⟩
theorem aHs(W:World)(p:Option Addr)(len cap i:Nat)(l:Nat→Int)(hi:i≤100)(hl:len≤9223372036854775807)(h:∀k,k<len→∃b o,p=some ⟨b,o,none⟩∧W.cell? ⟨b,o+k,none⟩=some (.int .i64 (l k))):
 Calls prog 35 #[.slice p len cap,.int .i64 (i:Int)] W fun e W'=>e= .returned (.int .i64 (if i<len then l i else 0))∧W'=W:=by
 by_cases a:i<len
 ·rw[if_pos a];obtain⟨b,o,rfl,f⟩:=h i a;have c:decide ((len:Int)≤(i:Int))=false:=by simp;omega
  have d:(i:Int)<(len:Int):=by omega
  clear h;go_enter func35,ntmps35;go_wp2;go_ret;exact⟨rfl,rfl⟩
 ·rw[if_neg a];have c:decide ((len:Int)≤(i:Int))=true:=by simp;omega
  clear h;go_enter func35,ntmps35;go_wp2;go_ret;exact⟨rfl,rfl⟩
theorem tQ(W:World)(F:Nat→Prop)(b g:Nat)(f:Cf)(c:Ct)(ch tk hd wt:Nat)(dv:Value)(l:Int)(v:Vl)(h:ClAt W F b g f c ch tk hd wt dv)(hn1:0≤c.num)(hn2:c.num≤1000):
 Calls prog 189 #[.pointer (some ⟨b,0,none⟩),.int .i64 l,vlV v] W fun r W'=>r= .returned (.tuple #[])∧ClAt W' F b g f (nV c l v) ch tk hd wt dv∧Chg (S3 tk hd wt) W W':=by
 have m:Hid (ClAt (W.alloc (.cells #[.int .i64 v.own,.int .i64 v.tok,.int .i64 v.ttl,.int .i64 v.seq] 56)) F b g f c ch tk hd wt dv):=h.kept (S:=NoS) ((Chg.refl _ _).alloc _) (fun _ _ h=>h);have z:Hid (Chg (S3 tk hd wt) W (W.alloc (.cells #[.int .i64 v.own,.int .i64 v.tok,.int .i64 v.ttl,.int .i64 v.seq] 56))):=(Chg.refl _ _).alloc _;have A:Hid ((W.alloc (.cells #[.int .i64 v.own,.int .i64 v.tok,.int .i64 v.ttl,.int .i64 v.seq] 56)).heap[W.heap.size]?=some (.cells (vlL v).toArray 56 (0,0))):=aA W _;clear h;go_enter func189,ntmps189;go_wp2_with fail;generalize W.alloc (.cells #[.int .i64 v.own,.int .i64 v.tok,.int .i64 v.ttl,.int .i64 v.seq] 56)=W0 at*;have C:=cC A.out 0 _ rfl;have L:=cB (cF (W:=W0.drew) A.out);have n:=m.out.cell 15 _ rfl;have w:=MapW.get (W:=W0.drew) m.out.maps.wat l;by_cases k:v.own=0
 ·have D:(v.own==0)=true:=by simp[k]
  have t:=cB k;clear k;refine dJ [0,1,0,0,0,1,0,1,0,0,0,0,0,0,1,0,1,1] (by kernel_rfl) (fun _ _ _ _=>rfl) ?_;simp only[cL,cK];iterate 7 ((try simp only[pA]);first|(apply sB rfl rfl;·(intro x h;(try cases h rfl);go_simp;with_reducible rfl))|apply cP rfl|apply cN rfl)
  try simp only[pA]
  refine cN rfl ?_;(try simp only[pA]);iterate 10 ((try simp only[pA]);first|(apply sB rfl rfl;·(intro x h;(try cases h rfl);go_simp;with_reducible rfl))|apply cP rfl|apply cN rfl)
  refine cD ?_;try simp only[pA]
  go_wp2_with fail
  ((try simp only[Exit.inBlock,Exit.then]);refine bodyPost_ret (results_none rfl _ _ _) rfl ?_)
  refine⟨rfl,?_,z.out.drew⟩;unfold nV;rw[if_pos (Or.inl t.out)];exact m.out.kept (S:=NoS) (Chg.refl _ _).drew (fun _ _ h=>h)
 ·have D:(v.own==0)=false:=by simp[k]
  have B:=m.out.cell 7 _ rfl;by_cases a:v.own=c.num+1
  ·have J:(v.own==c.num+1)=true:=by simp[a]
   have t:=cB a;clear k a;refine dJ [0,1,0,0,0,1,0,1,0,0,0,0,0,0,1,0,1,1] (by kernel_rfl) (fun _ _ _ _=>rfl) ?_;simp only[cL,cK];iterate 7 ((try simp only[pA]);first|(apply sB rfl rfl;·(intro x h;(try cases h rfl);go_simp;with_reducible rfl))|apply cP rfl|apply cN rfl)
   try simp only[pA]
   refine dB (v:=.int .i64 (c.num+1)) (f:=217) (args:=#[.pointer (some ⟨b,0,none⟩)]) rfl (fun x hx=>by subst hx;go_simp;try rfl) (fun x hx=>by subst hx;exact oR _ b c.num B hn1 hn2) ?_;(try simp only[pA]);iterate 10 ((try simp only[pA]);first|(apply sB rfl rfl;·(intro x h;(try cases h rfl);go_simp;with_reducible rfl))|apply cP rfl|apply cN rfl)
   refine cD ?_;try simp only[pA]
   go_wp2_with fail
   ((try simp only[Exit.inBlock,Exit.then]);refine bodyPost_ret (results_none rfl _ _ _) rfl ?_)
   refine⟨rfl,?_,z.out.drew⟩;unfold nV;rw[if_pos (Or.inr (Or.inl t.out))];exact m.out.kept (S:=NoS) (Chg.refl _ _).drew (fun _ _ h=>h)
  ·have J:(v.own==c.num+1)=false:=by simp[a]
   have t:Hid (¬v.own=0∧¬v.own=c.num+1):=⟨k,a⟩;clear k a;refine dJ [0,1,0,0,0,1,0,1,0,0,0,0,0,0,1,0,1,1] (by kernel_rfl) (fun _ _ _ _=>rfl) ?_;simp only[cL,cK];iterate 7 ((try simp only[pA]);first|(apply sB rfl rfl;·(intro x h;(try cases h rfl);go_simp;with_reducible rfl))|apply cP rfl|apply cN rfl)
   try simp only[pA]
   refine dB (v:=.int .i64 (c.num+1)) (f:=217) (args:=#[.pointer (some ⟨b,0,none⟩)]) rfl (fun x hx=>by subst hx;go_simp;try rfl) (fun x hx=>by subst hx;exact oR _ b c.num B hn1 hn2) ?_;(try simp only[pA]);iterate 9 ((try simp only[pA]);first|(apply sB rfl rfl;·(intro x h;(try cases h rfl);go_simp;with_reducible rfl))|apply cP rfl|apply cN rfl)
   try simp only[pA]
   refine kU (v:=vlV v) rfl (fun x hx=>cG 56 _ rfl ⟨W.heap.size,0,none⟩ rfl (vlL v) _ (by subst hx;exact L.out) underlying56 rfl (by kernel_rfl)) ?_;refine cD ?_;(try simp only[pA]);have i:∀q,aAH (c.wat l) v=q→Hid (Calls prog 218 #[wtV (c.wat l),vlV v] W0.drew fun r W'=>r= .returned (.bool q)∧Chg NoS W0.drew W'):=fun q e=>e▸aG5 W0.drew (c.wat l) v;clear w L C B n;cases hw:aAH (c.wat l) v;all_goals
    have s:=i _ hw;clear i;go_wp2_with (go_at_call 218;refine s.out.mono ?_;rintro r M ⟨rfl,y⟩);have d:=m.out.kept y.of_drew (fun _ _ h=>h);have j:=y.of_drew.kept A.out (fun h=>h);have u:=cB (z.out.trans y.of_drew (fun _ _ h=>h.elim));clear s
   ·have C:=cC j 0 _ rfl;have N:=cC j 1 _ rfl;have O:=cC j 3 _ rfl;have n:=d.cell 15 _ rfl;have E:=d.cell 11 _ rfl;have s:=cB hw;have p:=cB d;clear A j m d y z hw;go_wp2_with fail;refine dJ [0,0,0,1,0,0,1,0,1,0,1,0,0,0,1,0] (by kernel_rfl) (fun _ _ _ _=>rfl) ?_;simp only[cL,cK];iterate 16 (apply sB rfl rfl;·(intro x h;(try cases h rfl);go_simp;with_reducible rfl))
    refine cD ?_;try simp only[pA]
    refine jT rfl _ _ _ _ rfl _ _ (wtV ⟨v.own,v.tok,v.seq,c.clock⟩) rfl rfl rfl _ (MapW.set (W:=M.drew) p.out.maps.wat _ _) ?_;rintro P ⟨o,I,K⟩;have H:Hid (ClAt P F b g f (nV c l v) ch tk hd wt dv):=by
     have:=p.out.setW o.of_drew K;unfold nV;rw[if_neg (by simp[t.out,s.out])];exact this
    have G:=cB (u.out.one o.of_drew (Or.inr (Or.inr rfl)));clear o I K p C N O n E;go_wp2_with fail;go_end0;exact⟨rfl,H.out,G.out⟩
   ·have s:=cB hw
    ((try simp only[Exit.inBlock,Exit.then]);refine bodyPost_ret (results_none rfl _ _ _) rfl ?_)
    refine⟨rfl,?_,u.out⟩;unfold nV;rw[if_pos (Or.inr (Or.inr s.out))];exact d
def mn(x y:Int):Int:=if y<x then y else x
def mx(x y:Int):Int:=if x<y then y else x
def mn5(a b c d e:Int):Int:=mn (mn (mn (mn a b) c) d) e
def mx5(a b c d e:Int):Int:=mx (mx (mx (mx a b) c) d) e
theorem aJQ(z x y:Int):z≤mn x y↔z≤x∧z≤y:=by unfold mn;split<;>omega
theorem aJH(z x y:Int):mx x y≤z↔x≤z∧y≤z:=by unfold mx;split<;>omega
theorem aJn(z a b c d e:Int):z≤mn5 a b c d e↔z≤a∧z≤b∧z≤c∧z≤d∧z≤e:=by simp only[mn5,aJQ,and_assoc]
theorem aJf(z a b c d e:Int):mx5 a b c d e≤z↔a≤z∧b≤z∧c≤z∧d≤z∧e≤z:=by simp only[mx5,aJH,and_assoc]
section
variable {P:Program} (ts:Array TypeId) (t:TypeId) (k:IntKind) (a b c d e:Int) (w:World)
theorem aHA:(Builtin.min_ ts t #[.int k a,.int k b,.int k c,.int k d,.int k e]).run P w= .ok (.int k (mn5 a b c d e)) w:=by
 simp[Builtin.min_,Builtin.min2,mn5,mn]
 rfl
theorem aHD:(Builtin.max_ ts t #[.int k a,.int k b,.int k c,.int k d,.int k e]).run P w= .ok (.int k (mx5 a b c d e)) w:=by
 simp[Builtin.max_,Builtin.max2,mx5,mx]
 rfl
end
theorem aIM(r:Rw):okB r=true↔(0≤r.lock∧r.lock<4)∧(0≤r.own∧r.own≤4)∧0≤mn5 r.prom r.acc r.tok r.ttl r.seq∧mx5 r.prom r.acc r.tok r.ttl r.seq≤2147483647:=by
 rw[aJn,aJf];simp only[okB,wrB,aR,aM];constructor
 ·intro h;omega
 ·intro h;omega
theorem aB3{a b:Bool}(h:a=b):Ending.returned (.bool a)= .returned (.bool b):=by rw[h]
theorem vG(r:Rw)(w:World):
 Calls prog 140 #[rwV r] w fun e w'=>e= .returned (.bool (okB r))∧Below w.heap.size w w':=by
 have j:=aIM r;obtain⟨l,p,a,o,t,u,q⟩:=r;have f:Hid (okB ⟨l,p,a,o,t,u,q⟩=true↔(0≤l∧l<4)∧(0≤o∧o≤4)∧0≤mn5 p a t u q∧mx5 p a t u q≤2147483647):=j;clear j;have k:=fun (ts:Array TypeId) (ty:TypeId) (W:World)=>aHA (P:=prog) ts ty .i64 p a t u q W;have m:=fun (ts:Array TypeId) (ty:TypeId) (W:World)=>aHD (P:=prog) ts ty .i64 p a t u q W;have B:∀x y,Below w.heap.size w ((w.alloc x).alloc y):=fun x y=>((aJ _ _).alloc (aE _) x).alloc (by simp) y;have b:=f.out.2;have g:¬((0≤l∧l<4)∧(0≤o∧o≤4)∧0≤mn5 p a t u q∧mx5 p a t u q≤2147483647)→okB ⟨l,p,a,o,t,u,q⟩=false:=fun h=>by
  cases hc:okB ⟨l,p,a,o,t,u,q⟩with
  |false=>rfl
  |true=>exact absurd (f.out.1 hc) h
 have c:=cB b;have i:=cB g;clear b g f;go_enter func140,ntmps140;go_wp2;all_goals
  go_ret;refine⟨?_,B _ _⟩;first
   |(rw[c.out (by omega)];try rfl)
   |(rw[i.out (by omega)];try rfl)
   |(by_cases d:mx5 p a t u q≤2147483647
     ·rw[c.out (by omega)];exact aB3 (decide_eq_true d)
     ·rw[i.out (by omega)];exact aB3 (decide_eq_false d))
theorem aEM:(prog.info? 5).map (fun i=>(i.zero,i.size,i.bytes))=some (some (.int .u8 0),1,1):=by kernel_rfl
theorem aF5(n:Int)(h0:0≤n)(h1:n≤2147483647):fK n 4=[n % 256,n / 256 % 256,n / 65536 % 256,n / 16777216]:=by
 simp only[fK];rw[show n / 256 / 256=n / 65536 by omega,show n / 65536 / 256=n / 16777216 by omega,show n / 16777216 % 256=n / 16777216 by omega]
theorem rK(w:World)(xs:List Value)(t:TypeId):∀j u,xs[j]?=some u→(w.alloc (.cells xs.toArray t)).cell? ((⟨w.heap.size,0,none⟩:Addr).add j)=some u:=by
 intro j u h;have e:(⟨w.heap.size,0,none⟩:Addr).add j=⟨w.heap.size,j,none⟩:=by unfold Addr.add;split<;>simp_all
 rw[e];simpa using h
theorem iS(base:Nat)(v:Value)(k:Nat)(xs:List Value)(n:Int)(w:World)(hown:w.ownsRow base 5 1 v k xs)(hk:k≤1000)(h0:0≤n)(h1:n≤2147483647)(hbase:base≤w.heap.size):
 Calls prog 141 #[v,.int .i64 n] w fun e w'=>∃v',e= .returned v'∧w'.ownsRow base 5 1 v' (k+4) (xs++(fK n 4).map (Value.int .u8))∧Below base w w':=by
 obtain⟨h,l,d,f,c⟩:=info_parts aEM;have i:=cB (aF5 n h0 h1);go_enter func141,ntmps141;go_wp2_with (at_builtin;refine wpList_append_own_at _ rfl _ _ 218 rfl base 5 h (.int .u8 0) 1 1 underlying218 l d f c rfl (by decide) _ _ _ rfl (hown.alloc _) ⟨w.heap.size,0,none⟩ 4 4 [.int .u8 (n % 256),.int .u8 (n / 256 % 256),.int .u8 (n / 65536 % 256),.int .u8 (n / 16777216)] rfl rfl ?c1 ?c2 ?c3 ?c4 ?c5 ?_)
 case c1=>exact rK _ _ _
 case c2=>intro x g;simp at g;rcases g with rfl|rfl|rfl|rfl<;>rfl
 case c3=>unfold maxLen;omega
 case c4=>omega
 case c5=>simp;omega
 intro v' m a b _ _;go_wp2;go_ret;exact⟨v',rfl,by rw[i.out];exact a,((aJ _ _).alloc hbase _).grown b (by simp;omega) (fun j hj=>(hown.lt j hj).1)⟩
def wiB(n l m:Int):Bool:=decide (l≤n)&&decide (n≤m)
theorem hU(n l m:Int)(w:World):
 Calls prog 80 #[.int .i64 n,.int .i64 l,.int .i64 m] w fun e w'=>e= .returned (.bool (wiB n l m))∧w'=w:=by
 by_cases a:l≤n<;>by_cases b:n≤m<;>
 ·go_enter func80,ntmps80;go_wp2;go_ret;exact⟨by simp[wiB,a,b],rfl⟩
def cfA(f c p t:Int):Bool:=wiB f 1 2&&wiB c 1 4&&wiB p 1 20&&wiB t 1 8
def cfB(d k r:Int):Bool:=wiB d 0 10&&wiB k 2 16&&wiB r 100 2000
abbrev cfV(f c p t d k r:Int):Value:=.agg #[.int .i64 f,.int .i64 c,.int .i64 p,.int .i64 t,.int .i64 d,.int .i64 k,.int .i64 r]
theorem aBz(f c p t d k r:Int)(w:World):
 Calls prog 75 #[cfV f c p t d k r] w fun e w'=>e= .returned (.bool (cfA f c p t&&cfB d k r))∧Below w.heap.size w w':=by
 have B:∀o,Below w.heap.size w (w.alloc o):=fun o=>(aJ _ _).alloc (aE _) o;go_enter func75,ntmps75;go_wp2_with (go_at_call 80;refine(hU _ _ _ _).mono ?_;rintro e w' ⟨rfl,rfl⟩);all_goals
  go_ret;exact⟨by simp[cfA,cfB, *],B _⟩
end Go.Proofs.YtbbdgokdfhdpiaaGreatDoor
