/- A part of the proof: MemAc2, PAc1, PAc2, KpEv, RecPure, MoInvA, PProp, PAc6. -/
import Derived.Test.YtbbdgokdfhdpiaaGreatDoorD10
namespace Go.Proofs.YtbbdgokdfhdpiaaGreatDoor
set_option linter.all false
set_option maxRecDepth 100000
set_option maxHeartbeats 40000000
open Go.Proofs.Tryz Go.RowKit
section
open Go.RowKit Go.Maps
abbrev mZ(eb:Addr):Value:=.iface 328 (.pointer (some eb))
abbrev aGP:Value:=.iface 295 (.agg #[.pointer (some ⟨2,202,none⟩)])
structure GlAt(W:World)(B:Nat)(eb:Addr):Prop where
 b0:0<B
 b1:1<B
 hB:B≤W.heap.size
 err:W.cell? ⟨0,0,none⟩=some (mZ eb)
 typ:W.cell? ⟨1,0,none⟩=some aGP
theorem GlAt.of_heap{W W':World}{B:Nat}{eb:Addr}(h:GlAt W B eb)(hs:W.heap.size≤W'.heap.size)(hb:∀k,k<B→W'.heap[k]?=W.heap[k]?):GlAt W' B eb:=
 ⟨h.b0,h.b1,bU h.hB hs,(aW (hb 0 h.b0)).trans h.err,(aW (hb 1 h.b1)).trans h.typ⟩
theorem GlAt.kept{W W':World}{S:Nat→Prop}{B:Nat}{eb:Addr}(h:GlAt W B eb)(hc:Chg S W W')(hn:∀k,S k→B≤k):GlAt W' B eb:=
 h.of_heap hc.size fun k hk=>hc.block k (aG hk h.hB) (fun hs=>by have:=hn k hs;omega)
abbrev acL(a:Ac)(d tb g:Nat):List Value:=[.int .i64 a.num,.int .i64 a.compact,.pointer (some ⟨d,0,none⟩),.map (some tb),.int .i64 a.st,vL g]
abbrev zQ(W:World)(b:Nat)(rs:List Rw):Prop:=W.ownsMap prog 3 rU b 4 (mT rs)
structure AcAt(W:World)(FD:Nat→Prop)(b g d tb:Nat)(a:Ac):Prop where
 blk:W.heap[b]?=some (.cells (acL a d tb g).toArray 162 (0,0))
 disk:Disk W FD d a.dk
 table:zQ W tb a.rows
 nb:¬FD b
 ntb:¬FD tb
def InF(FD:Nat→Prop)(b tb:Nat):Nat→Prop:=fun x=>FD x∨x=b∨x=tb
def Acc(W:World)(F:Nat→Prop)(b g:Nat)(a:Ac):Prop:=∃FD d tb,AcAt W FD b g d tb a∧(∀x,InF FD b tb x→F x)∧∀x,F x→x<W.heap.size
theorem Disk.of_heap{W W':World}{F:Nat→Prop}{d:Nat}{k:Dk}(h:Disk W F d k)(hs:W.heap.size≤W'.heap.size)(hb:∀k,F k→W'.heap[k]?=W.heap[k]?):Disk W' F d k:=by
 obtain⟨b,e,f,c,a,g,h⟩:=h;exact⟨b,e,f,c,a,g,h.of_heap hs hb⟩
section
variable {W:World} {F:Nat→Prop} {d:Nat} {k:Dk}
theorem Disk.lt(h:Disk W F d k):∀x,F x→x<W.heap.size:=by
 obtain⟨b,e,f,c,a,g,h⟩:=h;exact h.lt
theorem Disk.fd(h:Disk W F d k):F d:=by
 obtain⟨b,e,f,c,a,g,h⟩:=h;exact h.fd
end
section
variable {W W':World}{FD F S:Nat→Prop}{b g d tb:Nat}{a:Ac}
theorem AcAt.of_heap(h:AcAt W FD b g d tb a)(hs:W.heap.size≤W'.heap.size)(hb:∀x,InF FD b tb x→W'.heap[x]?=W.heap[x]?):AcAt W' FD b g d tb a:=
 ⟨(hb b (Or.inr (Or.inl rfl))).trans h.blk,h.disk.of_heap hs (fun x hx=>hb x (Or.inl hx)),dE h.table (hb tb (Or.inr (Or.inr rfl))),h.nb,h.ntb⟩
theorem AcAt.inlt(h:AcAt W FD b g d tb a):∀x,InF FD b tb x→x<W.heap.size:=fun x hx=>by
 rcases hx with hx|hx|hx
 ·exact h.disk.lt x hx
 ·subst hx;exact cW h.blk
 ·subst hx;exact h.table.lt
theorem AcAt.kept(h:AcAt W FD b g d tb a)(hc:Chg S W W')(hn:∀x,InF FD b tb x→¬S x):AcAt W' FD b g d tb a:=
 h.of_heap hc.size fun x hx=>hc.block x (h.inlt x hx) (hn x hx)
theorem AcAt.cell(h:AcAt W FD b g d tb a)(j:Nat)(x:Value)(hj:(acL a d tb g)[j]?=some x):W.cell? ⟨b,j,none⟩=some x:=cC h.blk j x (by simpa using hj)
theorem AcAt.froz(h:AcAt W FD b g d tb a)(j:Nat):W.frozen? ⟨b,j,none⟩=false:=cV h.blk j
theorem AcAt.bt(h:AcAt W FD b g d tb a):b≠tb:=fun e=>by
 obtain⟨_,_,o⟩:=dM h.table;exact dT h.blk o (by simp) e
theorem Acc.kept(h:Acc W F b g a)(hc:Chg S W W')(hn:∀x,F x→¬S x):Acc W' F b g a:=by
 obtain⟨j,d,e,f,c,i⟩:=h;exact⟨j,d,e,f.kept hc (fun x hx=>hn x (c x hx)),c,fun x hx=>aG (i x hx) hc.size⟩
theorem Acc.lt(h:Acc W F b g a):∀x,F x→x<W.heap.size:=by
 obtain⟨j,d,e,i,f,c⟩:=h;exact c
theorem AcAt.disk'{FD':Nat→Prop}{k:Dk}(h:AcAt W FD b g d tb a)(hd:Disk W' FD' d k)(hc:Chg FD W W')(hf:∀x,FD' x→FD x∨W.heap.size≤x):AcAt W' FD' b g d tb {a with dk:=k}:=by
 refine⟨hc.kept h.blk h.nb,hd,dE h.table (hc.block _ h.table.lt h.ntb),fun hx=>?_,fun hx=>?_⟩
 ·rcases hf b hx with h'|h'
  ·exact h.nb h'
  ·have:=cW h.blk;omega
 ·rcases hf tb hx with h'|h'
  ·exact h.ntb h'
  ·have:=h.table.lt;omega
end
def AcTo(W:World)(F:Nat→Prop)(b g:Nat)(a:Ac)(W':World):Prop:=∃F',Acc W' F' b g a∧Chg F W W'∧∀x,F' x→F x∨W.heap.size≤x
theorem AcTo.of{W:World}{F:Nat→Prop}{b g:Nat}{a:Ac}(h:Acc W F b g a):AcTo W F b g a W:=⟨F,h,Chg.refl _ _,fun _ h=>Or.inl h⟩
theorem AcTo.trans{A B C:World}{F F1:Nat→Prop}{b g:Nat}{a:Ac}(hc:Chg F A B)(hf:∀x,F1 x→F x∨A.heap.size≤x)(h:AcTo B F1 b g a C):AcTo A F b g a C:=by
 obtain⟨c,e,d,f⟩:=h;refine⟨c,e,hc.trans d (fun x hx h'=>?_),fun x hx=>?_⟩
 ·rcases hf x h' with h|h
  ·exact h
  ·omega
 ·rcases f x hx with h|h
  ·exact hf x h
  ·right;have:=hc.size;omega
theorem AcAt.to{W W':World}{FD F:Nat→Prop}{b g d tb:Nat}{a:Ac}{k:Dk}(h:AcAt W FD b g d tb a)(hF:∀x,InF FD b tb x→F x)(hlt:∀x,F x→x<W.heap.size)(hd:DkTo W FD d k W'):∃FD':Nat→Prop,∃F':Nat→Prop,AcAt W' FD' b g d tb {a with dk:=k}∧(∀x,InF FD' b tb x→F' x)∧(∀x,F' x→x<W'.heap.size)∧Chg F W W'∧(∀x,F x→F' x)∧∀x,F' x→F x∨W.heap.size≤x:=by
 obtain⟨FD',h1,h2,h3⟩:=hd;refine⟨FD',fun x=>F x∨FD' x,h.disk' h1 h2 h3,fun x hx=>?_,fun x hx=>?_,h2.mono (fun x _ hx=>hF x (Or.inl hx)),fun x hx=>Or.inl hx,fun x hx=>?_⟩
 ·rcases hx with hx|hx|hx
  ·exact Or.inr hx
  ·exact Or.inl (hF x (Or.inr (Or.inl hx)))
  ·exact Or.inl (hF x (Or.inr (Or.inr hx)))
 ·rcases hx with hx|hx
  ·exact aG (hlt x hx) h2.size
  ·exact h1.lt x hx
 ·rcases hx with hx|hx
  ·exact Or.inl hx
  ·rcases h3 x hx with h'|h'
   ·exact Or.inl (hF x (Or.inl h'))
   ·exact Or.inr h'
def qG(v ev:Value)(W:World)(F:Nat→Prop)(b g:Nat)(p:Ac×How)(e:Ending)(W':World):Prop:=AcTo W F b g p.1 W'∧match p.2 with
 |.none=>e= .returned v
 |(.some (.some q))=>e= .panicked (pI q)
 |(.some .none)=>∃fb,e= .returned (kQ fb)∧kO W' fb ev∧W.heap.size≤fb
structure wB(a:Ac):Prop where
 n0:0≤a.num
 n1:a.num≤100
 c0:0≤a.compact
 c1:a.compact≤1000
 lk:∀r ∈ a.rows,0≤r.lock∧r.lock≤3
 fo:gV a.dk
 l1:(a.dk.log.length:Int)≤100000000000
end
section
open Go.RowKit Go.Maps
section
variable (W:World) (F:Nat→Prop) (b g:Nat) (a:Ac)
theorem aCG(h:Acc W F b g a):
 Calls prog 60 #[.pointer (some ⟨b,0,none⟩)] W fun e W'=>e= .returned (.string (strOfNums a.dk.log))∧W'=W:=by
 obtain⟨c,d,j,h,_,_⟩:=h;have i:=h.cell 2 _ rfl;have f:=cB (aHV W c d a.dk h.disk);clear h;go_enter func60,ntmps60;go_wp2_with (go_at_call 96;refine f.out.mono ?_;rintro e k ⟨rfl,rfl⟩);go_ret;exact⟨rfl,rfl⟩
theorem zS(h:Acc W F b g a)(hl:(a.dk.log.length:Int)≤1000000000000):
 Calls prog 173 #[.pointer (some ⟨b,0,none⟩)] W fun e W'=>e= .returned (.bool (mJ a))∧W'=W.drew:=by
 have c:Hid (∀x,x=W.drew→Calls prog 60 #[.pointer (some ⟨b,0,none⟩)] x fun e w'=>e= .returned (.string (strOfNums a.dk.log))∧w'=x):=fun x hx=>by
  subst hx;exact aCG W.drew F b g a (h.kept (Chg.refl NoS W).drew (fun _ _ h=>h))
 obtain⟨m,d,l,h,_,_⟩:=h;have n:=h.cell 1 _ rfl;have i:=nR a.dk.log;have j:((a.dk.log.length:Int)).tdiv 25=(a.dk.log.length:Int) / 25:=Int.tdiv_eq_ediv_of_nonneg (by omega);have k:IntKind.i64.wrap ((a.dk.log.length:Int) / 25)=(a.dk.log.length:Int) / 25:=dZ (by omega) (by omega);clear h;unfold mJ;go_enter func173,ntmps173;go_wp2_with fail;refine dJ [0,1,1,0,0,0,0,1,0,0] (by kernel_rfl) (fun _ _ _ _=>rfl) ?_;simp only[cL,cK];iterate 1 (apply sB rfl rfl;·(intro x h;(try cases h rfl);go_simp;with_reducible rfl))
 try simp only[pA]
 refine dB (v:=.string (strOfNums a.dk.log)) (f:=60) (args:=#[.pointer (some ⟨b,0,none⟩)]) rfl (fun x hx=>by subst hx;go_simp;try rfl) (fun x hx=>c.out x hx) ?_;(try simp only[pA]);iterate 8 (apply sB rfl rfl;·(intro x h;(try cases h rfl);go_simp;with_reducible rfl))
 refine cD ?_;try simp only[pA]
 go_wp2_with fail;go_ret;exact⟨by first|rfl|simp,rfl⟩
end
end
section
open Go.RowKit Go.Maps
theorem Chg.below'{A B:World}(h:Below A.heap.size A B):Chg NoS A B:=⟨h.os,h.tape,h.output,h.size,fun k hk _=>h.block k hk⟩
theorem aD2{f:FuncId}{args:Array Value}{v ev:Value}{W:World}{F:Nat→Prop}{d:Nat}{p:Dk×How}(h:Calls prog f args W fun e W'=>EndsK v ev W F d p e W'):match p.2 with
 |.none=>Calls prog f args W fun e W'=>e= .returned v∧DkTo W F d p.1 W'
 |(.some (.some q))=>Calls prog f args W fun e W'=>e= .panicked (pI q)∧DkTo W F d p.1 W'
 |(.some .none)=>Calls prog f args W fun e W'=>∃b,e= .returned (kQ b)∧kO W' b ev∧W.heap.size≤b∧DkTo W F d p.1 W':=by
 obtain⟨k,a⟩:=p;cases a using lS with
 |fine=>exact h.mono fun e W' ⟨a,h2⟩=>⟨h2,a⟩
 |dies q=>exact h.mono fun e W' ⟨a,h2⟩=>⟨h2,a⟩
 |full=>exact h.mono fun e W' ⟨a,b,h2,h3,h4⟩=>⟨b,h2,h3,h4,a⟩
theorem EndsK.log{v ev:Value}{W W':World}{F:Nat→Prop}{d:Nat}{p:Dk×How}{e:Ending}(h:EndsK v ev W F d p e W'):DkTo W F d p.1 W':=h.1
theorem aIo{W:World}{tb:Nat}{rs:List Rw}(h:zQ W tb rs)(r:Rw)(hr:0≤r.lock∧r.lock≤3)(hl:∀r ∈ rs,0≤r.lock∧r.lock≤3):∃W',(Instr.mapUpdate 118 (.map (some tb)) (.int .i64 r.lock) (rwV r)).run prog W= .ok () W'∧zQ W' tb (rs++[r])∧Chg (fun x=>x=tb) W W'∧W'.heap.size=W.heap.size:=by
 have c:keyOf prog 3 (.int .i64 r.lock)=some (.int .i64 r.lock):=keyOf_int_mk underlying3 (aCi hr.1 (by omega));obtain⟨W',d,a,b⟩:=h.store aFE underlying118 (by decide) c (xY r);refine⟨W',d,?_,nP b,mO b⟩;rw[←rL]at a;have e:=sN (rs:=rs++[r]) (fun x hx=>by
  rcases aO.1 hx with h|h
  ·exact hl x h
  ·rw[List.mem_singleton]at h;subst h;exact hr) a
 exact mC a (by rw[e];exact nA _)
theorem aFn(W:World)(F:Nat→Prop)(B:Nat)(eb:Addr)(b g:Nat)(a:Ac)(r:Rw)(h:Acc W F b g a)(hgl:GlAt W B eb)(hFB:∀x,F x→B≤x)(hok:wB a)(hr:0≤r.lock∧r.lock≤3)(hnew:a.dk.new=none)(hold:a.dk.old=none):
 Calls prog 171 #[.pointer (some ⟨b,0,none⟩),rwV r] W fun e W'=>qG .nilIface (mZ eb) W F b g (fY a r) e W':=by
 obtain⟨FD,d,tb,h,d6,c4⟩:=h;have b5:Chg NoS W (W.alloc (.cells #[.int .i64 r.lock,.int .i64 r.prom,.int .i64 r.acc,.int .i64 r.own,.int .i64 r.tok,.int .i64 r.ttl,.int .i64 r.seq] 58)):=(Chg.refl _ _).alloc _;have c6:(W.alloc (.cells #[.int .i64 r.lock,.int .i64 r.prom,.int .i64 r.acc,.int .i64 r.own,.int .i64 r.tok,.int .i64 r.ttl,.int .i64 r.seq] 58)).heap[W.heap.size]?=some (.cells (rwL r).toArray 58 (0,0)):=aA W _;have c5:(W.alloc (.cells #[.int .i64 r.lock,.int .i64 r.prom,.int .i64 r.acc,.int .i64 r.own,.int .i64 r.tok,.int .i64 r.ttl,.int .i64 r.seq] 58)).heap.size=W.heap.size+1:=by simp
 generalize d2:W.alloc (.cells #[.int .i64 r.lock,.int .i64 r.prom,.int .i64 r.acc,.int .i64 r.own,.int .i64 r.tok,.int .i64 r.ttl,.int .i64 r.seq] 58)=W0 at*;have c8:=cB d2;have h0:=h.kept b5 (fun _ _ h=>h);have c2:=h0.cell 2 _ rfl;have E:=cB (aJ3 h d6 c4 hgl hFB hok hr hnew hold);have c1:=cB b5;have b4:=cB c6;have b9:=cB c5;have c0:Hid (∀x,x=W0.drew→Calls prog 100 #[rwV r] x fun e w'=>e= .returned (.string (strOfNums (dR r)))∧Below x.heap.size x w'):=fun x hx=>aDn r x;clear d2 b5 c6 c5 h0 h d6 c4 hgl hFB hok hr hnew hold;go_enter func171,ntmps171;go_wp2_with (first|rw[c8.out]);refine rlx [0,0,0,1,1,2] (fun x=>x.cell? ⟨b,2,none⟩=some (.pointer (some ⟨d,0,none⟩))∧∀j y,(rwL r)[j]?=some y→x.cell? ((⟨W.heap.size,0,none⟩:Addr).add j)=some y) (by kernel_rfl) (fun _ _ _ _=>rfl) ?_ ?_
 ·exact⟨c2,cF (W:=W0.drew) b4.out⟩
 simp only[cL,cK];iterate 4 (apply sB rfl rfl;·(intro x h;(try have h:=h rfl);(try dsimp only at h);go_simp;with_reducible rfl))
 try simp only[pA]
 refine cM (v:=rwV r) rfl (fun x hx=>cG 58 _ rfl ⟨W.heap.size,0,none⟩ rfl (rwL r) _ hx.2 underlying58 rfl (by kernel_rfl)) ?_;(try simp only[pA]);refine dC rfl (fun C hC=>?_);go_simp;refine(c0.out _ rfl).mono ?_;rintro e W1 ⟨rfl,U⟩;have a7:=c1.out.trans (S:=NoS) (Chg.below' U).of_drew (fun _ _ h=>h);have b7:=(Chg.below' U).of_drew.kept b4.out (fun h=>h);have d0:W.heap.size+1≤W1.heap.size:=by have:=(Chg.below' U).size;have:=b9.out;simp at*;omega
 have h1:=E.out.1.kept a7 (fun _ _ h=>h);refine hC _ _ ⟨h1.cell 2 _ rfl,cF b7⟩ ?_;clear hC C;refine cD ?_;have a3:=E.out.2.2.2.1.kept a7 (fun _ h=>h.elim);have hok:=E.out.2.2.2.2.2.1;have e1:((dR r).length:Int)≤25:=by
  unfold dR;split
  ·rw[oK];decide
  ·decide
 have a9:¬FD 0:=fun hx=>by
  have:=E.out.2.2.2.2.1 0 (E.out.2.1 0 (Or.inl hx));have:=a3.b0;omega
 have e4:hP a.dk=0:=by unfold hP;rw[E.out.2.2.2.2.2.2.2.1]
 have R:=cB (aAx W1 FD d a.dk _ _ (dR r) h1.disk hok.fo a3.err a9 E.out.2.2.2.2.2.2.2.2 (by omega) (by have:=hok.l1;omega) (by omega));have X:=cB a7;have b6:=cB b7;have O:=cB d0;have b1:=cB h1;clear U a7 b7 d0 h1 a3 hok e1 a9 e4 c2 c0 b4 c1 b9 c8;obtain⟨J,d3⟩:=aJ8 ((dQ a.dk (dR r) kD).1);have V:=cB d3;clear d3;have c:=aD2 R.out;cases hp:(dQ a.dk (dR r) kD).2 using lS with
 |dies q=>
  rw[hp]at c;have k:=cB c;clear c R;go_wp2_with (first|(go_at_call 196;refine k.out.mono ?_;rintro e W2 ⟨rfl,l⟩;refine cE ?_));obtain⟨Y,Z,T,n,s,i,t,A⟩:=b1.out.to E.out.2.1 (fun x hx=>aG (E.out.2.2.1 x hx) X.out.size) l;rw[V.out]at T;have p:=(X.out.nos:Chg F W W1).trans i (fun _ _ h=>h);have m:∀x,Z x→F x∨W.heap.size≤x:=fun x hx=>by
   rcases A x hx with h|h
   ·exact Or.inl h
   ·right;have:=O.out;omega
  have z:¬F W.heap.size:=fun hx=>by have:=E.out.2.2.1 _ hx;omega
  have u:¬Z W.heap.size:=fun hx=>by
   rcases A _ hx with h|h
   ·exact z h
   ·have:=O.out;omega
  have K:=i.kept b6.out z;have a4:Hid (AcTo W F b g {a with dk:=J} W2):=⟨Z,⟨Y,d,tb,T,n,s⟩,p,m⟩;have f:=cB (aJ1 T n s p m u K);have c9:=cB (l.choose_spec.2.1.size);clear T n s p m u K l i t A z;have P:Hid (fY a r=({a with dk:=J},(.some (.some q)))):=by
   show _=_;have e:dQ a.dk (dR r) kD=(J,(.some (.some q))):=by rw[←V.out,←hp]
   unfold fY lZ iF;rw[e]
  clear hp;refine cB ?_;go_wp2_with fail;refine⟨rfl,?_⟩;rw[P.out];exact⟨a4.out,rfl⟩
 |full=>
  rw[hp]at c;have k:=cB c;clear c R;go_wp2_with (first|(go_at_call 196;refine k.out.mono ?_;rintro e W2 ⟨fb,rfl,d4,e5,l⟩;refine cE ?_));obtain⟨Y,Z,T,n,s,i,t,A⟩:=b1.out.to E.out.2.1 (fun x hx=>aG (E.out.2.2.1 x hx) X.out.size) l;rw[V.out]at T;have p:=(X.out.nos:Chg F W W1).trans i (fun _ _ h=>h);have m:∀x,Z x→F x∨W.heap.size≤x:=fun x hx=>by
   rcases A x hx with h|h
   ·exact Or.inl h
   ·right;have:=O.out;omega
  have z:¬F W.heap.size:=fun hx=>by have:=E.out.2.2.1 _ hx;omega
  have u:¬Z W.heap.size:=fun hx=>by
   rcases A _ hx with h|h
   ·exact z h
   ·have:=O.out;omega
  have K:=i.kept b6.out z;have a4:Hid (AcTo W F b g {a with dk:=J} W2):=⟨Z,⟨Y,d,tb,T,n,s⟩,p,m⟩;have f:=cB (aJ1 T n s p m u K);have c9:=cB (l.choose_spec.2.1.size);clear T n s p m u K l i t A z;have P:Hid (fY a r=({a with dk:=J},(.some .none))):=by
   show _=_;have e:dQ a.dk (dR r) kD=(J,(.some .none)):=by rw[←V.out,←hp]
   unfold fY lZ iF;rw[e]
  have e3:=cB d4;clear hp d4;refine cB ?_;go_wp2_with fail;go_ret;rw[P.out];exact⟨a4.out,fb,rfl,e3.out,by have:=O.out;omega⟩
 |fine=>
  rw[hp]at c;have k:=cB c;clear c R;go_wp2_with (first|(go_at_call 196;refine k.out.mono ?_;rintro e W2 ⟨rfl,l⟩;refine cE ?_));obtain⟨Y,Z,T,n,s,i,t,A⟩:=b1.out.to E.out.2.1 (fun x hx=>aG (E.out.2.2.1 x hx) X.out.size) l;rw[V.out]at T;have p:=(X.out.nos:Chg F W W1).trans i (fun _ _ h=>h);have m:∀x,Z x→F x∨W.heap.size≤x:=fun x hx=>by
   rcases A x hx with h|h
   ·exact Or.inl h
   ·right;have:=O.out;omega
  have z:¬F W.heap.size:=fun hx=>by have:=E.out.2.2.1 _ hx;omega
  have u:¬Z W.heap.size:=fun hx=>by
   rcases A _ hx with h|h
   ·exact z h
   ·have:=O.out;omega
  have K:=i.kept b6.out z;have a4:Hid (AcTo W F b g {a with dk:=J} W2):=⟨Z,⟨Y,d,tb,T,n,s⟩,p,m⟩;have f:=cB (aJ1 T n s p m u K);have c9:=cB (l.choose_spec.2.1.size);clear T n s p m u K l i t A z;have D:dQ a.dk (dR r) kD=(J,.none):=by rw[←V.out,←hp]
  obtain⟨k0,b3,a2⟩:∃k0,fR a.dk=some k0∧J=kD k0 (dR r):=by
   unfold dQ at D;cases hs:fR a.dk with
   |none=>rw[hs]at D;cases D
   |some k0=>
    rw[hs]at D;dsimp only at D;split at D
    ·cases D
    ·exact⟨k0,rfl,(Prod.mk.inj D).1.symm⟩
  have hok:=E.out.2.2.2.2.2.1;have d7:gV J:=by have h':=jS b3 hok.fo;rw[a2];exact h'
  have d1:J.old=none:=by have h':=(gM b3).2.2.2.2.trans E.out.2.2.2.2.2.2.2.2;rw[a2];exact h'
  have c2:=f.out.1.cell 2 _ rfl;have b8:=cB (aCN W2 Y d J (mZ eb) f.out.1.disk d7 d1);have R:=cB D;clear hp D b3 a2 hok d7 d1;refine cB ?_;obtain⟨k2,b2⟩:=aJ8 ((dH J lC).1);have a6:=cB b2;have c:=aD2 b8.out;cases hp:(dH J lC).2 using lS with
  |full=>
   exfalso;unfold dH at hp;split at hp<;>cases hp
  |dies q=>
   rw[hp]at c;have k:=cB c;clear c b8 b2;go_wp2_with (first|(go_at_call 197;refine k.out.mono ?_;rintro e W3 ⟨rfl,l⟩;refine cE ?_));obtain⟨a5,F3,N,H,M,i,t,Q⟩:=f.out.1.to f.out.2.1 f.out.2.2.1 l;rw[a6.out]at N;have L:Chg F W W3:=f.out.2.2.2.1.trans i (fun x hx h=>by
    rcases f.out.2.2.2.2.1 x h with h|h
    ·exact h
    ·omega)
   have I:∀x,F3 x→F x∨W.heap.size≤x:=fun x hx=>by
    rcases Q x hx with h|h
    ·exact f.out.2.2.2.2.1 x h
    ·right;have:=f.out.2.2.2.1.size;omega
   have a0:=i.kept f.out.2.2.2.2.2.2 f.out.2.2.2.2.2.1;have a1:¬F3 W.heap.size:=fun hx=>by
    rcases Q _ hx with h|h
    ·exact f.out.2.2.2.2.2.1 h
    ·have:=cW f.out.2.2.2.2.2.2;omega
   have P:Hid (fY a r=({a with dk:=k2},(.some (.some q)))):=by
    show _=_;have e:dH J lC=(k2,(.some (.some q))):=by rw[←a6.out,←hp]
    unfold fY lZ iF;rw[R.out];dsimp only;rw[e]
   have d9:Hid (AcTo W F b g {a with dk:=k2} W3):=⟨F3,⟨a5,d,tb,N,H,M⟩,L,I⟩;clear hp N H M L I a0 a1 l i t Q;refine cB ?_;go_wp2_with fail;refine⟨rfl,?_⟩;rw[P.out];exact⟨d9.out,rfl⟩
  |fine=>
   rw[hp]at c;have k:=cB c;clear c b8 b2;go_wp2_with (first|(go_at_call 197;refine k.out.mono ?_;rintro e W3 ⟨rfl,l⟩;refine cE ?_));obtain⟨a5,F3,N,H,M,i,t,Q⟩:=f.out.1.to f.out.2.1 f.out.2.2.1 l;rw[a6.out]at N;have L:Chg F W W3:=f.out.2.2.2.1.trans i (fun x hx h=>by
    rcases f.out.2.2.2.2.1 x h with h|h
    ·exact h
    ·omega)
   have I:∀x,F3 x→F x∨W.heap.size≤x:=fun x hx=>by
    rcases Q x hx with h|h
    ·exact f.out.2.2.2.2.1 x h
    ·right;have:=f.out.2.2.2.1.size;omega
   have a0:=i.kept f.out.2.2.2.2.2.2 f.out.2.2.2.2.2.1;have a1:¬F3 W.heap.size:=fun hx=>by
    rcases Q _ hx with h|h
    ·exact f.out.2.2.2.2.2.1 h
    ·have:=cW f.out.2.2.2.2.2.2;omega
   have P:Hid (fY a r=({a with dk:=k2,rows:=a.rows++[r]},.none)):=by
    show _=_;have e:dH J lC=(k2,.none):=by rw[←a6.out,←hp]
    unfold fY lZ iF;rw[R.out];dsimp only;rw[e]
   obtain⟨W4,a8,d5,c7,e6⟩:=aIo (W:=W3.drew) N.table r E.out.2.2.2.2.2.2.1 E.out.2.2.2.2.2.1.lk;have G:=c7.of_drew;have h4:AcAt W4 a5 b g d tb {a with dk:=k2,rows:=a.rows++[r]}:=by
    obtain⟨_,_,o⟩:=dM N.table;exact⟨G.kept N.blk N.bt,N.disk.of_heap G.size (fun x hx=>G.block x (N.disk.lt x hx) (fun e=>N.ntb (e▸hx))),d5,N.nb,N.ntb⟩
   have d8:Hid (AcTo W F b g {a with dk:=k2,rows:=a.rows++[r]} W4):=⟨F3,⟨a5,d,tb,h4,H,fun x hx=>aG (M x hx) G.size⟩,L.trans G (fun x hx e=>by
    rcases I tb (H tb (Or.inr (Or.inr rfl)))with h|h
    ·exact e▸h
    ·omega),I⟩
   have c3:=N.cell 3 _ rfl;have r0:=cC a0 0 _ rfl;have e0:=cB a8;have e2:=cB a0;clear hp N H M L I a0 a1 l i t Q h4 a8 d5 c7 G c2;refine cB ?_;go_wp2_with fail;refine rlx [0,0,0,1,0,1,1] (fun x=>x.cell? ⟨b,3,none⟩=some (.map (some tb))∧x.cell? ⟨W.heap.size,0,none⟩=some (.int .i64 r.lock)∧∀j y,(rwL r)[j]?=some y→x.cell? ((⟨W.heap.size,0,none⟩:Addr).add j)=some y) (by kernel_rfl) (fun _ _ _ _=>rfl) ?_ ?_
   ·exact⟨c3,r0,cF (W:=W3.drew) e2.out⟩
   simp only[cL,cK];iterate 6 (apply sB rfl rfl;·(intro x h;(try have h:=h rfl);(try dsimp only at h);go_simp;with_reducible rfl))
   try simp only[pA]
   refine cM (v:=rwV r) rfl (fun x hx=>cG 58 _ rfl ⟨W.heap.size,0,none⟩ rfl (rwL r) _ hx.2.2 underlying58 rfl (by kernel_rfl)) ?_;refine cD ?_;(try simp only[pA]);go_wp2_with (at_mapUpdate;refine jT rfl 118 _ _ _ rfl (.map (some tb)) (.int .i64 r.lock) (rwV r) rfl rfl rfl (fun w=>w=W4) ⟨W4,e0.out,rfl⟩ ?_;rintro _ rfl);go_ret;rw[P.out];exact⟨d8.out,rfl⟩
end
def LsAt{α:Type}(f:α→List Value)(sz:Nat)(W:World)(p:Option Addr)(l:List α):Prop:=
 ∀k (h:k<l.length),∃g,p=some ⟨g,0,none⟩∧g<W.heap.size∧∀j u,(f l[k])[j]?=some u→W.cell? ⟨g,k*sz+j,none⟩=some u
section
variable {α:Type}{f:α→List Value}{sz:Nat}{W W':World}{p:Option Addr}{l:List α}
theorem LsAt.of_owns(hf:∀x,(f x).length=sz){base n:Nat}{t:TypeId}{v:Value}(h:W.ownsRow base t sz v n (cQ f l))(hn:n=l.length):∃p cap,v= .slice p n cap∧LsAt f sz W p l∧∀g,p=some ⟨g,0,none⟩→base≤g:=by
 subst hn;have b:=h.lt;rcases h.2 with⟨rfl,d⟩|⟨g,cap,i,rfl,e,_⟩
 ·refine⟨none,0,by rw[d],fun k hk=>by omega,fun g hg=>(by cases hg)⟩
 ·refine⟨some ⟨g,0,none⟩,cap,rfl,fun k hk=>⟨g,rfl,(b g rfl).2,fun j u hj=>?_⟩,fun g' hg'=>by cases hg';exact e⟩;have c:j<sz:=by rw[←hf l[k]];exact(aF.1 hj).1
  have a:k*sz+j<l.length*sz:=by
   have:(k+1)*sz≤l.length*sz:=Nat.mul_le_mul_right _ hk;rw[Nat.add_mul]at this;omega
  rw[h.cellAt _ a,tM f (k:=sz) hf _ k hk j c];exact hj
theorem LsAt.of_heap(h:LsAt f sz W p l)(hs:W.heap.size≤W'.heap.size)(hb:∀g,p=some ⟨g,0,none⟩→g<W.heap.size→W'.heap[g]?=W.heap[g]?):LsAt f sz W' p l:=fun k hk=>by
 obtain⟨g,rfl,hg,hc⟩:=h k hk;exact⟨g,rfl,aG hg hs,fun j u hj=>(aW (hb g rfl hg)).trans (hc j u hj)⟩
theorem LsAt.chg(h:LsAt f sz W p l){S:Nat→Prop}(hc:Chg S W W')(hn:∀g,p=some ⟨g,0,none⟩→¬S g):LsAt f sz W' p l:=h.of_heap hc.size fun g e hg=>hc.block g hg (hn g e)
theorem LsAt.chg0(h:LsAt f sz W p l)(hc:Chg NoS W W'):LsAt f sz W' p l:=h.chg hc fun _ _ z=>z
theorem LsAt.below(h:LsAt f sz W p l)(hb:Below W.heap.size W W'):LsAt f sz W' p l:=h.chg0 (Chg.below' hb)
end
theorem zT(fn:Func){x t:Tmp}(hr:fn.results=#[.cell x 70,.tmp t])(tmps:Array Value)(b:Nat)(e:Ev)(q:Bool)(W:World)(h4:tmps.getD x undef= .pointer (some ⟨b,0,none⟩))(h5:tmps.getD t undef= .bool q)(hb:W.heap[b]?=some (.cells (evL e).toArray 70 (0,0))):
 (results fn tmps).run prog W= .ok (.tuple #[evV e,.bool q]) W:=by
 have a:(loadVar 70 ⟨b,0,none⟩).run prog W= .ok (evV e) W:=eK W ⟨b,0,none⟩ 70 (evL e) _ (cF hb) underlying70 rfl (by kernel_rfl);unfold results;rw[hr];simp only[bY]at h4 h5;simp[h4,h5,asAddr,aT,a]
theorem oV(fn:Func){x:Tmp}(hr:fn.results=#[.cell x 70])(tmps:Array Value)(b:Nat)(e:Ev)(W:World)(h4:tmps.getD x undef= .pointer (some ⟨b,0,none⟩))(hb:W.heap[b]?=some (.cells (evL e).toArray 70 (0,0))):
 (results fn tmps).run prog W= .ok (evV e) W:=by
 have a:(loadVar 70 ⟨b,0,none⟩).run prog W= .ok (evV e) W:=eK W ⟨b,0,none⟩ 70 (evL e) _ (cF hb) underlying70 rfl (by kernel_rfl);unfold results;rw[hr];simp only[bY]at h4;simp[h4,asAddr,aT,a]
def lU(t:List Ev)(c:Int):Nat→Ev×Bool
 |0=>(zEv,false)
 |n+1=>if(t.getD n zEv).kind=3∧(t.getD n zEv).node=c then(t.getD n zEv,true)else lU t c n
theorem aE2(W:World)(p:Option Addr)(cap:Nat)(t:List Ev)(c:Int)(h:LsAt evL 19 W p t)(ht:t.length≤1000000000000):
 Calls prog 64 #[.slice p t.length cap,.int .i64 c] W fun r W'=>r= .returned (.tuple #[evV (lU t c t.length).1,.bool (lU t c t.length).2])∧Chg NoS W W':=by
 have w:=aA W (.cells #[.int .i64 0,.int .i64 0,.int .i64 0,.int .i64 0,.int .i64 0,.int .i64 0,.int .i64 0,.int .i64 0,.int .i64 0,.int .i64 0,.int .i64 0,.int .i64 0,.int .i64 0,.int .i64 0,.int .i64 0,.int .i64 0,.int .i64 0,.int .i64 0,.int .i64 0] 70);have f:Chg NoS W (W.alloc (.cells #[.int .i64 0,.int .i64 0,.int .i64 0,.int .i64 0,.int .i64 0,.int .i64 0,.int .i64 0,.int .i64 0,.int .i64 0,.int .i64 0,.int .i64 0,.int .i64 0,.int .i64 0,.int .i64 0,.int .i64 0,.int .i64 0,.int .i64 0,.int .i64 0,.int .i64 0] 70)):=(Chg.refl _ _).alloc _;generalize A:W.alloc (.cells #[.int .i64 0,.int .i64 0,.int .i64 0,.int .i64 0,.int .i64 0,.int .i64 0,.int .i64 0,.int .i64 0,.int .i64 0,.int .i64 0,.int .i64 0,.int .i64 0,.int .i64 0,.int .i64 0,.int .i64 0,.int .i64 0,.int .i64 0,.int .i64 0,.int .i64 0] 70)=W1 at w f;have J:=h.chg0 f;have H:=cB A;have C:=cB w;have N:=cB J;have K:=cB f;clear h J w A f;go_enter func64,ntmps64;go_wp2_with (first|rw[H.out]);go_loopw [6] (fun k wr=>∃n:Nat,n≤t.length∧k= .int .i64 ((n:Int)-1)∧wr=W1∧Hid (lU t c t.length=lU t c n)) (fun k _=>(intOf k+1).toNat)
 case atStart=>exact⟨t.length,aE _,rfl,rfl,rfl⟩
 case round=>
  obtain⟨n,l,rfl,rfl,D⟩:=hrel;rcases n with _|m
  ·have z:decide ((0:Int)≤((0:Nat):Int)-1)=false:=by decide
   have E:Hid (wr.heap[W.heap.size]?=some (.cells (evL zEv).toArray 70 (0,0))):=C.out;go_wp2_with (first|(refine cH rfl 70 _ _ rfl W.heap.size 0 70 _ _ (evL zEv) rfl rfl E.out (by kernel_rfl) (by simp[Value.oneCell']) (by simp) rfl ?_;intro M d s b;have x:=cB d;have v:=cB b;clear d s b;refine cE ?_));refine cB ?_;go_wp2_with fail;rw[D.out];exact bodyPost_ret (zT _ results64 _ W.heap.size zEv false _ rfl rfl v.out) rfl ⟨rfl,K.out.fresh x.out (aE _)⟩
  ·obtain⟨g,rfl,S,a⟩:=N.out m (by omega);obtain⟨e,F⟩:=aJ8 (t[m]);rw[F]at a;have z:decide ((0:Int)≤((m+1:Nat):Int)-1)=true:=decide_eq_true (by omega);have B:t.getD m zEv=e:=by rw[aQ,aP (by omega),F];rfl
   have L:((m+1:Nat):Int)-1=(m:Int):=by omega
   have R:(m:Int)<(t.length:Int):=by omega
   have P:decide ((m:Int)<0)=false:=by simp
   have Q:IntKind.i64.wrap ((m:Int)-1)=(m:Int)-1:=dZ (by omega) (by omega);have T:wr.cell? ⟨g,m*19,none⟩=some (.int .i64 e.kind):=a 0 _ rfl;have U:wr.cell? ⟨g,m*19+1,none⟩=some (.int .i64 e.node):=a 1 _ rfl;have G:Hid (∀j u,(evL e)[j]?=some u→wr.cell? ((⟨g,m*19,none⟩:Addr).add j)=some u):=fun j u hj=>by
    have O:(⟨g,m*19,none⟩:Addr).add j=⟨g,m*19+j,none⟩:=by unfold Addr.add;split<;>simp_all
    rw[O];exact a j u hj
   have o:Hid (lU t c (m+1)=if e.kind=3∧e.node=c then(e,true)else lU t c m):=by
    show lU t c (m+1)=_;rw[lU,B]
   have E:Hid (wr.heap[W.heap.size]?=some (.cells (evL zEv).toArray 70 (0,0))):=C.out;rw[L]at z⊢;clear a F B L;by_cases i:e.kind=3
   ·by_cases l:e.node=c
    ·have I:(e.kind==3)=true:=by simp[i]
     have bn:(e.node==c)=true:=by simp[l]
     have y:=cB (o.out.trans (if_pos ⟨i,l⟩));clear i l;go_wp2_with (first|(refine cH rfl 70 _ _ rfl W.heap.size 0 70 _ _ (evL e) rfl rfl E.out (by kernel_rfl) (by simp[Value.oneCell']) (by simp) rfl ?_;intro M d s b;have x:=cB d;have v:=cB b;clear d s b;refine cE ?_)|(refine cI rfl 70 _ rfl ⟨g,m*19,none⟩ rfl (evL e) _ G.out underlying70 rfl (by kernel_rfl) ?_));refine cB ?_;go_wp2_with fail;rw[D.out,y.out];exact bodyPost_ret (zT _ results64 _ W.heap.size e true _ rfl rfl v.out) rfl ⟨rfl,K.out.fresh x.out (aE _)⟩
    ·have I:(e.kind==3)=true:=by simp[i]
     have bn:(e.node==c)=false:=by simp[l]
     have y:=cB (o.out.trans (if_neg (fun q=>l q.2)));clear i l;go_wp2_with fail;go_roundw
     case rel=>exact⟨m,by omega,by go_num,trivial,D.out.trans y.out⟩
     case measure=>simp[intOf]
   ·have I:(e.kind==3)=false:=by simp[i]
    have y:=cB (o.out.trans (if_neg (fun q=>i q.1)));clear i;go_wp2_with fail;go_roundw
    case rel=>exact⟨m,by omega,by go_num,trivial,D.out.trans y.out⟩
    case measure=>simp[intOf]
theorem zD{v:Int}(h:0≤v)(h':v≤255):(fK v 1)=[v]:=by
 show[v % 256]=[v];rw[Int.emod_eq_of_lt h (by omega)]
theorem nG{v:Int}(h:0≤v)(h':v≤2147483647):nS (fK v 4)=v:=by
 show v % 256+256*(v / 256 % 256+256*(v / 256 / 256 % 256+256*(v / 256 / 256 / 256 % 256+256*0)))=v;omega
theorem aH7{r:Rw}(h:okB r=true):(0≤r.lock∧r.lock≤3)∧(0≤r.prom∧r.prom≤2147483647)∧(0≤r.acc∧r.acc≤2147483647)∧(0≤r.own∧r.own≤4)∧(0≤r.tok∧r.tok≤2147483647)∧(0≤r.ttl∧r.ttl≤2147483647)∧(0≤r.seq∧r.seq≤2147483647):=by
 simp only[okB,wrB,aR,aM]at h;omega
theorem aI9{r:Rw}(h:(0≤r.lock∧r.lock≤3)∧(0≤r.prom∧r.prom≤2147483647)∧(0≤r.acc∧r.acc≤2147483647)∧(0≤r.own∧r.own≤4)∧(0≤r.tok∧r.tok≤2147483647)∧(0≤r.ttl∧r.ttl≤2147483647)∧(0≤r.seq∧r.seq≤2147483647)):okB r=true:=by
 simp only[okB,wrB,aR,aM];omega
theorem aCw(r:Rw)(rest:List Int):mV r++rest=[82]++(fK r.lock 1++(fK r.prom 4++(fK r.acc 4++(fK r.own 1++(fK r.tok 4++(fK r.ttl 4++(fK r.seq 4++(fK (mM (kK r) 0 0) 2++rest)))))))):=by
 simp[mV,kK]
theorem nI{a b:List Int}{n:Nat}(h:a.length=n):(a++b).drop n=b:=by subst h;simp
theorem yX{a b:List Int}{n:Nat}(h:a.length=n):(a++b).take n=a:=by subst h;simp
theorem aCC{r:Rw}(h:okB r=true)(rest:List Int):nB (mV r++rest)=r:=by
 obtain⟨q,j,m,p,l,g,k⟩:=aH7 h;have n:(mV r++rest).drop 2=fK r.prom 4++(fK r.acc 4++(fK r.own 1++(fK r.tok 4++(fK r.ttl 4++(fK r.seq 4++(fK (mM (kK r) 0 0) 2++rest)))))):=by
  rw[aCw,←aS];exact nI (by simp[gW])
 have i:(mV r++rest).drop 6=fK r.acc 4++(fK r.own 1++(fK r.tok 4++(fK r.ttl 4++(fK r.seq 4++(fK (mM (kK r) 0 0) 2++rest))))):=by
  rw[show(6:Nat)=2+4 from rfl,←List.drop_drop,n];exact nI (by simp[gW])
 have d:(mV r++rest).drop 10=fK r.own 1++(fK r.tok 4++(fK r.ttl 4++(fK r.seq 4++(fK (mM (kK r) 0 0) 2++rest)))):=by
  rw[show(10:Nat)=6+4 from rfl,←List.drop_drop,i];exact nI (by simp[gW])
 have a:(mV r++rest).drop 11=fK r.tok 4++(fK r.ttl 4++(fK r.seq 4++(fK (mM (kK r) 0 0) 2++rest))):=by
  rw[show(11:Nat)=10+1 from rfl,←List.drop_drop,d];exact nI (by simp[gW])
 have c:(mV r++rest).drop 15=fK r.ttl 4++(fK r.seq 4++(fK (mM (kK r) 0 0) 2++rest)):=by
  rw[show(15:Nat)=11+4 from rfl,←List.drop_drop,a];exact nI (by simp[gW])
 have e:(mV r++rest).drop 19=fK r.seq 4++(fK (mM (kK r) 0 0) 2++rest):=by
  rw[show(19:Nat)=15+4 from rfl,←List.drop_drop,c];exact nI (by simp[gW])
 have o:(mV r++rest).getD 1 0=r.lock:=by
  rw[aCw,zD q.1 (by omega)]
  rfl
 have f:(mV r++rest).getD 10 0=r.own:=by
  rw[aQ,show(mV r++rest)[10]?=((mV r++rest).drop 10)[0]? by rw[List.getElem?_drop],d,zD p.1 (by omega)]
  rfl
 have t:∀(v:Int) (b:List Int),(fK v 4++b).take 4=fK v 4:=fun v b=>yX (gW 4 v);unfold nB;rw[o,f,n,i,a,c,e,t,t,t,t,t,nG j.1 j.2,nG m.1 m.2,nG l.1 l.2,nG g.1 g.2,nG k.1 k.2]
theorem xS{r:Rw}(h:okB r=true):dR r=mV r:=by unfold dR;rw[if_pos h]
theorem lT{r:Rw}(h:okB r=true):(dR r).length=25:=by rw[xS h,oK]
theorem aHh{r:Rw}(h:okB r=true):tH (dR r)=true:=by
 unfold tH;have:=aCC h [];rw[aC]at this;rw[xS h,this,xS h];simp
theorem rC:∀(b n:Nat) (L:List Int),L.length≤n→n≤b→iX n L=iX L.length L
 |_,0,L,h,_=>by
  have:L=[]:=List.length_eq_zero_iff.1 (by omega);subst this;rfl
 |0,n+1,L,h,h'=>absurd h' (by omega)
 |b+1,n+1,L,h,h'=>by
  by_cases hc:25≤L.length∧tH (L.take 25)=true
  ·obtain⟨m,hm⟩:∃m,L.length=m+1:=⟨L.length-1,by omega⟩;have e1:=rC b n (L.drop 25) (by rw[aV];omega) (by omega);have e2:=rC b m (L.drop 25) (by rw[aV];omega) (by omega);rw[oF n L hc,hm,oF m L hc,e1,e2]
  ·rw[oC _ _ hc,oC _ _ hc]
theorem aCe(n:Nat)(L:List Int)(h:L.length≤n):iX n L=iX L.length L:=rC n n L h (aE n)
theorem aDY{r:Rw}(h:okB r=true)(rest:List Int):dU (dR r++rest)=r::dU rest:=by
 have a:=lT h;unfold dU;obtain⟨n,b⟩:∃n,(dR r++rest).length=n+1:=⟨(dR r++rest).length-1,by rw[aD];omega⟩;rw[b,oF n _ ⟨by rw[aD];omega,by rw[yX a];exact aHh h⟩,yX a,nI a];have e:nB (dR r)=r:=by
  have:=aCC h [];rw[aC]at this;rw[xS h];exact this
 have c:=aCe n rest (by rw[aD]at b;omega);rw[e,c]
theorem aCc{L:List Int}(h:L.length<25):dU L=[]:=oC _ _ (by omega)
theorem pX:∀(rs:List Rw),(∀r ∈ rs,okB r=true)→∀(p:List Int),p.length<25→dU (rs.flatMap dR++p)=rs
 |[],_,p,hp=>aCc hp
 |r::rs,h,p,hp=>by
  simp only[List.flatMap_cons,aS];rw[aDY (h r (List.mem_cons_self ..)),pX rs (fun x hx=>h x (List.mem_cons_of_mem _ hx)) p hp]
theorem yR:∀(rs:List Rw),(∀r ∈ rs,okB r=true)→(rs.flatMap dR).length=25*rs.length
 |[],_=>rfl
 |r::rs,h=>by
  simp only[List.flatMap_cons,aD,bH];rw[lT (h r (List.mem_cons_self ..)),yR rs (fun x hx=>h x (List.mem_cons_of_mem _ hx))];omega
theorem sV:∀(f:Nat) (L:List Int),(∀r ∈ iX f L,okB r=true)∧L.take (25*(iX f L).length)=(iX f L).flatMap dR
 |0,L=>by simp[iX]
 |f+1,L=>by
  by_cases hc:25≤L.length∧tH (L.take 25)=true
  ·rw[oF f L hc];obtain⟨h1,h2⟩:=sV f (L.drop 25);refine⟨fun r hr=>?_,?_⟩
   ·rcases List.mem_cons.1 hr with rfl|hr
    ·exact rB hc.2 (by simp;omega)
    ·exact h1 r hr
   ·have e:dR (nB (L.take 25))=L.take 25:=by have:=hc.2;unfold tH at this;simpa using this
    rw[List.flatMap_cons,e,←h2,bH,show 25*((iX f (L.drop 25)).length+1)=25+25*(iX f (L.drop 25)).length by omega,List.take_add]
  ·rw[oC _ _ hc];simp
theorem aAf(L:List Int):∀r ∈ dU L,okB r=true:=(sV _ L).1
theorem aAb(L:List Int):L.take (25*(dU L).length)=(dU L).flatMap dR:=(sV _ L).2
theorem zC{L:List Int}(h:25*(dU L).length=L.length):L=(dU L).flatMap dR:=by
 have:=aAb L
 rwa [h,List.take_length]at this
theorem pL{L:List Int}(h:25*(dU L).length=L.length){r:Rw}(hr:okB r=true):dU (L++dR r)=dU L++[r]:=by
 have e:L++dR r=(dU L++[r]).flatMap dR++[]:=by
  rw[List.flatMap_append,aC,←zC h];simp
 rw[e];exact pX _ (fun x a=>by
  rcases aO.1 a with a|a
  ·exact aAf L x a
  ·simp at a;subst a;exact hr) [] (by decide)
theorem aAr{L p:List Int}(h:25*(dU L).length=L.length)(hp:p.length<25):dU (L++p)=dU L:=by
 have e:L++p=(dU L).flatMap dR++p:=by rw[←zC h]
 rw[e];exact pX _ (aAf L) p hp
section
variable {rs:List Rw}
theorem pW{k:Nat}{r:Rw}(h:dS rs k=some r):r ∈ rs∧r.lock=(k:Int):=by
 unfold dS at h;have a:=List.mem_of_find?_eq_some h;have b:=List.find?_some h;exact⟨by simpa using a,by simpa using b⟩
theorem aFY{n:Nat}{r:Rw}(h:r ∈ gQ rs n):r ∈ rs:=by
 unfold gQ at h;obtain⟨k,_,a⟩:=List.mem_filterMap.1 h;exact(pW a).1
theorem yZ(hl:∀r ∈ rs,0≤r.lock∧r.lock≤3)(k:Nat):dS (gQ rs 4) k=dS rs k:=by
 have b:∀n,dS (gQ rs n) k=if k<n then dS rs k else none:=by
  intro n;induction n with
  |zero=>simp[gQ,dS]
  |succ n ih=>
   rw[aDV];cases hn:dS rs n with
   |none=>
    rw[Option.toList_none,aC,ih];by_cases h:k<n
    ·rw[if_pos h,if_pos (by omega)]
    ·rw[if_neg h];by_cases a:k=n
     ·subst a;rw[if_pos (by omega),hn]
     ·rw[if_neg (by omega)]
   |some r=>
    rw[Option.toList_some,mL,ih];have c:=(pW hn).2;by_cases a:k=n
    ·subst a;rw[if_pos c,if_pos (by omega),hn]
    ·rw[if_neg (by omega)];by_cases h:k<n
     ·rw[if_pos h,if_pos (by omega)]
     ·rw[if_neg h,if_neg (by omega)]
 rw[b];by_cases h:k<4
 ·rw[if_pos h]
 ·rw[if_neg h];cases hk:dS rs k with
  |none=>rfl
  |some r=>have d:=pW hk;have:=hl r d.1;omega
end
structure RwOk(r:Rw):Prop where
 l1:0≤r.lock
 l2:r.lock≤3
 p1:0≤r.prom
 p2:r.prom≤256255
 a1:0≤r.acc
 a2:r.acc≤r.prom
 v:VOk ⟨r.own,r.tok,r.ttl,r.seq⟩
theorem RwOk.ok{r:Rw}(h:RwOk r):okB r=true:=aI9 (by
 have:=h.l1;have:=h.l2;have:=h.p1;have:=h.p2;have:=h.a1;have:=h.a2;have:=h.v.o1;have:=h.v.o2;have:=h.v.k1;have:=h.v.k2;have:=h.v.t1;have:=h.v.t2;have:=h.v.s1;have:=h.v.s2;dsimp only at*;omega)
structure DOk(f:Cf)(k:Dk):Prop where
 room:k.room=f.room
 by_:∀x ∈ k.log,0≤x∧x<256
 syn:k.lsyn=k.log.length
 len:(k.log.length:Int)≤f.room
 old:k.old=none
 fail:∀p,k.fail=some p→0≤p.1∧p.1≤9223372036854775807∧0≤p.2
 rows:∀r ∈ dU k.log,RwOk r
structure AOk(f:Cf)(i:Nat)(a:Ac):Prop where
 num:a.num=i
 comp:a.compact=f.compact
 st:a.st=0∨a.st=1∨a.st=2
 dk:DOk f a.dk
 new:a.st≠1→a.dk.new=none
 nofail:a.st=2→a.dk.fail=none
 tab:a.st≠2→∀k,dS a.rows k=dS (dU a.dk.log) k
 rows:∀r ∈ a.rows,RwOk r
 full:a.st=0→25*(dU a.dk.log).length=a.dk.log.length
section
variable {f:Cf}{i:Nat}{a:Ac}
theorem aBl(h:AOk f i a)(lock:Int)(h0:0≤lock)(h3:lock≤3):RwOk (rY a lock)∧(rY a lock).lock=lock:=by
 unfold rY;refine⟨?_,rfl⟩;cases hl:dS a.rows lock.toNat with
 |none=>exact⟨h0,h3,aL 0,(by decide:(0:Int)≤256255),aL 0,aL 0,yS⟩
 |some r=>
  have b:=h.rows r (pW hl).1;exact⟨h0,h3,b.p1,b.p2,b.a1,b.a2,b.v⟩
theorem vV{m:Mg}{r:Rw}(hm:MOk f m)(hr:RwOk r):RwOk (fA m r)∧(fA m r).lock=r.lock:=by
 have:=hm.b1;have:=hm.b2;have:=hr.p1;unfold fA;split
 ·exact⟨hr,rfl⟩
 ·split
  ·exact⟨⟨hr.l1,hr.l2,hm.b1,hm.b2,hr.a1,by show r.acc≤m.bal;have:=hr.a2;omega,hr.v⟩,rfl⟩
  ·exact⟨⟨hr.l1,hr.l2,hm.b1,hm.b2,hm.b1,aL _,hm.v⟩,rfl⟩
theorem aI6{m:Mg}{r:Rw}(hi:(i:Int)<2*f.f+1)(hn:a.num=i)(hm:MOk f m)(hA:m.kind=1∨m.kind=3)(hr:RwOk r):MOk f (lB a (decMsg m r) m):=by
 have d:=hm.toA hA;have c:∀(k b:Int) (v:Vl),(k=2∨k=4∨k=5)→0≤b→b≤256255→VOk v→(k=4→b=0)→MOk f (lB a {zMg with kind:=k,base:=b,val:=v} m):=fun k b v hk hb hb' hv h40=>
  ⟨by show 1≤k;omega,by show k≤5;omega,hm.l1,hm.l2,hm.b1,hm.b2,hb,hb',hv,by show 0≤a.num;omega,hm.s1,h40,fun h=>by exfalso;have:k=1∨k=3:=h;omega,fun _=>⟨by show a.num<_;omega,d.1⟩⟩
 unfold decMsg;split
 ·exact c 5 r.prom zVl (by omega) hr.p1 hr.p2 yS (by omega)
 ·split
  ·exact c 2 r.acc ⟨r.own,r.tok,r.ttl,r.seq⟩ (by omega) hr.a1 (by have:=hr.a2;have:=hr.p2;omega) hr.v (by omega)
  ·exact c 4 0 zVl (by omega) (by decide) (by decide) yS (fun _=>rfl)
theorem aGR(m:Mg):cJ [fI m]=[m]:=rfl
theorem aIs{m:Mg}(h:MOk f m):EOk f [fI m]:=⟨fun x hx=>(by rw[aGR]at hx;simp at hx;subst hx;exact h),by simp⟩
theorem jX{k k1:Dk}(h:fR k=some k1)(hf:∀p,k.fail=some p→0≤p.1∧p.1≤9223372036854775807∧0≤p.2):
 (∃fl,k1={k with fail:=fl})∧∀p,k1.fail=some p→0≤p.1∧p.1≤9223372036854775807∧0≤p.2:=by
 unfold fR at h;split at h
 ·rename_i hn;cases h;exact⟨⟨k.fail,rfl⟩,hf⟩
 ·rename_i n q hn;split at h
  ·cases h
  ·rename_i h0;cases h;have:=hf _ hn;refine⟨⟨_,rfl⟩,fun p hp=>?_⟩;cases hp;dsimp only at*;omega
theorem kT{k:Dk}(h:fR k=none):∃q,k.fail=some (0,q)∧jZ k=q:=by
 unfold fR at h;split at h
 ·cases h
 ·rename_i n q a;split at h
  ·rename_i b;subst b;exact⟨q,a,by unfold jZ;rw[a]⟩
  ·cases h
theorem aHW{t:List Int}{q:Int}(hq:0≤q):vH t t.length q=t:=by
 unfold vH;rw[aY];omega
theorem yI{k:Dk}(hsyn:(eM k).2=(eM k).1.length){q:Int}(hq:0≤q):gC k q={k with log:=(eM k).1,lsyn:=(eM k).1.length,new:=none,old:=none,fail:=none}:=by
 unfold gC;rw[hsyn,aHW hq]
theorem nE{k:Dk}(h:DOk f k){q:Int}(hq:0≤q):DOk f (gC k q)∧(gC k q).log=k.log:=by
 have e:eM k=(k.log,k.lsyn):=by unfold eM;rw[h.old]
 have:=yI (k:=k) (by rw[e];exact h.syn) hq;rw[this,e];exact⟨⟨h.room,h.by_,rfl,h.len,rfl,fun p hp=>(by cases hp),h.rows⟩,rfl⟩
theorem pJ{q:Int}(hn:a.num=i)(hc:a.compact=f.compact)(h:DOk f (gC a.dk q)):AOk f i (crashA a q):=
 ⟨hn,hc,Or.inr (Or.inr rfl),h,fun _=>rfl,fun _=>rfl,fun h=>absurd rfl h,fun r hr=>(by cases hr),fun h=>absurd (show(2:Int)=0 from h) (by decide)⟩
def sU(f:Cf)(k:Dk):Prop:=0≤(eM k).2∧(eM k).2≤((eM k).1.length:Int)∧((eM k).1.length:Int)≤f.room
theorem rP{k k1:Dk}(h:DOk f k)(he:eM k1=(k.log,k.lsyn)):sU f k1:=by
 have a:=h.syn;have b:=h.len;unfold sU;rw[he];dsimp only;omega
theorem zW{k:Dk}(h:DOk f k)(hnew:k.new=none)(hfull:25*(dU k.log).length=k.log.length){r:Rw}(hr:RwOk r):
 (∃fl,lZ k (dR r)=({k with fail:=fl,log:=k.log++dR r,lsyn:=(k.log++dR r).length},.none)∧DOk f {k with fail:=fl,log:=k.log++dR r,lsyn:=(k.log++dR r).length})∨
 (∃fl,lZ k (dR r)=({k with fail:=fl},(.some .none))∧DOk f {k with fail:=fl})∨
 (∃k1 q,lZ k (dR r)=(k1,(.some (.some q)))∧0≤q∧sU f k1∧DOk f (gC k1 q)∧∃p,p.length≤25∧p=(dR r).take p.length∧(gC k1 q).log=k.log++p):=by
 unfold lZ dQ dH;have hrl:=lT hr.ok;have hx:∀fl,(∀p,fl=some p→0≤p.1∧p.1≤9223372036854775807∧0≤p.2)→DOk f {k with fail:=fl}:=fun fl hfl=>⟨h.room,h.by_,h.syn,h.len,h.old,hfl,h.rows⟩;cases h1:fR k with
 |none=>
  obtain⟨q,hq,hk⟩:=kT h1;have hq0:0≤q:=(h.fail _ hq).2.2;obtain⟨c1,c2⟩:=nE h hq0;exact Or.inr (Or.inr ⟨k,q,by simp[iF,hk],hq0,rP h (by unfold eM;rw[h.old]),c1,[],by simp,rfl,by simpa using c2⟩)
 |some k1=>
  obtain⟨⟨fl,rfl⟩,hfl⟩:=jX h1 h.fail;dsimp only;have hu:jO {k with fail:=fl}=k.log.length:=by unfold jO hP;dsimp only;rw[hnew];simp
  have hrm:=h.room;rw[hu,hrl];by_cases h2:k.room<(k.log.length:Int)+((25:Nat):Int)
  ·rw[if_pos h2];exact Or.inr (Or.inl ⟨fl,rfl,hx fl hfl⟩)
  ·rw[if_neg h2];dsimp only[iF];dsimp only[kD];have hrows:∀x ∈ dU (k.log++dR r),RwOk x:=fun x hx=>by
    rw[pL hfull hr.ok]at hx;rcases aO.1 hx with hx|hx
    ·exact h.rows x hx
    ·simp at hx;subst hx;exact hr
   have hby:∀x ∈ k.log++dR r,0≤x∧x<256:=fun x hx=>(aO.1 hx).elim (h.by_ x) (rN r x);cases h3:fR {k with fail:=fl,log:=k.log++dR r}with
   |none=>
    obtain⟨q,hq,hk⟩:=kT h3;have hq0:0≤q:=(hfl _ hq).2.2;have hl:eM ({k with fail:=fl,log:=k.log++dR r}:Dk)=(k.log++dR r,k.lsyn):=by unfold eM;dsimp only;rw[h.old]
    have hcut:vH (k.log++dR r) k.lsyn q=k.log++(dR r).take (min q 25).toNat:=by
     unfold vH;rw[h.syn,aD,hrl,show((k.log.length:Int)+min q (((k.log.length+25:Nat):Int)-(k.log.length:Int))).toNat=k.log.length+(min q 25).toNat by omega,List.take_append,aY (by omega)];simp
    have hpl:((dR r).take (min q 25).toNat).length=(min q 25).toNat:=by rw[bD,hrl];omega
    refine Or.inr (Or.inr ⟨{k with fail:=fl,log:=k.log++dR r},q,by rw[hk],hq0,?_,?_,(dR r).take (min q 25).toNat,by omega,by rw[hpl],?_⟩)
    ·unfold sU;rw[hl];have h5:=h.syn;have h6:=h.len;dsimp only;rw[aD,hrl];omega
    ·unfold gC;rw[hl];dsimp only;rw[hcut];refine⟨h.room,fun x hx=>?_,rfl,?_,rfl,fun p hp=>(by cases hp),fun x hx=>?_⟩
     ·rcases aO.1 hx with hx|hx
      ·exact h.by_ x hx
      ·exact rN r x (List.mem_of_mem_take hx)
     ·rw[aD,hpl];omega
     ·by_cases hq25:25≤q
      ·rw[show(min q 25).toNat=25 by omega,aY (by omega)]at hx;exact hrows x hx
      ·rw[aAr hfull (by omega)]at hx;exact h.rows x hx
    ·unfold gC;rw[hl];exact hcut
   |some k2=>
    obtain⟨⟨fl2,rfl⟩,hfl2⟩:=jX h3 (by exact hfl);refine Or.inl ⟨fl2,rfl,h.room,hby,rfl,?_,h.old,hfl2,hrows⟩;rw[aD,hrl];omega
end
section
variable {W W':World}{F F':Nat→Prop}{b g:Nat}{f:Cf}{c:Ct}{o:On}{ch tk hd wt ob:Nat}{an mv:Value}
theorem Kt.opset(h:Kt W F b g f c o ch tk hd wt ob an mv)(hc:Chg (fun k=>k=ob) W W')(o':On)(hb:W'.heap[ob]?=some (.cells (tA o' an mv).toArray 195 (0,0)))(hans:o'.att.ans=o.att.ans)(haw:o'.att.awaited=0→o.att.awaited=0)(haw':o.att.awaited=0→o'.att.awaited=0)(hmine:o'.mine=o.mine):
 Kt W' F b g f {c with doing:=some o'} o' ch tk hd wt ob an mv:=by
 have hon:OnAt W' F ob an mv o':=by
  refine⟨hb,h.on.2.1,?_,?_,h.on.2.2.2.2⟩
  ·rcases h.on.2.2.1 with⟨q1,q2,q3⟩|⟨am,q1,q2,q3⟩
   ·exact Or.inl ⟨q1,by rw[hans,q2],haw' q3⟩
   ·exact Or.inr ⟨am,q1,by rw[hans];exact q2.kept hc (q2.ne_cells h.on.1),q3⟩
  ·rw[hmine];exact hc.row h.on.2.2.2.1 (fun q hq=>fS h.on.2.2.2.1 h.on.1 (by decide) q hq)
 exact⟨h.cl.opcells h.on.1 hc hon h.ne,rfl,hon,h.ne⟩
theorem Kt.ansset{am:Nat}(h:Kt W F b g f c o ch tk hd wt ob (.map (some am)) mv)(hc:Chg (fun k=>k=am) W W'){n:Nat}{m:Int→Option Value}(ham:MapAt iK W am m n)(l:List Int)(hm:SetAt W' am l)(hF:F am):
 Kt W' F b g f {c with doing:=some {o with att:={o.att with ans:=l}}} {o with att:={o.att with ans:=l}} ch tk hd wt ob (.map (some am)) mv:=by
 obtain⟨_,_,oa⟩:=ham.obj;have hne:=h.ne;have n1:tk≠am:=fun e=>hne.1 (by rw[e]);have n2:hd≠am:=fun e=>hne.2.1 (by rw[e]);have n3:wt≠am:=fun e=>hne.2.2 (by rw[e]);have hob:=hc.kept h.on.1 (fun e=>dT h.on.1 oa (by simp) e);have hon:OnAt W' F ob (.map (some am)) mv {o with att:={o.att with ans:=l}}:=
  ⟨hob,h.on.2.1,Or.inr ⟨am,rfl,hm,hF⟩,hc.row h.on.2.2.2.1 (fun q hq=>aBF h.on.2.2.2.1 oa q hq),h.on.2.2.2.2⟩
 refine⟨⟨hc.kept h.cl.blk (fun e=>dT h.cl.blk oa (by simp) e),h.cl.fb,hc.kept h.cl.chan (fun e=>dT h.cl.chan oa (by simp) e),h.cl.fc,⟨h.cl.maps.toks.kept hc n1,h.cl.maps.holds.kept hc n2,h.cl.maps.wat.kept hc n3,h.cl.maps.th,h.cl.maps.tw,h.cl.maps.hw,h.cl.maps.ft,h.cl.maps.fh,h.cl.maps.fw⟩,⟨ob,_,mv,rfl,hon,hne⟩,fun k hk=>aG (h.cl.lt k hk) hc.size⟩,rfl,hon,hne⟩
theorem Kt.mineset{gn cap:Nat}(h:Kt W F b g f c o ch tk hd wt ob an mv)(hc:Chg (fun k=>some k=mv.ownBlock∨k=ob) W W')(x:Int)(hF':∀k,F k→F' k)(hlt:∀k,F' k→k<W'.heap.size)(hgn:F' gn)
 (hb:W'.heap[ob]?=some (.cells (tA {o with mine:=o.mine++[x]} an (.slice (some ⟨gn,0,none⟩) (o.mine.length+1) cap)).toArray 195 (0,0)))
 (hr:W'.ownsRow 0 3 1 (.slice (some ⟨gn,0,none⟩) (o.mine.length+1) cap) (o.mine.length+1) (qU (o.mine++[x]))):
 Kt W' F' b g f {c with doing:=some {o with mine:=o.mine++[x]}} {o with mine:=o.mine++[x]} ch tk hd wt ob an (.slice (some ⟨gn,0,none⟩) (o.mine.length+1) cap):=by
 have hmv:=h.on.2.2.2.1;have keep:∀{y:Nat} {u:Obj},W.heap[y]?=some u→(∀cs fr,u≠.cells cs 3 fr)→y≠ob→W'.heap[y]?=some u:=by
  intro y u hy hnc hyo;refine hc.kept hy (fun e=>?_);rcases e with e|e
  ·rcases jW hmv with⟨rfl,_⟩|⟨q,cap',cur,rfl,_,hq⟩
   ·cases e
   ·have hyq:y=q:=by simpa[Value.ownBlock]using e
    subst hyq;rw[hq]at hy;exact hnc _ _ (aN hy).symm
  ·exact hyo e
 have keepM:∀{y:Nat} {e:Array MapEntry} {k:Nat},W.heap[y]?=some (.map e k)→W'.heap[y]?=W.heap[y]?:=fun hy=>by
  rw[hy];exact keep hy (by simp) (fun e=>dT hy h.on.1 (by simp) e)
 obtain⟨_,_,o1⟩:=h.cl.maps.toks.obj;obtain⟨_,_,o2⟩:=h.cl.maps.holds.obj;obtain⟨_,_,o3⟩:=h.cl.maps.wat.obj;have hon:OnAt W' F' ob an (.slice (some ⟨gn,0,none⟩) (o.mine.length+1) cap) {o with mine:=o.mine++[x]}:=by
  refine⟨hb,hF' _ h.on.2.1,?_,?_,fun k hk=>?_⟩
  ·rcases h.on.2.2.1 with q|⟨am,q1,q2,q3⟩
   ·exact Or.inl q
   ·obtain⟨_,_,oa⟩:=q2.obj;exact Or.inr ⟨am,q1,q2.of_heap (keepM oa),hF' _ q3⟩
  ·show W'.ownsRow 0 _ 1 _ (o.mine++[x]).length (qU (o.mine++[x]));rw[aD,aK];exact hr
  ·have:gn=k:=by simpa[Value.ownBlock]using hk
   rw[←this];exact hgn
 refine⟨⟨keep h.cl.blk (by simp) (fM h.cl.blk h.on.1 (by decide)),hF' _ h.cl.fb,keep h.cl.chan (by simp) (fun e=>dT h.cl.chan h.on.1 (by simp) e),hF' _ h.cl.fc,⟨h.cl.maps.toks.of_heap (keepM o1),h.cl.maps.holds.of_heap (keepM o2),h.cl.maps.wat.of_heap (keepM o3),h.cl.maps.th,h.cl.maps.tw,h.cl.maps.hw,hF' _ h.cl.maps.ft,hF' _ h.cl.maps.fh,hF' _ h.cl.maps.fw⟩,⟨ob,an,_,rfl,hon,h.ne⟩,hlt⟩,rfl,hon,h.ne⟩
end
structure aAL(v:Vl):Prop where
 t1:0≤v.ttl
 t2:v.ttl≤1000
 s1:0≤v.seq
 s2:v.seq≤2147483647
theorem After.of{W W1 W2:World}{F F1 G G1:Nat→Prop}{b g:Nat}{f:Cf}{av cv:Value}{c:Ct}{net:List Mg}{tr:List Ev}(h:Went W W1 F F1 G G1)(k:After W1 F1 G1 b g f av cv c net tr W2):After W F G b g f av cv c net tr W2:=After.trans h k
section
open Go.RowKit Go.Maps
structure ASys(W:World)(F G:Nat→Prop)(b g:Nat)(av cv:Value)(a:Ac)(net:List Mg)(tr:List Ev):Prop where
 acc:Acc W F b g a
 nt:NtAt W G g av cv net tr
 apart:∀k,F k→¬G k
def AfterA(W:World)(F G:Nat→Prop)(b g:Nat)(av cv:Value)(a:Ac)(net:List Mg)(tr:List Ev)(W':World):Prop:=∃F' G',ASys W' F' G' b g av cv a net tr∧Went W W' F F' G G'
theorem AfterA.trans{A B C:World}{F F1 G G1:Nat→Prop}{b g:Nat}{av cv:Value}{a:Ac}{net:List Mg}{tr:List Ev}(h:Went A B F F1 G G1)(k:AfterA B F1 G1 b g av cv a net tr C):AfterA A F G b g av cv a net tr C:=by
 obtain⟨e,d,c,f⟩:=k;exact⟨e,d,c,h.trans f⟩
theorem ASys.kept{W W':World}{F G S:Nat→Prop}{b g:Nat}{av cv:Value}{a:Ac}{net:List Mg}{tr:List Ev}(h:ASys W F G b g av cv a net tr)(hc:Chg S W W')(hf:∀k,F k→¬S k)(hg:∀k,G k→¬S k):ASys W' F G b g av cv a net tr:=
 ⟨h.acc.kept hc hf,h.nt.kept hc hg,h.apart⟩
theorem ASys.drew{W:World}{F G:Nat→Prop}{b g:Nat}{av cv:Value}{a:Ac}{net:List Mg}{tr:List Ev}(h:ASys W F G b g av cv a net tr):ASys W.drew F G b g av cv a net tr:=
 h.kept (Chg.refl NoS W).drew (fun _ _ h=>h) (fun _ _ h=>h)
theorem ASys.went{W W':World}{F G:Nat→Prop}{b g:Nat}{av cv:Value}{a a':Ac}{net:List Mg}{tr:List Ev}(h:ASys W F G b g av cv a net tr)(k:AcTo W F b g a' W'):∃F',ASys W' F' G b g av cv a' net tr∧Went W W' F F' G G:=by
 obtain⟨F',f,d,e⟩:=k;refine⟨F',⟨f,h.nt.kept d (fun x hx hf=>h.apart x hf hx),fun x hx hg=>?_⟩,⟨d.mono (fun _ _ h=>Or.inl h),e,fun _ h=>Or.inl h⟩⟩;rcases e x hx with c|c
 ·exact h.apart x c hg
 ·have:=h.nt.lt x hg;omega
section
variable (W:World) (F G:Nat→Prop) (b g:Nat) (av cv:Value) (a:Ac) (net:List Mg) (tr:List Ev)
theorem oH(e:Ev)(h:ASys W F G b g av cv a net tr)(hn:net.length≤100000000000)(ht:tr.length≤100000000000):
 Calls prog 77 #[.pointer (some ⟨g,0,none⟩),evV e] W fun r W'=>r= .returned (.tuple #[])∧∃G',ASys W' F G' b g av cv a (net++cJ [e]) (tr++[e])∧Chg G W W'∧∀k,G' k→G k∨W.heap.size≤k:=by
 refine(yO W G g av cv net tr e h.nt hn ht).mono ?_;rintro r W' ⟨j,G',c,f,i⟩;refine⟨j,G',⟨h.acc.kept f h.apart,c,fun k hk hk'=>?_⟩,f,i⟩;rcases i k hk' with d|d
 ·exact h.apart k hk d
 ·have:=h.acc.lt k hk;omega
theorem aCm(x m:Mg)(h:ASys W F G b g av cv a net tr)(hn:net.length≤100000000000)(ht:tr.length≤100000000000):
 Calls prog 172 #[.pointer (some ⟨b,0,none⟩),mgV x,mgV m] W fun r W'=>r= .returned (.tuple #[])∧∃G',ASys W' F G' b g av cv a (net++[lB a x m]) (tr++[fI (lB a x m)])∧Chg G W W'∧∀k,G' k→G k∨W.heap.size≤k:=by
 have hx1:=aA W (.cells #[.int .i64 x.kind,.int .i64 x.src,.int .i64 x.dst,.int .i64 x.lock,.int .i64 x.bal,.int .i64 x.base,.int .i64 x.val.own,.int .i64 x.val.tok,.int .i64 x.val.ttl,.int .i64 x.val.seq] 66);have Z:Chg NoS W (W.alloc (.cells #[.int .i64 x.kind,.int .i64 x.src,.int .i64 x.dst,.int .i64 x.lock,.int .i64 x.bal,.int .i64 x.base,.int .i64 x.val.own,.int .i64 x.val.tok,.int .i64 x.val.ttl,.int .i64 x.val.seq] 66)):=(Chg.refl _ _).alloc _;have u:(W.alloc (.cells #[.int .i64 x.kind,.int .i64 x.src,.int .i64 x.dst,.int .i64 x.lock,.int .i64 x.bal,.int .i64 x.base,.int .i64 x.val.own,.int .i64 x.val.tok,.int .i64 x.val.ttl,.int .i64 x.val.seq] 66)).heap.size=W.heap.size+1:=by simp
 generalize L:W.alloc (.cells #[.int .i64 x.kind,.int .i64 x.src,.int .i64 x.dst,.int .i64 x.lock,.int .i64 x.bal,.int .i64 x.base,.int .i64 x.val.own,.int .i64 x.val.tok,.int .i64 x.val.ttl,.int .i64 x.val.seq] 66)=W1 at*;have b0:=cB L;have t:=aA W1 (.cells #[.int .i64 m.kind,.int .i64 m.src,.int .i64 m.dst,.int .i64 m.lock,.int .i64 m.bal,.int .i64 m.base,.int .i64 m.val.own,.int .i64 m.val.tok,.int .i64 m.val.ttl,.int .i64 m.val.seq] 66);have w:Chg NoS W1 (W1.alloc (.cells #[.int .i64 m.kind,.int .i64 m.src,.int .i64 m.dst,.int .i64 m.lock,.int .i64 m.bal,.int .i64 m.base,.int .i64 m.val.own,.int .i64 m.val.tok,.int .i64 m.val.ttl,.int .i64 m.val.seq] 66)):=(Chg.refl _ _).alloc _;have a6:(W1.alloc (.cells #[.int .i64 m.kind,.int .i64 m.src,.int .i64 m.dst,.int .i64 m.lock,.int .i64 m.bal,.int .i64 m.base,.int .i64 m.val.own,.int .i64 m.val.tok,.int .i64 m.val.ttl,.int .i64 m.val.seq] 66)).heap.size=W.heap.size+2:=by simp[u]
 generalize M:W1.alloc (.cells #[.int .i64 m.kind,.int .i64 m.src,.int .i64 m.dst,.int .i64 m.lock,.int .i64 m.bal,.int .i64 m.base,.int .i64 m.val.own,.int .i64 m.val.tok,.int .i64 m.val.ttl,.int .i64 m.val.seq] 66)=W2 at*;have a4:=cB M;rw[u]at t;have K:W2.heap[W.heap.size]?=some (.cells (mgL x).toArray 66 (0,0)):=w.kept hx1 (fun h=>h);have R:W2.heap[W.heap.size+1]?=some (.cells (mgL m).toArray 66 (0,0)):=t;have l:=Z.trans (S:=NoS) w (fun _ _ h=>h);have A:¬F W.heap.size:=fun hx=>by have:=h.acc.lt _ hx;omega
 have s:¬G W.heap.size:=fun hx=>by have:=h.nt.lt _ hx;omega
 have p:Hid (∀y,Chg (fun k=>k=W.heap.size) W2 y→y.cell? ⟨b,0,none⟩=some (.int .i64 a.num)∧y.cell? ⟨b,5,none⟩=some (vL g)∧y.cell? ⟨W.heap.size+1,1,none⟩=some (.int .i64 m.src)∧y.cell? ⟨W.heap.size+1,3,none⟩=some (.int .i64 m.lock)∧y.cell? ⟨W.heap.size+1,4,none⟩=some (.int .i64 m.bal)∧ASys y F G b g av cv a net tr∧Chg NoS W y):=fun y hy=>by
  have hb:=hy.kept R (by omega);have hs:=(h.kept l (fun _ _ h=>h) (fun _ _ h=>h)).kept hy (fun k hk e=>A (e▸hk)) (fun k hk e=>s (e▸hk));obtain⟨FD,d,tb,ha,_,_⟩:=hs.acc;exact⟨ha.cell 0 _ rfl,ha.cell 5 _ rfl,cC hb 1 _ rfl,cC hb 3 _ rfl,cC hb 4 _ rfl,hs,l.trans (S:=NoS) hy (fun x hx e=>by omega)⟩
 have B:=cB K;have b2:=cB (aJW A s);clear L M hx1 t Z w a6 R K l A s h;go_enter func172,ntmps172;go_wp2_with (first|rw[b0.out]|rw[a4.out]);clear u;refine rlx [0,0,0,1,0,1,0,2,0] (fun y=>y.cell? ⟨b,0,none⟩=some (.int .i64 a.num)∧y.cell? ⟨W.heap.size+1,1,none⟩=some (.int .i64 m.src)) (by kernel_rfl) (fun _ _ _ _=>rfl) ?_ ?_
 ·obtain⟨q1,_,q3,_⟩:=p.out _ (Chg.refl _ W2).drew;exact⟨q1,q3⟩
 simp only[cL,cK];iterate 7 (apply sB rfl rfl;·(intro x h;(try have h:=h rfl);(try dsimp only at h);go_simp;with_reducible rfl))
 try simp only[pA]
 have c1:=cC (W:=W2.drew) B.out 1 _ rfl;have z1:=cV (W:=W2.drew) B.out 1;have Y:=cZ W2.drew W.heap.size 1 (.int .i64 a.num);have o:(W2.drew.setCell ⟨W.heap.size,1,none⟩ (.int .i64 a.num)).heap[W.heap.size]?=some (.cells (mgL {x with src:=a.num}).toArray 66 (0,0)):=cU (W:=W2.drew) B.out 1 (.int .i64 a.num);generalize U:W2.drew.setCell ⟨W.heap.size,1,none⟩ (.int .i64 a.num)=W3 at*;have a2:=cB U;have c:=Y.of_drew;refine dC rfl (fun C hC=>?_);go_simp;try rw[a2.out]
 refine hC _ _ ⟨(p.out _ c).1,(p.out _ c).2.2.1⟩ ?_;clear hC C;iterate 1 (apply sB rfl rfl;·(intro x h;(try have h:=h rfl);(try dsimp only at h);go_simp;with_reducible rfl))
 refine cD ?_;try simp only[pA]
 have d2:=cC o 2 _ rfl;have y2:=cV o 2;have Q:=cZ W3 W.heap.size 2 (.int .i64 m.src);have D:(W3.setCell ⟨W.heap.size,2,none⟩ (.int .i64 m.src)).heap[W.heap.size]?=some (.cells (mgL {x with src:=a.num,dst:=m.src}).toArray 66 (0,0)):=cU o 2 (.int .i64 m.src);generalize P:W3.setCell ⟨W.heap.size,2,none⟩ (.int .i64 m.src)=W4 at*;have a9:=cB P;have X:=cB (c.trans Q (fun _ _ h=>h));have i:=cB D;clear Y o U c Q D P c1 z1;go_wp2_with (first|rw[a9.out]);clear d2 y2;refine rlx [0,1,0,1,0,2,0] (fun y=>y.cell? ⟨W.heap.size+1,3,none⟩=some (.int .i64 m.lock)∧y.cell? ⟨W.heap.size+1,4,none⟩=some (.int .i64 m.bal)) (by kernel_rfl) (fun _ _ _ _=>rfl) ?_ ?_
 ·obtain⟨_,_,_,q4,q5,_⟩:=p.out _ X.out.drew;exact⟨q4,q5⟩
 simp only[cL,cK];iterate 5 (apply sB rfl rfl;·(intro x h;(try have h:=h rfl);(try dsimp only at h);go_simp;with_reducible rfl))
 try simp only[pA]
 have c3:=cC (W:=W4.drew) i.out 3 _ rfl;have z3:=cV (W:=W4.drew) i.out 3;have N:=cZ W4.drew W.heap.size 3 (.int .i64 m.lock);have n:(W4.drew.setCell ⟨W.heap.size,3,none⟩ (.int .i64 m.lock)).heap[W.heap.size]?=some (.cells (mgL {x with src:=a.num,dst:=m.src,lock:=m.lock}).toArray 66 (0,0)):=cU (W:=W4.drew) i.out 3 (.int .i64 m.lock);generalize E:W4.drew.setCell ⟨W.heap.size,3,none⟩ (.int .i64 m.lock)=W5 at*;have a8:=cB E;have f:=X.out.trans N.of_drew (fun _ _ h=>h);refine dC rfl (fun C hC=>?_);go_simp;try rw[a8.out]
 refine hC _ _ ⟨(p.out _ f).2.2.2.1,(p.out _ f).2.2.2.2.1⟩ ?_;clear hC C;iterate 1 (apply sB rfl rfl;·(intro x h;(try have h:=h rfl);(try dsimp only at h);go_simp;with_reducible rfl))
 refine cD ?_;try simp only[pA]
 have d4:=cC n 4 _ rfl;have y4:=cV n 4;have V:=cZ W5 W.heap.size 4 (.int .i64 m.bal);have J:(W5.setCell ⟨W.heap.size,4,none⟩ (.int .i64 m.bal)).heap[W.heap.size]?=some (.cells (mgL (lB a x m)).toArray 66 (0,0)):=cU n 4 (.int .i64 m.bal);generalize T:W5.setCell ⟨W.heap.size,4,none⟩ (.int .i64 m.bal)=W6 at*;have b1:=cB T;have H:=cB (f.trans V (fun _ _ h=>h));have a1:=cB J;clear N n E f V J T c3 z3;go_wp2_with (first|rw[b1.out]);clear d4 y4;refine rlx [0,0,0,1,1,0] (fun y=>y.cell? ⟨b,5,none⟩=some (vL g)∧∀j z,(mgL (lB a x m))[j]?=some z→y.cell? ((⟨W.heap.size,0,none⟩:Addr).add j)=some z) (by kernel_rfl) (fun _ _ _ _=>rfl) ?_ ?_
 ·obtain⟨_,q2,_⟩:=p.out _ H.out.drew;exact⟨q2,cF (W:=W6.drew) a1.out⟩
 simp only[cL,cK];iterate 4 (apply sB rfl rfl;·(intro x h;(try have h:=h rfl);(try dsimp only at h);go_simp;with_reducible rfl))
 try simp only[pA]
 refine cM (v:=mgV (lB a x m)) rfl (fun y hy=>cG 66 _ rfl ⟨W.heap.size,0,none⟩ rfl (mgL (lB a x m)) _ hy.2 underlying66 rfl (by kernel_rfl)) ?_;iterate 1 (apply sB rfl rfl;·(intro x h;(try have h:=h rfl);(try dsimp only at h);go_simp;with_reducible rfl))
 refine cD ?_;try simp only[pA]
 obtain⟨_,_,_,_,_,q,a0⟩:=p.out W6.drew H.out.drew;have a7:Hid (Calls prog 77 #[.pointer (some ⟨g,0,none⟩),evV (fI (lB a x m))] W6.drew fun r W'=>r= .returned (.tuple #[])∧∃G',ASys W' F G' b g av cv a (net++cJ [fI (lB a x m)]) (tr++[fI (lB a x m)])∧Chg G W6.drew W'∧∀k,G' k→G k∨W6.drew.heap.size≤k):=oH W6.drew F G b g av cv a net tr (fI (lB a x m)) q hn ht;have I:=cB a0;clear q a0;go_wp2_with fail;refine a7.out.mono ?_;rintro r W7 ⟨rfl,G7,O,a5,a3⟩;go_wp2_with fail
 (first|go_end0|((try simp only[Exit.inBlock,Exit.then]);refine bodyPost_ret (results_none rfl _ _ _) rfl ?_))
 rw[rF _ rfl]at O;exact⟨rfl,G7,O,(I.out.nos:Chg G W W6.drew).trans a5 (fun _ _ h=>h),fun k hk=>by
  rcases a3 k hk with h|h
  ·exact Or.inl h
  ·exact Or.inr (bU I.out.size h)⟩
end
end
end Go.Proofs.YtbbdgokdfhdpiaaGreatDoor
