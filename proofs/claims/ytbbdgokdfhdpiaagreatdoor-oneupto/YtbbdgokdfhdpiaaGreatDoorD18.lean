/- A part of the proof: PANew, PMNew. -/
import Derived.Test.YtbbdgokdfhdpiaaGreatDoorD17
namespace Go.Proofs.YtbbdgokdfhdpiaaGreatDoor
set_option linter.all false
set_option maxRecDepth 100000
set_option maxHeartbeats 40000000
open Go.Proofs.Tryz Go.RowKit
section
open Go.RowKit Go.Maps
theorem aJe(W:World){tb:Nat}(h:W.heap[tb]?=some (.map #[] 0)):zQ W tb []:=
 ⟨#[],0,h,⟨by simp,MapKept.stamped_empty 0,by simp⟩,by simp,rfl⟩
theorem aHt{W W1 W2:World}{F1:Nat→Prop}{f:Cf}{num:Int}{g d tb:Nat}(hc:Chg NoS W W2)(hd:Disk W2 F1 d (aHc f.room))(hf:∀q,F1 q→W.heap.size≤q)(ht:W2.heap[tb]?=some (.map #[] 0))(htl:W.heap.size≤tb)(hnt:¬F1 tb):
 Acc (W2.alloc (.cells (acL (rX f num) d tb g).toArray 162)) (fun q=>W.heap.size≤q∧q<(W2.alloc (.cells (acL (rX f num) d tb g).toArray 162)).heap.size) W2.heap.size g (rX f num):=by
 have e:(W2.alloc (.cells (acL (rX f num) d tb g).toArray 162)).heap.size=W2.heap.size+1:=by simp
 have c:=hc.size;have b:=cW ht;refine⟨F1,d,tb,⟨aA W2 _,hd.of_heap (by omega) (fun k hk=>Below.heap_alloc W2 _ k (hd.lt k hk)),aJe _ (cX _ ht),fun h=>by have:=hd.lt _ h;omega,hnt⟩,fun q a=>?_,fun q a=>a.2⟩;rcases a with a|a|a
 ·exact⟨hf q a,by have:=hd.lt q a;omega⟩
 ·subst a;exact⟨by omega,by omega⟩
 ·subst a;exact⟨htl,by omega⟩
theorem aFC(W:World)(f:Cf)(num:Int)(g:Nat):
 Calls prog 76 #[cgV f,.int .i64 num,vL g] W fun r W'=>∃b,r= .returned (.pointer (some ⟨b,0,none⟩))∧Acc W' (fun q=>W.heap.size≤q∧q<W'.heap.size) b g (rX f num)∧Chg NoS W W':=by
 have J:=aA W (.cells #[.int .i64 f.f,.int .i64 f.clients,.int .i64 f.patience,.int .i64 f.tries,.int .i64 f.drift,.int .i64 f.compact,.int .i64 f.room] 30);have D:Chg NoS W (W.alloc (.cells #[.int .i64 f.f,.int .i64 f.clients,.int .i64 f.patience,.int .i64 f.tries,.int .i64 f.drift,.int .i64 f.compact,.int .i64 f.room] 30)):=(Chg.refl _ _).alloc _;go_enter func76,ntmps76;go_wp2_with fail;generalize W.alloc (.cells #[.int .i64 f.f,.int .i64 f.clients,.int .i64 f.patience,.int .i64 f.tries,.int .i64 f.drift,.int .i64 f.compact,.int .i64 f.room] 30)=W0 at*;refine nX [(0,0),(0,1),(1,2),(0,3),(1,4),(0,7)] 5 (fun x=>∀j y,(cgL f)[j]?=some y→x.cell? ⟨W.heap.size,j,none⟩=some y) (by kernel_rfl) (by kernel_rfl) (fun _ _ d _ _ h=>by cases d<;>exact h) ?_ ?_
 ·exact fun j y hj=>cC (W:=W0.drew) J j y (by simpa using hj)
 simp only[iY,cA,bZ];iterate 2 (refine kA (v:=?_) rfl ?_ ?_;rotate_left 1;(·(intro x;go_simp;with_reducible rfl)))
 refine cM (v:=.int .i64 f.compact) rfl (fun x hx=>by have:=hx 5 _ rfl;go_simp) ?_;refine kA (v:=?_) rfl ?_ ?_;rotate_left 1;(·(intro x;go_simp;with_reducible rfl));refine cM (v:=.int .i64 f.room) rfl (fun x hx=>by have:=hx 6 _ rfl;go_simp) ?_;refine kA (v:=?_) rfl ?_ ?_;rotate_left 1;(·(intro x;go_simp;with_reducible rfl));refine cD ?_;(try simp only[pA]);have i:Hid (∀x,Chg NoS W0 x→∀j y,(cgL f)[j]?=some y→x.cell? ⟨W.heap.size,j,none⟩=some y):=fun x hx j y hj=>cC (hx.kept J (fun h=>h)) j y (by simpa using hj);have o:=cB D;clear J D;have M:Chg NoS W0 W0.drew:=(Chg.refl _ _).drew;refine cY [5,6] (by kernel_rfl) (by simp) (aB.2 ⟨?_,aB.2 ⟨?_,by simp⟩⟩)
 ·intro C a;refine cR rfl rfl ?_;go_simp;refine(aCH _ f.room).mono ?_;rintro e H ⟨d,I,rfl,A,p,t⟩;have m:=M.trans (S:=NoS) p (fun _ _ h=>h);refine a _ _ (i.out _ m) ?_;clear a C;(try simp only[pA]);refine cY [6] (by kernel_rfl) (by simp) (aB.2 ⟨?_,by simp⟩);intro C a;refine cR rfl rfl ?_;go_simp;refine a _ _ (i.out _ (m.alloc _)) ?_;clear a C;(try simp only[pA]);have w:=A.lt;have E:=p.size;have n:=aA H (.map #[] 0);have c:=m.alloc (.map #[] 0);have B:Disk (H.alloc (.map #[] 0)) I d (aHc f.room):=A.of_heap (by simp) (fun k hk=>Below.heap_alloc H _ k (w k hk));have F:¬I H.heap.size:=fun h=>by have:=w _ h;omega
  have G:=bU o.out.size (bU (aE W0.heap.size) E);have s:=cB (aHt (W:=W) (W1:=W0) (f:=f) (num:=num) (g:=g) (o.out.trans (S:=NoS) c (fun _ _ h=>h)) B (fun q hq=>bU o.out.size (t q hq)) n G F);have l:=cB c;clear w E n c B F A t m;refine cY [8] (by kernel_rfl) (by simp) (aB.2 ⟨?_,by simp⟩);intro C a;refine cR rfl rfl ?_;go_simp;refine a _ _ (i.out _ l.out) ?_;clear a C;(try simp only[pA]);refine cY [9] (by kernel_rfl) (by simp) (aB.2 ⟨?_,by simp⟩);intro C a;refine cR rfl rfl ?_;go_simp;refine a _ _ (i.out _ (l.out.alloc _)) ?_;clear a C;(try simp only[pA]);refine cY [10] (by kernel_rfl) (by simp) (aB.2 ⟨?_,by simp⟩);intro C a;refine cR rfl rfl ?_;go_simp;refine a _ _ (i.out _ (l.out.alloc _)) ?_;clear a C;(try simp only[pA]);refine oO (by kernel_rfl) ?_;go_wp2_with fail;go_ret;exact⟨_,rfl,(by first|exact s.out|(have q:=s.out;simp only[World.size_alloc]at q⊢;exact q)),(o.out.trans (S:=NoS) l.out (fun _ _ h=>h)).alloc _⟩
 ·intro C a;refine cR rfl rfl ?_;go_simp;have m:Chg NoS W0 (W0.drew.alloc (.map #[] 0)):=(Chg.refl NoS W0).drew.alloc _;refine a _ _ (i.out _ m) ?_;clear a C;(try simp only[pA]);refine cY [5] (by kernel_rfl) (by simp) (aB.2 ⟨?_,by simp⟩);intro C a;refine cR rfl rfl ?_;go_simp;have n:(W0.drew.alloc (.map #[] 0)).heap[W0.heap.size]?=some (.map #[] 0):=aA W0.drew (.map #[] 0);have L:(W0.drew.alloc (.map #[] 0)).heap.size=W0.heap.size+1:=by simp
  refine(aCH _ f.room).mono ?_;rintro e N ⟨d,I,rfl,A,p,t⟩;have c:=m.trans (S:=NoS) p (fun _ _ h=>h);refine a _ _ (i.out _ c) ?_;clear a C;(try simp only[pA]);have u:=p.kept n (fun h=>h);have K:=o.out.size;have z:∀q,I q→W0.heap.size+1≤q:=fun q hq=>by have:=t q hq;exact bU (Nat.le_of_eq (by simp)) this
  have s:=cB (aHt (W:=W) (W1:=W0) (f:=f) (num:=num) (g:=g) (o.out.trans (S:=NoS) c (fun _ _ h=>h)) A (fun q hq=>by have:=z q hq;omega) u K (fun h=>by have:=z _ h;omega));have l:=cB c;clear n L c u A t m z p;refine cY [8] (by kernel_rfl) (by simp) (aB.2 ⟨?_,by simp⟩);intro C a;refine cR rfl rfl ?_;go_simp;refine a _ _ (i.out _ l.out) ?_;clear a C;(try simp only[pA]);refine cY [9] (by kernel_rfl) (by simp) (aB.2 ⟨?_,by simp⟩);intro C a;refine cR rfl rfl ?_;go_simp;refine a _ _ (i.out _ (l.out.alloc _)) ?_;clear a C;(try simp only[pA]);refine cY [10] (by kernel_rfl) (by simp) (aB.2 ⟨?_,by simp⟩);intro C a;refine cR rfl rfl ?_;go_simp;refine a _ _ (i.out _ (l.out.alloc _)) ?_;clear a C;(try simp only[pA]);refine oO (by kernel_rfl) ?_;go_wp2_with fail;go_ret;exact⟨_,rfl,(by first|exact s.out|(have q:=s.out;simp only[World.size_alloc]at q⊢;exact q)),(o.out.trans (S:=NoS) l.out (fun _ _ h=>h)).alloc _⟩
end
theorem aIz(f:Cf):(cfA f.f f.clients f.patience f.tries&&cfB f.drift f.compact f.room)=iL f:=by
 rw[Bool.eq_iff_iff];simp only[cfA,cfB,wiB,iL,aR,aM];omega
abbrev aBS(f:Cf):Obj:=.cells #[.int .i64 f.f,.int .i64 f.clients,.int .i64 f.patience,.int .i64 f.tries,.int .i64 f.drift,.int .i64 f.compact,.int .i64 f.room] 30
theorem aF0{W:World}{g:Nat}{f:Cf}(h:W.heap[g]?=some (.cells #[.slice none 0 0,.slice none 0 0,.slice none 0 0,.slice none 0 0] 100 (0,0))):MoAt W (fun q=>if q=g then 1 else 0) g (moN f 0 0) (.slice none 0 0) (.slice none 0 0) (fun _=>0) (fun _=>0):=by
 have b:=cW h;have a:∀q,(if q=g then 1 else 0)≠0→q<W.heap.size:=fun q hq=>by
  by_cases e:q=g
  ·subst e;exact b
  ·rw[if_neg e]at hq;exact absurd rfl hq
 refine⟨⟨.slice none 0 0,.slice none 0 0,h,by simp,⟨rfl,Or.inl ⟨rfl,rfl⟩⟩,⟨rfl,Or.inl ⟨rfl,rfl⟩⟩,fun k hk=>(by cases hk),fun k hk=>(by cases hk),fun q hq=>a q (by rw[hq];decide)⟩,⟨rfl,Or.inl ⟨rfl,rfl⟩⟩,⟨rfl,Or.inl ⟨rfl,rfl⟩⟩,fun k hk=>(by cases hk),fun k hk=>(by cases hk),fun i hi=>?_,fun i hi=>?_,a⟩
 ·rw[rE]at hi;omega
 ·rw[rH]at hi;omega
theorem aGH:(prog.info? 114).map (fun i=>(i.zero,i.size,i.bytes))=some (some (.pointer none),1,8):=by kernel_rfl
theorem aGA:(prog.info? 96).map (fun i=>(i.zero,i.size,i.bytes))=some (some (.pointer none),1,8):=by kernel_rfl
structure NewSt(W wr:World)(f:Cf)(g k c:Nat)(av cv:Value)(own bA bC:Nat→Nat):Prop where
 mo:MoAt wr own g (moN f k c) av cv bA bC
 cf:wr.heap[W.heap.size]?=some (aBS f)
 lo:∀q,own q≠0→W.heap.size+1≤q
 chg:Chg NoS W wr
 sz:W.heap.size+1≤wr.heap.size
theorem NewSt.next{W wr wr':World}{f:Cf}{g k c k' c':Nat}{av cv av' cv':Value}{own bA bC own' bA' bC':Nat→Nat}(h:NewSt W wr f g k c av cv own bA bC)(hm:MoAt wr' own' g (moN f k' c') av' cv' bA' bC')(hl:∀q,own' q≠0→own q≠0∨wr.heap.size≤q)(hc:Chg (fun q=>own q≠0) wr wr'):NewSt W wr' f g k' c' av' cv' own' bA' bC':=
 ⟨hm,hc.kept h.cf (fun e=>by have:=h.lo _ e;omega),fun q hq=>(hl q hq).elim (h.lo q) (fun h'=>by have:=h.sz;omega),h.chg.trans hc (fun x hx h'=>by have:=h.lo x h';omega),by have:=h.sz;have:=hc.size;omega⟩
theorem aCF(W:World)(f:Cf):
 Calls prog 34 #[cgV f] W fun r W'=>if iL f=true then∃g own,r= .returned (.tuple #[mH g,.int .i64 0])∧Moor W' own g (lI f)∧(∀k,own k≠0→W.heap.size≤k)∧Chg NoS W W' else r= .returned (.tuple #[.pointer none,.int .i64 1])∧Chg NoS W W':=by
 obtain⟨ia,d1,d4,c9,d3⟩:=info_parts aGH;obtain⟨ic,c4,d6,c6,d5⟩:=info_parts aGA;have d8:∀(fn:Fn) (first cap:Array Value) (w:World),(Instr.makeFunc fn first cap).run prog w= .ok (.func fn first cap) w:=fun _ _ _ _=>rfl;have a2:=aA W (aBS f);have a6:Chg NoS W (W.alloc (aBS f)):=(Chg.refl _ _).alloc _;have a5:(W.alloc (aBS f)).heap.size=W.heap.size+1:=by simp
 generalize b2:W.alloc (aBS f)=W0 at*;have b6:Hid (W.alloc (.cells #[.int .i64 f.f,.int .i64 f.clients,.int .i64 f.patience,.int .i64 f.tries,.int .i64 f.drift,.int .i64 f.compact,.int .i64 f.room] 30)=W0):=b2;have b4:=cB (cF (cs:=cgL f) a2);have u:=aBz f.f f.clients f.patience f.tries f.drift f.compact f.room W0;rw[aIz]at u;by_cases o:iL f=true
 ·simp only[if_pos o];rw[o]at u;have b1:=cB u;have P:=cB (dO o);have a3:=cB (aJX a2 a6 a5);clear u o a2 a6 a5 b2;go_enter func34,ntmps34;go_wp2_with (first|rw[b6.out]|(refine cI rfl 30 _ rfl ⟨W.heap.size,0,none⟩ rfl (cgL f) _ b4.out underlying30 rfl (by kernel_rfl) ?_)|(go_at_call 75;refine b1.out.mono ?_;rintro e D ⟨rfl,V⟩;have c8:=cB V;clear V;refine cE ?_));refine cB ?_;have a8:Chg NoS W0 D:=(Chg.of_below c8.out);have b3:=a8.kept a3.out.1 (fun h=>h);have d2:W.heap.size+1≤D.heap.size:=by have:=a8.size;have:=a3.out.2.2;omega
  have a9:=a3.out.2.1.trans (S:=NoS) a8 (fun _ _ h=>h);have d0:=cC (cX (.cells #[.slice none 0 0,.slice none 0 0,.slice none 0 0,.slice none 0 0] 100) b3) 0 _ rfl;have b5:=aF0 (f:=f) (aA D (.cells #[.slice none 0 0,.slice none 0 0,.slice none 0 0,.slice none 0 0] 100));have c:NewSt W (D.alloc (.cells #[.slice none 0 0,.slice none 0 0,.slice none 0 0,.slice none 0 0] 100)) f D.heap.size 0 0 (.slice none 0 0) (.slice none 0 0) (fun q=>if q=D.heap.size then 1 else 0) (fun _=>0) (fun _=>0):=
   ⟨b5,cX _ b3,fun q hq=>by
    by_cases e:q=D.heap.size
    ·omega
    ·simp[e]at hq,a9.alloc _,by simp;omega⟩
  have a7:=cB c;have U:IntKind.i64.wrap (2*f.f)=2*f.f:=dZ (by have:=P.out.1;omega) (by have:=P.out.1;omega);have w2:IntKind.i64.wrap (2*f.f+1)=2*f.f+1:=dZ (by have:=P.out.1;omega) (by have:=P.out.1;omega);clear a8 b3 d2 a9 b5 c;go_wp2_with fail;generalize D.alloc (.cells #[.slice none 0 0,.slice none 0 0,.slice none 0 0,.slice none 0 0] 100)=W2 at*;have a7:=cB (show∃av cv own Z Y,NewSt W W2 f D.heap.size 0 0 av cv own Z Y from⟨_,_,_,_,_,a7.out⟩);go_loopw [16] (fun i wr=>∃(k:Nat),k≤gB f∧i= .int .i64 k∧∃av cv own Z Y,NewSt W wr f D.heap.size k 0 av cv own Z Y) (fun i _=>gB f-(intOf i).toNat)
  case atStart=>exact⟨0,aI _,rfl,a7.out⟩
  case round=>
   obtain⟨k,hk,rfl,av,cv,own,Z,Y,c⟩:=hrel;by_cases c5:(k:Int)<2*f.f+1
   ·have c0:wr.cell? ⟨D.heap.size,0,none⟩=some av:=by
     obtain⟨nv,tv,hb,_⟩:=c.mo.cells;exact cC hb 0 _ rfl
    have N:k+1≤gB f:=by unfold gB;omega
    have G:=c.mo.rav;rw[rE]at G;have A:=G;obtain⟨pv,l,rfl⟩:=rQ G;have Q:=c.cf;have b8:(k:Int)≤1000:=by have:=P.out.1;have:=P.out.2.1;omega
    have HS:=cB c;have a0:=cB A;have F:=cB Q;clear c G A Q;go_wp2_with fail;refine mG [(0,0),(0,1),(0,2),(0,3),(1,4),(1,5),(0,6),(0,7),(2,8),(2,9),(2,10)] [11,12,13,14] (fun x=>x.cell? ⟨D.heap.size,0,none⟩=some (.slice pv k l)∧∀j y,(cgL f)[j]?=some y→x.cell? ((⟨W.heap.size,0,none⟩:Addr).add j)=some y) (by kernel_rfl) (by kernel_rfl) (fun _ _ d _ _ h=>by cases d<;>exact h) ?_ ?_
    ·exact⟨c0,cF (cs:=cgL f) (W:=wr.drew) F.out⟩
    simp only[iY,mQ,cA,bZ];iterate 5 (apply sB rfl rfl;·(intro x h;(try have h:=h rfl);(try dsimp only at h);go_simp;with_reducible rfl))
    try simp only[pA]
    refine cM (v:=cgV f) rfl (fun x hx=>cG 30 _ rfl ⟨W.heap.size,0,none⟩ rfl (cgL f) _ hx.2 underlying30 rfl (by kernel_rfl)) ?_;(try simp only[pA]);iterate 2 (apply sB rfl rfl;·(intro x h;(try have h:=h rfl);(try dsimp only at h);go_simp;with_reducible rfl))
    try simp only[pA]
    refine dC rfl (fun C hC=>?_);go_simp;refine hC _ _ ⟨c0,cF (cs:=cgL f) (W:=wr.drew) F.out⟩ ?_;clear hC C;(try simp only[pA]);refine dC rfl (fun C hC=>?_);go_simp;refine(aFC wr.drew f k D.heap.size).mono ?_;rintro e U ⟨b,rfl,a4,a1⟩;have p:=a1.of_drew;have O:=HS.out.mo.cells.choose_spec.choose_spec.1;have c1:=(aW (p.block _ (cW O) (fun h=>h))).trans c0;refine hC _ _ ⟨c1,cF (cs:=cgL f) (p.kept F.out (fun h=>h))⟩ ?_;clear hC C;(try simp only[pA]);refine dC rfl (fun C hC=>?_);go_simp;have R:Chg NoS U (U.alloc (.cells #[mH b] 114)):=(Chg.refl _ _).alloc _;have m:=p.trans (S:=NoS) R (fun _ _ h=>h);have c2:=(aW (m.block _ (cW O) (fun h=>h))).trans c0;refine hC _ _ ⟨c2,cF (cs:=cgL f) (m.kept F.out (fun h=>h))⟩ ?_;clear hC C;refine cD ?_;(try simp only[pA]);have B:=m.row a0.out (fun _ _ h=>h);have L:=aA U (.cells #[mH b] 114);refine wpList_append_lies _ rfl _ _ 97 rfl 0 114 ia _ 1 8 underlying97 d1 d4 c9 d3 rfl (by decide) (.slice pv k l) k (sF Z k) rfl B ⟨U.heap.size,0,none⟩ 1 1 [mH b] rfl rfl (cF (cs:=[mH b]) L) (by simp[Value.oneCell']) (by decide) (by unfold maxLen;omega) (by omega) (aI _) (U.heap.size+1) (by simp) ?_;intro gt b9 w3 z a J K;have n:(U.alloc (.cells #[mH b] 114)).grownBy w3 (Value.slice pv k l).ownBlock:=⟨a.os,a.tape,a.output,a.size,a.block⟩;obtain⟨b7,I,M,H⟩:=aIP HS.out.mo a4 p R n z (by
     rcases J with h|h
     ·left;rw[h];rfl
     ·right;exact⟨gt,rfl,by simp;omega,K⟩)
    obtain⟨c7,d7,t,_⟩:=HS.out.mo.cells;have s:=((m.trans (S:=NoS) (Chg.refl _ _) (fun _ _ h=>h)).mono (T:=fun q=>some q=(Value.slice pv k l).ownBlock) (fun _ _ h=>h.elim)).trans (Chg.of_grown n) (fun _ _ h=>h) |>.kept t (fun e=>fS a0.out t (by decide) _ e.symm rfl);have c3:w3.cell? ⟨D.heap.size,0,none⟩=some (.slice pv k l):=cC s 0 _ rfl;have z3:=cV s 0;have b0:=cB (HS.out.next I M H);clear a n z J K I M H s t B L a4 a1 p R m c0 c1 c2 O HS;(try simp only[pA]);go_wp2_with fail;go_roundw
    case rel=>exact⟨k+1,N,by go_num,_,_,_,_,_,b0.out⟩
    case measure=>simp[intOf];omega
   ·have N:k=gB f:=by unfold gB at hk⊢;omega
    subst N;have Q:=cC c.cf 1 _ rfl;have E:=cB (show∃av cv own Z Y,NewSt W wr f D.heap.size (gB f) 0 av cv own Z Y from⟨_,_,_,_,_,c⟩);clear c a7;go_wp2_with fail;clear Q;go_loopw [36] (fun i wr=>∃(k:Nat),k≤f.clients.toNat∧i= .int .i64 k∧∃av cv own Z Y,NewSt W wr f D.heap.size (gB f) k av cv own Z Y) (fun i _=>f.clients.toNat-(intOf i).toNat)
    case atStart=>exact⟨0,aI _,rfl,E.out⟩
    case round=>
     clear E;obtain⟨k,hk,rfl,av,cv,own,Z,Y,c⟩:=hrel;by_cases c5:(k:Int)<f.clients
     ·have c0:wr.cell? ⟨D.heap.size,1,none⟩=some cv:=by
       obtain⟨nv,tv,hb,_⟩:=c.mo.cells;exact cC hb 1 _ rfl
      have N:k+1≤f.clients.toNat:=by omega
      have G:=c.mo.rcv;rw[rH]at G;have A:=G;obtain⟨pv,l,rfl⟩:=rQ G;have Q:=c.cf;have b8:(k:Int)≤1000:=by have:=P.out.2.1;omega
      have HS:=cB c;have a0:=cB A;have F:=cB Q;clear c G A Q;go_wp2_with fail;refine mG [(0,0),(0,1),(0,2),(0,3),(1,4),(1,5),(0,6),(0,7),(2,8),(2,9),(2,10)] [11,12,13,14] (fun x=>x.cell? ⟨D.heap.size,1,none⟩=some (.slice pv k l)∧∀j y,(cgL f)[j]?=some y→x.cell? ((⟨W.heap.size,0,none⟩:Addr).add j)=some y) (by kernel_rfl) (by kernel_rfl) (fun _ _ d _ _ h=>by cases d<;>exact h) ?_ ?_
      ·exact⟨c0,cF (cs:=cgL f) (W:=wr.drew) F.out⟩
      simp only[iY,mQ,cA,bZ];iterate 5 (apply sB rfl rfl;·(intro x h;(try have h:=h rfl);(try dsimp only at h);go_simp;with_reducible rfl))
      try simp only[pA]
      refine cM (v:=cgV f) rfl (fun x hx=>cG 30 _ rfl ⟨W.heap.size,0,none⟩ rfl (cgL f) _ hx.2 underlying30 rfl (by kernel_rfl)) ?_;(try simp only[pA]);iterate 2 (apply sB rfl rfl;·(intro x h;(try have h:=h rfl);(try dsimp only at h);go_simp;with_reducible rfl))
      try simp only[pA]
      refine dC rfl (fun C hC=>?_);go_simp;refine hC _ _ ⟨c0,cF (cs:=cgL f) (W:=wr.drew) F.out⟩ ?_;clear hC C;(try simp only[pA]);refine dC rfl (fun C hC=>?_);go_simp;refine(aF1 wr.drew f k D.heap.size).mono ?_;rintro e U ⟨b,ch,tk,hd,wt,rfl,a4,a1⟩;have p:=a1.of_drew;have O:=HS.out.mo.cells.choose_spec.choose_spec.1;have c1:=(aW (p.block _ (cW O) (fun h=>h))).trans c0;refine hC _ _ ⟨c1,cF (cs:=cgL f) (p.kept F.out (fun h=>h))⟩ ?_;clear hC C;(try simp only[pA]);refine dC rfl (fun C hC=>?_);go_simp;have R:Chg NoS U (U.alloc (.cells #[mH b] 96)):=(Chg.refl _ _).alloc _;have m:=p.trans (S:=NoS) R (fun _ _ h=>h);have c2:=(aW (m.block _ (cW O) (fun h=>h))).trans c0;refine hC _ _ ⟨c2,cF (cs:=cgL f) (m.kept F.out (fun h=>h))⟩ ?_;clear hC C;refine cD ?_;(try simp only[pA]);have B:=m.row a0.out (fun _ _ h=>h);have L:=aA U (.cells #[mH b] 96);refine wpList_append_lies _ rfl _ _ 98 rfl 0 96 ic _ 1 8 underlying98 c4 d6 c6 d5 rfl (by decide) (.slice pv k l) k (sF Y k) rfl B ⟨U.heap.size,0,none⟩ 1 1 [mH b] rfl rfl (cF (cs:=[mH b]) L) (by simp[Value.oneCell']) (by decide) (by unfold maxLen;omega) (by omega) (aI _) (U.heap.size+1) (by simp) ?_;intro gt b9 w3 z a J K;have n:(U.alloc (.cells #[mH b] 96)).grownBy w3 (Value.slice pv k l).ownBlock:=⟨a.os,a.tape,a.output,a.size,a.block⟩;obtain⟨b7,I,M,H⟩:=aIU HS.out.mo ⟨ch,tk,hd,wt,_,a4⟩ p R n z (by
       rcases J with h|h
       ·left;rw[h];rfl
       ·right;exact⟨gt,rfl,by simp;omega,K⟩)
      obtain⟨c7,d7,t,_⟩:=HS.out.mo.cells;have s:=((m.trans (S:=NoS) (Chg.refl _ _) (fun _ _ h=>h)).mono (T:=fun q=>some q=(Value.slice pv k l).ownBlock) (fun _ _ h=>h.elim)).trans (Chg.of_grown n) (fun _ _ h=>h) |>.kept t (fun e=>fS a0.out t (by decide) _ e.symm rfl);have c3:w3.cell? ⟨D.heap.size,1,none⟩=some (.slice pv k l):=cC s 1 _ rfl;have z3:=cV s 1;have b0:=cB (HS.out.next I M H);clear a n z J K I M H s t B L a4 a1 p R m c0 c1 c2 O HS;(try simp only[pA]);go_wp2_with fail;go_roundw
      case rel=>exact⟨k+1,N,by go_num,_,_,_,_,_,b0.out⟩
      case measure=>simp[intOf];omega
     ·have N:k=f.clients.toNat:=by omega
      subst N;have E:=cB c;clear c;go_wp2_with fail
      go_ret2
      refine⟨D.heap.size,rfl,own,⟨av,cv,Z,Y,?_⟩,fun q hq=>by have:=E.out.lo q hq;omega,E.out.chg⟩;exact E.out.mo
 ·simp only[if_neg o];have X:iL f=false:=by simpa using o
  rw[X]at u;have b1:=cB u;have a3:=cB (aJX a2 a6 a5);clear u o X a2 a6 a5 b2;go_enter func34,ntmps34;go_wp2_with (first|rw[b6.out]|(refine cI rfl 30 _ rfl ⟨W.heap.size,0,none⟩ rfl (cgL f) _ b4.out underlying30 rfl (by kernel_rfl) ?_)|(go_at_call 75;refine b1.out.mono ?_;rintro e D ⟨rfl,V⟩))
  go_ret2
  exact⟨rfl,a3.out.2.1.trans (S:=NoS) (Chg.of_below V) (fun _ _ h=>h)⟩
end Go.Proofs.YtbbdgokdfhdpiaaGreatDoor
