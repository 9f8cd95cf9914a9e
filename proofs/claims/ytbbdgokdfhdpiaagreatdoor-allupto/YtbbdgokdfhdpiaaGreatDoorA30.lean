/- A part. -/
import Derived.Test.YtbbdgokdfhdpiaaGreatDoorA16
import Derived.Test.YtbbdgokdfhdpiaaGreatDoorA28
namespace Go.Proofs.YtbbdgokdfhdpiaaGreatDoor
set_option linter.all false
set_option maxRecDepth 100000
set_option maxHeartbeats 0
open Go.Proofs.Tryz Go.RowKit
section
open Go.Maps
theorem aKJ(W:World){tb:Nat}(h:W.heap[tb]?=some (.map #[] 0)):aBv W tb []:=
 ⟨#[],0,h,⟨by simp,MapKept.stamped_empty 0,by simp⟩,by simp,rfl⟩
theorem aJn{W W1 W2:World}{F1:Nat→Prop}{f:Cf}{num:Int}{g d tb:Nat}(hc:Chg NoS W W2)(hd:Disk W2 F1 d (aI8 f.room))(hf:∀q,F1 q→W.heap.size≤q)(ht:W2.heap[tb]?=some (.map #[] 0))(htl:W.heap.size≤tb)(hnt:¬F1 tb):
 Acc (W2.alloc (.cells (acL (xN f num) d tb g).toArray 162)) (fun q=>W.heap.size≤q∧q<(W2.alloc (.cells (acL (xN f num) d tb g).toArray 162)).heap.size) W2.heap.size g (xN f num):=by
 have e:(W2.alloc (.cells (acL (xN f num) d tb g).toArray 162)).heap.size=W2.heap.size+1:=by simp
 have c:=hc.size;have b:=dG ht;refine⟨F1,d,tb,⟨aA W2 _,hd.of_heap (by omega) (fun k hk=>Below.heap_alloc W2 _ k (hd.lt k hk)),aKJ _ (dM _ ht),fun h=>by have:=hd.lt _ h;omega,hnt⟩,fun q a=>?_,fun q a=>a.2⟩;rcases a with a|a|a
 ·exact⟨hf q a,by have:=hd.lt q a;omega⟩
 ·subst a;exact⟨by omega,by omega⟩
 ·subst a;exact⟨htl,by omega⟩
theorem aHL(W:World)(f:Cf)(num:Int)(g:Nat):
 Calls prog 76 #[cgV f,.int .i64 num,yW g] W fun r W'=>∃b,r= .returned (.pointer (some ⟨b,0,none⟩))∧Acc W' (fun q=>W.heap.size≤q∧q<W'.heap.size) b g (xN f num)∧Chg NoS W W':=by
 have J:=aA W (.cells #[.int .i64 f.f,.int .i64 f.clients,.int .i64 f.patience,.int .i64 f.tries,.int .i64 f.drift,.int .i64 f.compact,.int .i64 f.room] 30);have D:Chg NoS W (W.alloc (.cells #[.int .i64 f.f,.int .i64 f.clients,.int .i64 f.patience,.int .i64 f.tries,.int .i64 f.drift,.int .i64 f.compact,.int .i64 f.room] 30)):=(Chg.refl _ _).alloc _;go_enter func76,ntmps76;go_wp2_with fail;generalize W.alloc (.cells #[.int .i64 f.f,.int .i64 f.clients,.int .i64 f.patience,.int .i64 f.tries,.int .i64 f.drift,.int .i64 f.compact,.int .i64 f.room] 30)=W0 at*;refine pW [(0,0),(0,1),(1,2),(0,3),(1,4),(0,7)] 5 (fun x=>∀j y,(cgL f)[j]?=some y→x.cell? ⟨W.heap.size,j,none⟩=some y) (by kernel_rfl) (by kernel_rfl) (fun _ _ d _ _ h=>by cases d<;>exact h) ?_ ?_
 ·exact fun j y hj=>cO (W:=W0.drew) J j y (by simpa using hj)
 simp only[kC,cM,cL];iterate 2 (refine oZ (v:=?_) rfl ?_ ?_;rotate_left 1;(·(intro x;go_simp;with_reducible rfl)))
 refine dA (v:=.int .i64 f.compact) rfl (fun x hx=>by have:=hx 5 _ rfl;go_simp) ?_;refine oZ (v:=?_) rfl ?_ ?_;rotate_left 1;(·(intro x;go_simp;with_reducible rfl));refine dA (v:=.int .i64 f.room) rfl (fun x hx=>by have:=hx 6 _ rfl;go_simp) ?_;refine oZ (v:=?_) rfl ?_ ?_;rotate_left 1;(·(intro x;go_simp;with_reducible rfl));refine cP ?_;(try simp only[pA]);have i:Hid (∀x,Chg NoS W0 x→∀j y,(cgL f)[j]?=some y→x.cell? ⟨W.heap.size,j,none⟩=some y):=fun x hx j y hj=>cO (hx.kept J (fun h=>h)) j y (by simpa using hj);have o:=cN D;clear J D;have M:Chg NoS W0 W0.drew:=(Chg.refl _ _).drew;refine dQ [5,6] (by kernel_rfl) (by simp) (aB.2 ⟨?_,aB.2 ⟨?_,by simp⟩⟩)
 ·intro C a;refine dK rfl rfl ?_;go_simp;refine(aEx _ f.room).mono ?_;rintro e H ⟨d,I,rfl,A,p,t⟩;have m:=M.trans (S:=NoS) p (fun _ _ h=>h);refine a _ _ (i.out _ m) ?_;clear a C;(try simp only[pA]);refine dQ [6] (by kernel_rfl) (by simp) (aB.2 ⟨?_,by simp⟩);intro C a;refine dK rfl rfl ?_;go_simp;refine a _ _ (i.out _ (m.alloc _)) ?_;clear a C;(try simp only[pA]);have w:=A.lt;have E:=p.size;have n:=aA H (.map #[] 0);have c:=m.alloc (.map #[] 0);have B:Disk (H.alloc (.map #[] 0)) I d (aI8 f.room):=A.of_heap (by simp) (fun k hk=>Below.heap_alloc H _ k (w k hk));have F:¬I H.heap.size:=fun h=>by have:=w _ h;omega
  have G:=cA o.out.size (cA (aE W0.heap.size) E);have s:=cN (aJn (W:=W) (W1:=W0) (f:=f) (num:=num) (g:=g) (o.out.trans (S:=NoS) c (fun _ _ h=>h)) B (fun q hq=>cA o.out.size (t q hq)) n G F);have l:=cN c;clear w E n c B F A t m;refine dQ [8] (by kernel_rfl) (by simp) (aB.2 ⟨?_,by simp⟩);intro C a;refine dK rfl rfl ?_;go_simp;refine a _ _ (i.out _ l.out) ?_;clear a C;(try simp only[pA]);refine dQ [9] (by kernel_rfl) (by simp) (aB.2 ⟨?_,by simp⟩);intro C a;refine dK rfl rfl ?_;go_simp;refine a _ _ (i.out _ (l.out.alloc _)) ?_;clear a C;(try simp only[pA]);refine dQ [10] (by kernel_rfl) (by simp) (aB.2 ⟨?_,by simp⟩);intro C a;refine dK rfl rfl ?_;go_simp;refine a _ _ (i.out _ (l.out.alloc _)) ?_;clear a C;(try simp only[pA]);refine qQ (by kernel_rfl) ?_;go_wp2_with fail;go_ret;exact⟨_,rfl,(by first|exact s.out|(have q:=s.out;simp only[bK]at q⊢;exact q)),(o.out.trans (S:=NoS) l.out (fun _ _ h=>h)).alloc _⟩
 ·intro C a;refine dK rfl rfl ?_;go_simp;have m:Chg NoS W0 (W0.drew.alloc (.map #[] 0)):=(Chg.refl NoS W0).drew.alloc _;refine a _ _ (i.out _ m) ?_;clear a C;(try simp only[pA]);refine dQ [5] (by kernel_rfl) (by simp) (aB.2 ⟨?_,by simp⟩);intro C a;refine dK rfl rfl ?_;go_simp;have n:(W0.drew.alloc (.map #[] 0)).heap[W0.heap.size]?=some (.map #[] 0):=aA W0.drew (.map #[] 0);have L:(W0.drew.alloc (.map #[] 0)).heap.size=W0.heap.size+1:=by simp
  refine(aEx _ f.room).mono ?_;rintro e N ⟨d,I,rfl,A,p,t⟩;have c:=m.trans (S:=NoS) p (fun _ _ h=>h);refine a _ _ (i.out _ c) ?_;clear a C;(try simp only[pA]);have u:=p.kept n (fun h=>h);have K:=o.out.size;have z:∀q,I q→W0.heap.size+1≤q:=fun q hq=>by have:=t q hq;exact cA (Nat.le_of_eq (by simp)) this
  have s:=cN (aJn (W:=W) (W1:=W0) (f:=f) (num:=num) (g:=g) (o.out.trans (S:=NoS) c (fun _ _ h=>h)) A (fun q hq=>by have:=z q hq;omega) u K (fun h=>by have:=z _ h;omega));have l:=cN c;clear n L c u A t m z p;refine dQ [8] (by kernel_rfl) (by simp) (aB.2 ⟨?_,by simp⟩);intro C a;refine dK rfl rfl ?_;go_simp;refine a _ _ (i.out _ l.out) ?_;clear a C;(try simp only[pA]);refine dQ [9] (by kernel_rfl) (by simp) (aB.2 ⟨?_,by simp⟩);intro C a;refine dK rfl rfl ?_;go_simp;refine a _ _ (i.out _ (l.out.alloc _)) ?_;clear a C;(try simp only[pA]);refine dQ [10] (by kernel_rfl) (by simp) (aB.2 ⟨?_,by simp⟩);intro C a;refine dK rfl rfl ?_;go_simp;refine a _ _ (i.out _ (l.out.alloc _)) ?_;clear a C;(try simp only[pA]);refine qQ (by kernel_rfl) ?_;go_wp2_with fail;go_ret;exact⟨_,rfl,(by first|exact s.out|(have q:=s.out;simp only[bK]at q⊢;exact q)),(o.out.trans (S:=NoS) l.out (fun _ _ h=>h)).alloc _⟩
end
theorem aGJ(f:Cf):(cfA f.f f.clients f.patience f.tries&&cfB f.drift f.compact f.room)=oK f:=by
 rw[Bool.eq_iff_iff];simp only[cfA,cfB,wiB,oK,aR,aM];omega
abbrev qE(f:Cf):Obj:=.cells #[.int .i64 f.f,.int .i64 f.clients,.int .i64 f.patience,.int .i64 f.tries,.int .i64 f.drift,.int .i64 f.compact,.int .i64 f.room] 30
theorem aH3{W:World}{g:Nat}{f:Cf}(h:W.heap[g]?=some (.cells #[.slice none 0 0,.slice none 0 0,.slice none 0 0,.slice none 0 0] 100 (0,0))):MoAt W (fun q=>if q=g then 1 else 0) g (moN f 0 0) (.slice none 0 0) (.slice none 0 0) (fun _=>0) (fun _=>0):=by
 have b:=dG h;have a:∀q,(if q=g then 1 else 0)≠0→q<W.heap.size:=fun q hq=>by
  by_cases e:q=g
  ·subst e;exact b
  ·rw[if_neg e]at hq;exact absurd rfl hq
 refine⟨⟨.slice none 0 0,.slice none 0 0,h,by simp,⟨rfl,Or.inl ⟨rfl,rfl⟩⟩,⟨rfl,Or.inl ⟨rfl,rfl⟩⟩,fun k hk=>(by cases hk),fun k hk=>(by cases hk),fun q hq=>a q (by rw[hq];decide)⟩,⟨rfl,Or.inl ⟨rfl,rfl⟩⟩,⟨rfl,Or.inl ⟨rfl,rfl⟩⟩,fun k hk=>(by cases hk),fun k hk=>(by cases hk),fun i hi=>?_,fun i hi=>?_,a⟩
 ·rw[uN]at hi;omega
 ·rw[uS]at hi;omega
theorem aIL:(prog.info? 114).map (fun i=>(i.zero,i.size,i.bytes))=some (some (.pointer none),1,8):=by kernel_rfl
theorem aIB:(prog.info? 96).map (fun i=>(i.zero,i.size,i.bytes))=some (some (.pointer none),1,8):=by kernel_rfl
structure NewSt(W wr:World)(f:Cf)(g k c:Nat)(av cv:Value)(own bA bC:Nat→Nat):Prop where
 mo:MoAt wr own g (moN f k c) av cv bA bC
 cf:wr.heap[W.heap.size]?=some (qE f)
 lo:∀q,own q≠0→W.heap.size+1≤q
 chg:Chg NoS W wr
 sz:W.heap.size+1≤wr.heap.size
theorem NewSt.next{W wr wr':World}{f:Cf}{g k c k' c':Nat}{av cv av' cv':Value}{own bA bC own' bA' bC':Nat→Nat}(h:NewSt W wr f g k c av cv own bA bC)(hm:MoAt wr' own' g (moN f k' c') av' cv' bA' bC')(hl:∀q,own' q≠0→own q≠0∨wr.heap.size≤q)(hc:Chg (fun q=>own q≠0) wr wr'):NewSt W wr' f g k' c' av' cv' own' bA' bC':=
 ⟨hm,hc.kept h.cf (fun e=>by have:=h.lo _ e;omega),fun q hq=>(hl q hq).elim (h.lo q) (fun h'=>by have:=h.sz;omega),h.chg.trans hc (fun x hx h'=>by have:=h.lo x h';omega),by have:=h.sz;have:=hc.size;omega⟩
theorem aJi(W:World)(f:Cf):
 Calls prog 34 #[cgV f] W fun r W'=>if oK f=true then∃g own,r= .returned (.tuple #[fG g,.int .i64 0])∧Moor W' own g (mC f)∧(∀k,own k≠0→W.heap.size≤k)∧Chg NoS W W' else r= .returned (.tuple #[.pointer none,.int .i64 1])∧Chg NoS W W':=by
 obtain⟨ia,d1,d4,c9,d3⟩:=info_parts aIL;obtain⟨ic,c4,d6,c6,d5⟩:=info_parts aIB;have d8:∀(fn:Fn) (first cap:Array Value) (w:World),(Instr.makeFunc fn first cap).run prog w= .ok (.func fn first cap) w:=fun _ _ _ _=>rfl;have a2:=aA W (qE f);have a6:Chg NoS W (W.alloc (qE f)):=(Chg.refl _ _).alloc _;have a5:(W.alloc (qE f)).heap.size=W.heap.size+1:=by simp
 generalize b2:W.alloc (qE f)=W0 at*;have b6:Hid (W.alloc (.cells #[.int .i64 f.f,.int .i64 f.clients,.int .i64 f.patience,.int .i64 f.tries,.int .i64 f.drift,.int .i64 f.compact,.int .i64 f.room] 30)=W0):=b2;have b4:=cN (cR (cs:=cgL f) a2);have u:=yB f.f f.clients f.patience f.tries f.drift f.compact f.room W0;rw[aGJ]at u;by_cases o:oK f=true
 ·simp only[if_pos o];rw[o]at u;have b1:=cN u;have P:=cN (fL o);have a3:=cN (aLp a2 a6 a5);clear u o a2 a6 a5 b2;go_enter func34,ntmps34;go_wp2_with (first|rw[b6.out]|(refine cW rfl 30 _ rfl ⟨W.heap.size,0,none⟩ rfl (cgL f) _ b4.out underlying30 rfl (by kernel_rfl) ?_)|(go_at_call 75;refine b1.out.mono ?_;rintro e D ⟨rfl,V⟩;have c8:=cN V;clear V;refine cQ ?_));refine cN ?_;have a8:Chg NoS W0 D:=(Chg.of_below c8.out);have b3:=a8.kept a3.out.1 (fun h=>h);have d2:W.heap.size+1≤D.heap.size:=by have:=a8.size;have:=a3.out.2.2;omega
  have a9:=a3.out.2.1.trans (S:=NoS) a8 (fun _ _ h=>h);have d0:=cO (dM (.cells #[.slice none 0 0,.slice none 0 0,.slice none 0 0,.slice none 0 0] 100) b3) 0 _ rfl;have b5:=aH3 (f:=f) (aA D (.cells #[.slice none 0 0,.slice none 0 0,.slice none 0 0,.slice none 0 0] 100));have c:NewSt W (D.alloc (.cells #[.slice none 0 0,.slice none 0 0,.slice none 0 0,.slice none 0 0] 100)) f D.heap.size 0 0 (.slice none 0 0) (.slice none 0 0) (fun q=>if q=D.heap.size then 1 else 0) (fun _=>0) (fun _=>0):=
   ⟨b5,dM _ b3,fun q hq=>by
    by_cases e:q=D.heap.size
    ·omega
    ·simp[e]at hq,a9.alloc _,by simp;omega⟩
  have a7:=cN c;have U:IntKind.i64.wrap (2*f.f)=2*f.f:=fV (by have:=P.out.1;omega) (by have:=P.out.1;omega);have w2:IntKind.i64.wrap (2*f.f+1)=2*f.f+1:=fV (by have:=P.out.1;omega) (by have:=P.out.1;omega);clear a8 b3 d2 a9 b5 c;go_wp2_with fail;generalize D.alloc (.cells #[.slice none 0 0,.slice none 0 0,.slice none 0 0,.slice none 0 0] 100)=W2 at*;have a7:=cN (show∃av cv own Z Y,NewSt W W2 f D.heap.size 0 0 av cv own Z Y from⟨_,_,_,_,_,a7.out⟩);go_loopw [16] (fun i wr=>∃(k:Nat),k≤gJ f∧i= .int .i64 k∧∃av cv own Z Y,NewSt W wr f D.heap.size k 0 av cv own Z Y) (fun i _=>gJ f-(intOf i).toNat)
  case atStart=>exact⟨0,aI _,rfl,a7.out⟩
  case round=>
   obtain⟨k,hk,rfl,av,cv,own,Z,Y,c⟩:=hrel;by_cases c5:(k:Int)<2*f.f+1
   ·have c0:wr.cell? ⟨D.heap.size,0,none⟩=some av:=by
     obtain⟨nv,tv,hb,_⟩:=c.mo.cells;exact cO hb 0 _ rfl
    have N:k+1≤gJ f:=by unfold gJ;omega
    have G:=c.mo.rav;rw[uN]at G;have A:=G;obtain⟨pv,l,rfl⟩:=vF G;have Q:=c.cf;have b8:(k:Int)≤1000:=by have:=P.out.1;have:=P.out.2.1;omega
    have HS:=cN c;have a0:=cN A;have F:=cN Q;clear c G A Q;go_wp2_with fail;refine rC [(0,0),(0,1),(0,2),(0,3),(1,4),(1,5),(0,6),(0,7),(2,8),(2,9),(2,10)] [11,12,13,14] (fun x=>x.cell? ⟨D.heap.size,0,none⟩=some (.slice pv k l)∧∀j y,(cgL f)[j]?=some y→x.cell? ((⟨W.heap.size,0,none⟩:Addr).add j)=some y) (by kernel_rfl) (by kernel_rfl) (fun _ _ d _ _ h=>by cases d<;>exact h) ?_ ?_
    ·exact⟨c0,cR (cs:=cgL f) (W:=wr.drew) F.out⟩
    simp only[kC,oN,cM,cL];iterate 5 (apply sB rfl rfl;·(intro x h;(try have h:=h rfl);(try dsimp only at h);go_simp;with_reducible rfl))
    try simp only[pA]
    refine dA (v:=cgV f) rfl (fun x hx=>cU 30 _ rfl ⟨W.heap.size,0,none⟩ rfl (cgL f) _ hx.2 underlying30 rfl (by kernel_rfl)) ?_;(try simp only[pA]);iterate 2 (apply sB rfl rfl;·(intro x h;(try have h:=h rfl);(try dsimp only at h);go_simp;with_reducible rfl))
    try simp only[pA]
    refine dI rfl (fun C hC=>?_);go_simp;refine hC _ _ ⟨c0,cR (cs:=cgL f) (W:=wr.drew) F.out⟩ ?_;clear hC C;(try simp only[pA]);refine dI rfl (fun C hC=>?_);go_simp;refine(aHL wr.drew f k D.heap.size).mono ?_;rintro e U ⟨b,rfl,a4,a1⟩;have p:=a1.of_drew;have O:=HS.out.mo.cells.choose_spec.choose_spec.1;have c1:=(aW (p.block _ (dG O) (fun h=>h))).trans c0;refine hC _ _ ⟨c1,cR (cs:=cgL f) (p.kept F.out (fun h=>h))⟩ ?_;clear hC C;(try simp only[pA]);refine dI rfl (fun C hC=>?_);go_simp;have R:Chg NoS U (U.alloc (.cells #[fG b] 114)):=(Chg.refl _ _).alloc _;have m:=p.trans (S:=NoS) R (fun _ _ h=>h);have c2:=(aW (m.block _ (dG O) (fun h=>h))).trans c0;refine hC _ _ ⟨c2,cR (cs:=cgL f) (m.kept F.out (fun h=>h))⟩ ?_;clear hC C;refine cP ?_;(try simp only[pA]);have B:=m.row a0.out (fun _ _ h=>h);have L:=aA U (.cells #[fG b] 114);refine wpList_append_lies _ rfl _ _ 97 rfl 0 114 ia _ 1 8 underlying97 d1 d4 c9 d3 rfl (by decide) (.slice pv k l) k (pO Z k) rfl B ⟨U.heap.size,0,none⟩ 1 1 [fG b] rfl rfl (cR (cs:=[fG b]) L) (by simp[Value.oneCell']) (by decide) (by unfold maxLen;omega) (by omega) (aI _) (U.heap.size+1) (by simp) ?_;intro gt b9 w3 z a J K;have n:(U.alloc (.cells #[fG b] 114)).grownBy w3 (Value.slice pv k l).ownBlock:=⟨a.os,a.tape,a.output,a.size,a.block⟩;obtain⟨b7,I,M,H⟩:=aKk HS.out.mo a4 p R n z (by
     rcases J with h|h
     ·left;rw[h];rfl
     ·right;exact⟨gt,rfl,by simp;omega,K⟩)
    obtain⟨c7,d7,t,_⟩:=HS.out.mo.cells;have s:=((m.trans (S:=NoS) (Chg.refl _ _) (fun _ _ h=>h)).mono (T:=fun q=>some q=(Value.slice pv k l).ownBlock) (fun _ _ h=>h.elim)).trans (Chg.of_grown n) (fun _ _ h=>h) |>.kept t (fun e=>fN a0.out t (by decide) _ e.symm rfl);have c3:w3.cell? ⟨D.heap.size,0,none⟩=some (.slice pv k l):=cO s 0 _ rfl;have z3:=cX s 0;have b0:=cN (HS.out.next I M H);clear a n z J K I M H s t B L a4 a1 p R m c0 c1 c2 O HS;(try simp only[pA]);go_wp2_with fail;go_roundw
    case rel=>exact⟨k+1,N,by go_num,_,_,_,_,_,b0.out⟩
    case measure=>simp[intOf];omega
   ·have N:k=gJ f:=by unfold gJ at hk⊢;omega
    subst N;have Q:=cO c.cf 1 _ rfl;have E:=cN (show∃av cv own Z Y,NewSt W wr f D.heap.size (gJ f) 0 av cv own Z Y from⟨_,_,_,_,_,c⟩);clear c a7;go_wp2_with fail;clear Q;go_loopw [36] (fun i wr=>∃(k:Nat),k≤f.clients.toNat∧i= .int .i64 k∧∃av cv own Z Y,NewSt W wr f D.heap.size (gJ f) k av cv own Z Y) (fun i _=>f.clients.toNat-(intOf i).toNat)
    case atStart=>exact⟨0,aI _,rfl,E.out⟩
    case round=>
     clear E;obtain⟨k,hk,rfl,av,cv,own,Z,Y,c⟩:=hrel;by_cases c5:(k:Int)<f.clients
     ·have c0:wr.cell? ⟨D.heap.size,1,none⟩=some cv:=by
       obtain⟨nv,tv,hb,_⟩:=c.mo.cells;exact cO hb 1 _ rfl
      have N:k+1≤f.clients.toNat:=by omega
      have G:=c.mo.rcv;rw[uS]at G;have A:=G;obtain⟨pv,l,rfl⟩:=vF G;have Q:=c.cf;have b8:(k:Int)≤1000:=by have:=P.out.2.1;omega
      have HS:=cN c;have a0:=cN A;have F:=cN Q;clear c G A Q;go_wp2_with fail;refine rC [(0,0),(0,1),(0,2),(0,3),(1,4),(1,5),(0,6),(0,7),(2,8),(2,9),(2,10)] [11,12,13,14] (fun x=>x.cell? ⟨D.heap.size,1,none⟩=some (.slice pv k l)∧∀j y,(cgL f)[j]?=some y→x.cell? ((⟨W.heap.size,0,none⟩:Addr).add j)=some y) (by kernel_rfl) (by kernel_rfl) (fun _ _ d _ _ h=>by cases d<;>exact h) ?_ ?_
      ·exact⟨c0,cR (cs:=cgL f) (W:=wr.drew) F.out⟩
      simp only[kC,oN,cM,cL];iterate 5 (apply sB rfl rfl;·(intro x h;(try have h:=h rfl);(try dsimp only at h);go_simp;with_reducible rfl))
      try simp only[pA]
      refine dA (v:=cgV f) rfl (fun x hx=>cU 30 _ rfl ⟨W.heap.size,0,none⟩ rfl (cgL f) _ hx.2 underlying30 rfl (by kernel_rfl)) ?_;(try simp only[pA]);iterate 2 (apply sB rfl rfl;·(intro x h;(try have h:=h rfl);(try dsimp only at h);go_simp;with_reducible rfl))
      try simp only[pA]
      refine dI rfl (fun C hC=>?_);go_simp;refine hC _ _ ⟨c0,cR (cs:=cgL f) (W:=wr.drew) F.out⟩ ?_;clear hC C;(try simp only[pA]);refine dI rfl (fun C hC=>?_);go_simp;refine(aH5 wr.drew f k D.heap.size).mono ?_;rintro e U ⟨b,ch,tk,hd,wt,rfl,a4,a1⟩;have p:=a1.of_drew;have O:=HS.out.mo.cells.choose_spec.choose_spec.1;have c1:=(aW (p.block _ (dG O) (fun h=>h))).trans c0;refine hC _ _ ⟨c1,cR (cs:=cgL f) (p.kept F.out (fun h=>h))⟩ ?_;clear hC C;(try simp only[pA]);refine dI rfl (fun C hC=>?_);go_simp;have R:Chg NoS U (U.alloc (.cells #[fG b] 96)):=(Chg.refl _ _).alloc _;have m:=p.trans (S:=NoS) R (fun _ _ h=>h);have c2:=(aW (m.block _ (dG O) (fun h=>h))).trans c0;refine hC _ _ ⟨c2,cR (cs:=cgL f) (m.kept F.out (fun h=>h))⟩ ?_;clear hC C;refine cP ?_;(try simp only[pA]);have B:=m.row a0.out (fun _ _ h=>h);have L:=aA U (.cells #[fG b] 96);refine wpList_append_lies _ rfl _ _ 98 rfl 0 96 ic _ 1 8 underlying98 c4 d6 c6 d5 rfl (by decide) (.slice pv k l) k (pO Y k) rfl B ⟨U.heap.size,0,none⟩ 1 1 [fG b] rfl rfl (cR (cs:=[fG b]) L) (by simp[Value.oneCell']) (by decide) (by unfold maxLen;omega) (by omega) (aI _) (U.heap.size+1) (by simp) ?_;intro gt b9 w3 z a J K;have n:(U.alloc (.cells #[fG b] 96)).grownBy w3 (Value.slice pv k l).ownBlock:=⟨a.os,a.tape,a.output,a.size,a.block⟩;obtain⟨b7,I,M,H⟩:=aKn HS.out.mo ⟨ch,tk,hd,wt,_,a4⟩ p R n z (by
       rcases J with h|h
       ·left;rw[h];rfl
       ·right;exact⟨gt,rfl,by simp;omega,K⟩)
      obtain⟨c7,d7,t,_⟩:=HS.out.mo.cells;have s:=((m.trans (S:=NoS) (Chg.refl _ _) (fun _ _ h=>h)).mono (T:=fun q=>some q=(Value.slice pv k l).ownBlock) (fun _ _ h=>h.elim)).trans (Chg.of_grown n) (fun _ _ h=>h) |>.kept t (fun e=>fN a0.out t (by decide) _ e.symm rfl);have c3:w3.cell? ⟨D.heap.size,1,none⟩=some (.slice pv k l):=cO s 1 _ rfl;have z3:=cX s 1;have b0:=cN (HS.out.next I M H);clear a n z J K I M H s t B L a4 a1 p R m c0 c1 c2 O HS;(try simp only[pA]);go_wp2_with fail;go_roundw
      case rel=>exact⟨k+1,N,by go_num,_,_,_,_,_,b0.out⟩
      case measure=>simp[intOf];omega
     ·have N:k=f.clients.toNat:=by omega
      subst N;have E:=cN c;clear c;go_wp2_with fail
      go_ret2
      refine⟨D.heap.size,rfl,own,⟨av,cv,Z,Y,?_⟩,fun q hq=>by have:=E.out.lo q hq;omega,E.out.chg⟩;exact E.out.mo
 ·simp only[if_neg o];have X:oK f=false:=by simpa using o
  rw[X]at u;have b1:=cN u;have a3:=cN (aLp a2 a6 a5);clear u o X a2 a6 a5 b2;go_enter func34,ntmps34;go_wp2_with (first|rw[b6.out]|(refine cW rfl 30 _ rfl ⟨W.heap.size,0,none⟩ rfl (cgL f) _ b4.out underlying30 rfl (by kernel_rfl) ?_)|(go_at_call 75;refine b1.out.mono ?_;rintro e D ⟨rfl,V⟩))
  go_ret2
  exact⟨rfl,a3.out.2.1.trans (S:=NoS) (Chg.of_below V) (fun _ _ h=>h)⟩
end Go.Proofs.YtbbdgokdfhdpiaaGreatDoor
