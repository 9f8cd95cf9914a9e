/- A part of the proof: PCNew, LwFin, LwBs, Erl. -/
import Derived.Test.YtbbdgokdfhdpiaaGreatDoorA24
namespace Go.Proofs.YtbbdgokdfhdpiaaGreatDoor
set_option linter.all false
set_option maxRecDepth 100000
set_option maxHeartbeats 40000000
open Go.Proofs.Tryz Go.RowKit
abbrev cgL(f:Cf):List Value:=[.int .i64 f.f,.int .i64 f.clients,.int .i64 f.patience,.int .i64 f.tries,.int .i64 f.drift,.int .i64 f.compact,.int .i64 f.room]
abbrev cgV(f:Cf):Value:=.agg #[.int .i64 f.f,.int .i64 f.clients,.int .i64 f.patience,.int .i64 f.tries,.int .i64 f.drift,.int .i64 f.compact,.int .i64 f.room]
structure Four(W A:World)(c t h k:Bool)(xc xt xh xk:Nat):Prop where
 chg:Chg NoS W A
 oc:c=true→A.heap[xc]?=some (.chan 0 #[] false 0 0 false)∧W.heap.size≤xc
 ot:t=true→A.heap[xt]?=some (.map #[] 0)∧W.heap.size≤xt
 oh:h=true→A.heap[xh]?=some (.map #[] 0)∧W.heap.size≤xh
 ok:k=true→A.heap[xk]?=some (.map #[] 0)∧W.heap.size≤xk
 th:t=true→h=true→xt≠xh
 tk:t=true→k=true→xt≠xk
 hk:h=true→k=true→xh≠xk
theorem Four.drew{W A:World}{c t h k:Bool}{xc xt xh xk:Nat}(q:Four W A c t h k xc xt xh xk):Four W A.drew c t h k xc xt xh xk:=⟨q.chg.drew,q.oc,q.ot,q.oh,q.ok,q.th,q.tk,q.hk⟩
theorem Four.begin(W:World):Four W W false false false false 0 0 0 0:=⟨Chg.refl _ _,by simp,by simp,by simp,by simp,by simp,by simp,by simp⟩
section
variable {W A:World}{c t h k:Bool}{xc xt xh xk:Nat}
theorem Four.addC(q:Four W A false t h k xc xt xh xk):Four W (A.alloc (.chan 0 #[] false 0 0 false)) true t h k A.heap.size xt xh xk:=
 ⟨q.chg.alloc _,fun _=>⟨aA A _,q.chg.size⟩,fun e=>⟨dM _ (q.ot e).1,(q.ot e).2⟩,fun e=>⟨dM _ (q.oh e).1,(q.oh e).2⟩,fun e=>⟨dM _ (q.ok e).1,(q.ok e).2⟩,q.th,q.tk,q.hk⟩
theorem Four.addT(q:Four W A c false h k xc xt xh xk):Four W (A.alloc (.map #[] 0)) c true h k xc A.heap.size xh xk:=
 ⟨q.chg.alloc _,fun e=>⟨dM _ (q.oc e).1,(q.oc e).2⟩,fun _=>⟨aA A _,q.chg.size⟩,fun e=>⟨dM _ (q.oh e).1,(q.oh e).2⟩,fun e=>⟨dM _ (q.ok e).1,(q.ok e).2⟩,fun _ e=>by have:=dG (q.oh e).1;omega,fun _ e=>by have:=dG (q.ok e).1;omega,q.hk⟩
theorem Four.addH(q:Four W A c t false k xc xt xh xk):Four W (A.alloc (.map #[] 0)) c t true k xc xt A.heap.size xk:=
 ⟨q.chg.alloc _,fun e=>⟨dM _ (q.oc e).1,(q.oc e).2⟩,fun e=>⟨dM _ (q.ot e).1,(q.ot e).2⟩,fun _=>⟨aA A _,q.chg.size⟩,fun e=>⟨dM _ (q.ok e).1,(q.ok e).2⟩,fun e _=>by have:=dG (q.ot e).1;omega,q.tk,fun _ e=>by have:=dG (q.ok e).1;omega⟩
theorem Four.addK(q:Four W A c t h false xc xt xh xk):Four W (A.alloc (.map #[] 0)) c t h true xc xt xh A.heap.size:=
 ⟨q.chg.alloc _,fun e=>⟨dM _ (q.oc e).1,(q.oc e).2⟩,fun e=>⟨dM _ (q.ot e).1,(q.ot e).2⟩,fun e=>⟨dM _ (q.oh e).1,(q.oh e).2⟩,fun _=>⟨aA A _,q.chg.size⟩,q.th,fun e _=>by have:=dG (q.ot e).1;omega,fun e _=>by have:=dG (q.oh e).1;omega⟩
end
theorem aIP{W A:World}{ch tk hd wt:Nat}(q:Four W A true true true true ch tk hd wt)(f:Cf)(num:Int)(g:Nat):
 ClAt (A.alloc (.cells (clL f (yC num) ch tk hd wt g (.pointer none)).toArray 150)) (fun q=>W.heap.size≤q∧q<A.heap.size+1) A.heap.size g f (yC num) ch tk hd wt (.pointer none):=by
 have k:∀{x:Nat} {o:Obj},A.heap[x]?=some o→(A.alloc (.cells (clL f (yC num) ch tk hd wt g (.pointer none)).toArray 150)).heap[x]?=some o:=fun hx=>dM _ hx;have l:∀{x:Nat} {o:Obj},A.heap[x]?=some o→x<A.heap.size+1:=fun hx=>by have:=dG hx;omega
 have j:=q.chg.size;obtain⟨c,i⟩:=q.oc rfl;obtain⟨a,e⟩:=q.ot rfl;obtain⟨d,m⟩:=q.oh rfl;obtain⟨b,h⟩:=q.ok rfl;refine⟨aA A _,⟨j,by omega⟩,k c,⟨i,l c⟩,⟨⟨_,_,⟨[],0,k a,by simp,rfl,fun _=>rfl⟩,fun _=>rfl⟩,⟨_,_,⟨[],0,k d,by simp,rfl,fun _=>rfl⟩,fun _=>rfl⟩,⟨_,_,⟨[],0,k b,by simp,rfl,fun _=>rfl⟩,fun _=>rfl⟩,q.th rfl rfl,q.tk rfl rfl,q.hk rfl rfl,⟨e,l a⟩,⟨m,l d⟩,⟨h,l b⟩⟩,rfl,fun x hx=>by have:=hx.2;simp;omega⟩
theorem aHO(W:World)(f:Cf)(num:Int)(g:Nat):
 Calls prog 78 #[cgV f,.int .i64 num,yT g] W fun r W'=>∃b ch tk hd wt,r= .returned (.pointer (some ⟨b,0,none⟩))∧ClAt W' (fun q=>W.heap.size≤q∧q<W'.heap.size) b g f (yC num) ch tk hd wt (.pointer none)∧Chg NoS W W':=by
 have E:=aA W (.cells #[.int .i64 f.f,.int .i64 f.clients,.int .i64 f.patience,.int .i64 f.tries,.int .i64 f.drift,.int .i64 f.compact,.int .i64 f.room] 30);have B:Chg NoS W (W.alloc (.cells #[.int .i64 f.f,.int .i64 f.clients,.int .i64 f.patience,.int .i64 f.tries,.int .i64 f.drift,.int .i64 f.compact,.int .i64 f.room] 30)):=(Chg.refl _ _).alloc _;go_enter func78,ntmps78;go_wp2_with fail;generalize W.alloc (.cells #[.int .i64 f.f,.int .i64 f.clients,.int .i64 f.patience,.int .i64 f.tries,.int .i64 f.drift,.int .i64 f.compact,.int .i64 f.room] 30)=W0 at*;refine pK [(1,0),(0,1),(0,3)] 7 (fun x=>∀j y,(cgL f)[j]?=some y→x.cell? ((⟨W.heap.size,0,none⟩:Addr).add j)=some y) (by kernel_rfl) (by kernel_rfl) (fun _ _ d _ _ h=>by cases d<;>exact h) ?_ ?_
 ·exact cR (W:=W0.drew) E
 simp only[kD,cM,cL];refine dA (v:=cgV f) rfl (fun x hx=>cU 30 _ rfl ⟨W.heap.size,0,none⟩ rfl (cgL f) _ hx underlying30 rfl (by kernel_rfl)) ?_;refine pF (v:=?_) rfl ?_ ?_;rotate_left 1;(·(intro x;go_simp;with_reducible rfl));refine pF (v:=?_) rfl ?_ ?_;rotate_left 1;(·(intro x;go_simp;with_reducible rfl));refine cP ?_;(try simp only[pA]);have u:Hid (∀x,Chg NoS W0 x→∀j y,(cgL f)[j]?=some y→x.cell? ((⟨W.heap.size,0,none⟩:Addr).add j)=some y):=fun x hx=>cR (hx.kept E (fun h=>h));have D:=cN B;clear E B;obtain⟨I,i⟩:∃I:Nat→Array Bool→Act→World→Prop,Hid (∀n s a w,I n s a w↔∃(c t h k:Bool) (p m l o:Nat),n=(!c).toNat+(!t).toNat+(!h).toNat+(!k).toNat∧s=#[true,true,c,true,t,h,k,false,false,false]∧
  a={tmps:=#[cgV f,.int .i64 num,yT g,.pointer (some ⟨W.heap.size,0,none⟩),undef,undef,.pointer none,cgV f,.int .i64 num,cond c (.chan (some p)) undef,yT g,cond t (.map (some m)) undef,cond h (.map (some l)) undef,cond k (.map (some o)) undef,undef,undef],defers:=[]}∧Four W0 w c t h k p m l o):=⟨_,fun _ _ _ _=>Iff.rfl⟩
 refine aBA 3 I ?_ ?_ ?_ 4 _ _ _ ?_
 ·intro n s a w A;obtain⟨c,t,h,k,p,m,l,o,e,rfl,rfl,q⟩:=(i.out _ _ _ _).1 A;exact u.out w q.chg
 ·intro s a w A;obtain⟨c,t,h,k,p,m,l,o,e,rfl,rfl,q⟩:=(i.out _ _ _ _).1 A;clear A;obtain⟨rfl,rfl,rfl,rfl⟩:c=true∧t=true∧h=true∧k=true:=by cases c<;>cases t<;>cases h<;>cases k<;>first|exact⟨rfl,rfl,rfl,rfl⟩|exact absurd e (by decide)
  simp only[cond_true];have Q:=cN q;clear q e;refine dQ [7] (by kernel_rfl) (by simp) (aB.2 ⟨?_,by simp⟩);intro C z;refine dK rfl rfl ?_;go_simp;refine z _ _ (u.out _ Q.out.chg) ?_;clear z C;(try simp only[pA]);refine dQ [8] (by kernel_rfl) (by simp) (aB.2 ⟨?_,by simp⟩);intro C z;refine dK rfl rfl ?_;go_simp;refine z _ _ (u.out _ (Q.out.chg.alloc _)) ?_;clear z C;(try simp only[pA]);refine dQ [9] (by kernel_rfl) (by simp) (aB.2 ⟨?_,by simp⟩);intro C z;refine dK rfl rfl ?_;go_simp;refine z _ _ (u.out _ (Q.out.chg.alloc _)) ?_;clear z C;(try simp only[pA]);refine qI (by kernel_rfl) ?_;go_wp2_with fail;go_ret;have F:=aIP Q.out f num g;refine⟨w.heap.size,p,m,l,o,rfl,?_,(D.out.trans (S:=NoS) Q.out.chg (fun _ _ h=>h)).alloc _⟩;have G:=D.out.size;have:=ClAt.grow F (F':=fun q=>W.heap.size≤q∧q<(w.alloc (.cells (clL f (yC num) p m l o g (.pointer none)).toArray 150)).heap.size) (fun q hq=>⟨by omega,by simp;omega⟩) (fun q hq=>hq.2);exact this
 ·intro n s a w A;obtain⟨c,t,h,k,p,m,l,o,e,rfl,rfl,q⟩:=(i.out _ _ _ _).1 A;have Q:=cN q;clear q A;cases c<;>cases t<;>cases h<;>cases k
  ·refine⟨[2,4,5,6],by kernel_rfl,by simp,?_⟩;simp only[cond_true,cond_false];refine aB.2 ⟨?_,aB.2 ⟨?_,aB.2 ⟨?_,aB.2 ⟨?_,by simp⟩⟩⟩⟩
   ·refine dK rfl rfl ?_;go_simp;rw[iX];go_simp;exact(i.out _ _ _ _).2 ⟨true,false,false,false,w.heap.size,m,l,o,aX e,rfl,rfl,Q.out.addC⟩
   ·refine dK rfl rfl ?_;go_simp;exact(i.out _ _ _ _).2 ⟨false,true,false,false,p,w.heap.size,l,o,aX e,rfl,rfl,Q.out.addT⟩
   ·refine dK rfl rfl ?_;go_simp;exact(i.out _ _ _ _).2 ⟨false,false,true,false,p,m,w.heap.size,o,aX e,rfl,rfl,Q.out.addH⟩
   ·refine dK rfl rfl ?_;go_simp;exact(i.out _ _ _ _).2 ⟨false,false,false,true,p,m,l,w.heap.size,aX e,rfl,rfl,Q.out.addK⟩
  ·refine⟨[2,4,5],by kernel_rfl,by simp,?_⟩;simp only[cond_true,cond_false];refine aB.2 ⟨?_,aB.2 ⟨?_,aB.2 ⟨?_,by simp⟩⟩⟩
   ·refine dK rfl rfl ?_;go_simp;rw[iX];go_simp;exact(i.out _ _ _ _).2 ⟨true,false,false,true,w.heap.size,m,l,o,aX e,rfl,rfl,Q.out.addC⟩
   ·refine dK rfl rfl ?_;go_simp;exact(i.out _ _ _ _).2 ⟨false,true,false,true,p,w.heap.size,l,o,aX e,rfl,rfl,Q.out.addT⟩
   ·refine dK rfl rfl ?_;go_simp;exact(i.out _ _ _ _).2 ⟨false,false,true,true,p,m,w.heap.size,o,aX e,rfl,rfl,Q.out.addH⟩
  ·refine⟨[2,4,6],by kernel_rfl,by simp,?_⟩;simp only[cond_true,cond_false];refine aB.2 ⟨?_,aB.2 ⟨?_,aB.2 ⟨?_,by simp⟩⟩⟩
   ·refine dK rfl rfl ?_;go_simp;rw[iX];go_simp;exact(i.out _ _ _ _).2 ⟨true,false,true,false,w.heap.size,m,l,o,aX e,rfl,rfl,Q.out.addC⟩
   ·refine dK rfl rfl ?_;go_simp;exact(i.out _ _ _ _).2 ⟨false,true,true,false,p,w.heap.size,l,o,aX e,rfl,rfl,Q.out.addT⟩
   ·refine dK rfl rfl ?_;go_simp;exact(i.out _ _ _ _).2 ⟨false,false,true,true,p,m,l,w.heap.size,aX e,rfl,rfl,Q.out.addK⟩
  ·refine⟨[2,4],by kernel_rfl,by simp,?_⟩;simp only[cond_true,cond_false];refine aB.2 ⟨?_,aB.2 ⟨?_,by simp⟩⟩
   ·refine dK rfl rfl ?_;go_simp;rw[iX];go_simp;exact(i.out _ _ _ _).2 ⟨true,false,true,true,w.heap.size,m,l,o,aX e,rfl,rfl,Q.out.addC⟩
   ·refine dK rfl rfl ?_;go_simp;exact(i.out _ _ _ _).2 ⟨false,true,true,true,p,w.heap.size,l,o,aX e,rfl,rfl,Q.out.addT⟩
  ·refine⟨[2,5,6],by kernel_rfl,by simp,?_⟩;simp only[cond_true,cond_false];refine aB.2 ⟨?_,aB.2 ⟨?_,aB.2 ⟨?_,by simp⟩⟩⟩
   ·refine dK rfl rfl ?_;go_simp;rw[iX];go_simp;exact(i.out _ _ _ _).2 ⟨true,true,false,false,w.heap.size,m,l,o,aX e,rfl,rfl,Q.out.addC⟩
   ·refine dK rfl rfl ?_;go_simp;exact(i.out _ _ _ _).2 ⟨false,true,true,false,p,m,w.heap.size,o,aX e,rfl,rfl,Q.out.addH⟩
   ·refine dK rfl rfl ?_;go_simp;exact(i.out _ _ _ _).2 ⟨false,true,false,true,p,m,l,w.heap.size,aX e,rfl,rfl,Q.out.addK⟩
  ·refine⟨[2,5],by kernel_rfl,by simp,?_⟩;simp only[cond_true,cond_false];refine aB.2 ⟨?_,aB.2 ⟨?_,by simp⟩⟩
   ·refine dK rfl rfl ?_;go_simp;rw[iX];go_simp;exact(i.out _ _ _ _).2 ⟨true,true,false,true,w.heap.size,m,l,o,aX e,rfl,rfl,Q.out.addC⟩
   ·refine dK rfl rfl ?_;go_simp;exact(i.out _ _ _ _).2 ⟨false,true,true,true,p,m,w.heap.size,o,aX e,rfl,rfl,Q.out.addH⟩
  ·refine⟨[2,6],by kernel_rfl,by simp,?_⟩;simp only[cond_true,cond_false];refine aB.2 ⟨?_,aB.2 ⟨?_,by simp⟩⟩
   ·refine dK rfl rfl ?_;go_simp;rw[iX];go_simp;exact(i.out _ _ _ _).2 ⟨true,true,true,false,w.heap.size,m,l,o,aX e,rfl,rfl,Q.out.addC⟩
   ·refine dK rfl rfl ?_;go_simp;exact(i.out _ _ _ _).2 ⟨false,true,true,true,p,m,l,w.heap.size,aX e,rfl,rfl,Q.out.addK⟩
  ·refine⟨[2],by kernel_rfl,by simp,?_⟩;simp only[cond_true,cond_false];refine aB.2 ⟨?_,by simp⟩
   ·refine dK rfl rfl ?_;go_simp;rw[iX];go_simp;exact(i.out _ _ _ _).2 ⟨true,true,true,true,w.heap.size,m,l,o,aX e,rfl,rfl,Q.out.addC⟩
  ·refine⟨[4,5,6],by kernel_rfl,by simp,?_⟩;simp only[cond_true,cond_false];refine aB.2 ⟨?_,aB.2 ⟨?_,aB.2 ⟨?_,by simp⟩⟩⟩
   ·refine dK rfl rfl ?_;go_simp;exact(i.out _ _ _ _).2 ⟨true,true,false,false,p,w.heap.size,l,o,aX e,rfl,rfl,Q.out.addT⟩
   ·refine dK rfl rfl ?_;go_simp;exact(i.out _ _ _ _).2 ⟨true,false,true,false,p,m,w.heap.size,o,aX e,rfl,rfl,Q.out.addH⟩
   ·refine dK rfl rfl ?_;go_simp;exact(i.out _ _ _ _).2 ⟨true,false,false,true,p,m,l,w.heap.size,aX e,rfl,rfl,Q.out.addK⟩
  ·refine⟨[4,5],by kernel_rfl,by simp,?_⟩;simp only[cond_true,cond_false];refine aB.2 ⟨?_,aB.2 ⟨?_,by simp⟩⟩
   ·refine dK rfl rfl ?_;go_simp;exact(i.out _ _ _ _).2 ⟨true,true,false,true,p,w.heap.size,l,o,aX e,rfl,rfl,Q.out.addT⟩
   ·refine dK rfl rfl ?_;go_simp;exact(i.out _ _ _ _).2 ⟨true,false,true,true,p,m,w.heap.size,o,aX e,rfl,rfl,Q.out.addH⟩
  ·refine⟨[4,6],by kernel_rfl,by simp,?_⟩;simp only[cond_true,cond_false];refine aB.2 ⟨?_,aB.2 ⟨?_,by simp⟩⟩
   ·refine dK rfl rfl ?_;go_simp;exact(i.out _ _ _ _).2 ⟨true,true,true,false,p,w.heap.size,l,o,aX e,rfl,rfl,Q.out.addT⟩
   ·refine dK rfl rfl ?_;go_simp;exact(i.out _ _ _ _).2 ⟨true,false,true,true,p,m,l,w.heap.size,aX e,rfl,rfl,Q.out.addK⟩
  ·refine⟨[4],by kernel_rfl,by simp,?_⟩;simp only[cond_true,cond_false];refine aB.2 ⟨?_,by simp⟩
   ·refine dK rfl rfl ?_;go_simp;exact(i.out _ _ _ _).2 ⟨true,true,true,true,p,w.heap.size,l,o,aX e,rfl,rfl,Q.out.addT⟩
  ·refine⟨[5,6],by kernel_rfl,by simp,?_⟩;simp only[cond_true,cond_false];refine aB.2 ⟨?_,aB.2 ⟨?_,by simp⟩⟩
   ·refine dK rfl rfl ?_;go_simp;exact(i.out _ _ _ _).2 ⟨true,true,true,false,p,m,w.heap.size,o,aX e,rfl,rfl,Q.out.addH⟩
   ·refine dK rfl rfl ?_;go_simp;exact(i.out _ _ _ _).2 ⟨true,true,false,true,p,m,l,w.heap.size,aX e,rfl,rfl,Q.out.addK⟩
  ·refine⟨[5],by kernel_rfl,by simp,?_⟩;simp only[cond_true,cond_false];refine aB.2 ⟨?_,by simp⟩
   ·refine dK rfl rfl ?_;go_simp;exact(i.out _ _ _ _).2 ⟨true,true,true,true,p,m,w.heap.size,o,aX e,rfl,rfl,Q.out.addH⟩
  ·refine⟨[6],by kernel_rfl,by simp,?_⟩;simp only[cond_true,cond_false];refine aB.2 ⟨?_,by simp⟩
   ·refine dK rfl rfl ?_;go_simp;exact(i.out _ _ _ _).2 ⟨true,true,true,true,p,m,l,w.heap.size,aX e,rfl,rfl,Q.out.addK⟩
  ·cases e
 ·exact(i.out _ _ _ _).2 ⟨false,false,false,false,0,0,0,0,rfl,rfl,rfl,(Four.begin W0).drew⟩
def lP(lab:Nat→Nat)(a:Nat)(v va vb vc vr vm:Value):Nat→Nat:=fun k=>
 if lab k≠0 then lab k else if v.ownBlock=some k∨va.ownBlock=some k∨vb.ownBlock=some k∨vc.ownBlock=some k then 9 else if vr.ownBlock=some k then a else if vm.ownBlock=some k then a+1 else 0
theorem aJt{t:TypeId}{f:Int→List Value}{sz a:Nat}(ha:a=3∨a=5∨a=7){W wc wd we wf wg:World}{lab:Nat→Nat}{g0:Nat}{v va vb vc vr vm rv mv:Value}{ls:List (Value×Nat×Int)}{n:Nat}{x:Int}
 (hS:StK t f sz a W lab rv mv ls) (hl0:lab g0=1) (hlt:∀k,lab k≠0→k<W.heap.size) (hvl:∀k,v.ownBlock=some k→lab k=0)
 (hcW:Chg (fun q=>q=g0∨some q=v.ownBlock) W wc)
 (m0:MkL f sz wc v n x) (m1:MkL f sz wc va (n+1) x) (m2:MkL f sz wc vb (n+2) x) (m3:MkL f sz wc vc (n+3) x)
 (b1:va.ownBlock=v.ownBlock∨∃q,va.ownBlock=some q∧W.heap.size≤q) (b2:vb.ownBlock=v.ownBlock∨∃q,vb.ownBlock=some q∧W.heap.size≤q) (b3:vc.ownBlock=v.ownBlock∨∃q,vc.ownBlock=some q∧W.heap.size≤q)
 (hcd:Chg (fun q=>some q=rv.ownBlock) wc wd) (hrow:wd.ownsRow 0 t 1 vr (ls.length+4) ((ls.map fun q=>q.1)++[v,va,vb,vc])) (hr:vr.ownBlock=rv.ownBlock∨∃q,vr.ownBlock=some q∧wc.heap.size≤q)
 (hde:Chg (fun q=>q=g0) wd we)
 (hef:Chg (fun q=>some q=mv.ownBlock) we wf) (hmar:wf.ownsRow 0 3 1 vm (ls.length+4) ((ls.map fun q=>.int .i64 q.2.2)++[.int .i64 x,.int .i64 x,.int .i64 x,.int .i64 x])) (hm:vm.ownBlock=mv.ownBlock∨∃q,vm.ownBlock=some q∧we.heap.size≤q)
 (hfg:Chg (fun q=>q=g0) wf wg):
 StK t f sz a wg (lP lab a v va vb vc vr vm) vr vm (ls++[(v,n,x),(va,n+1,x),(vb,n+2,x),(vc,n+3,x)])∧(∀k,lab k≠0→lP lab a v va vb vc vr vm k=lab k)∧(∀k,lP lab a v va vb vc vr vm k≠0→k<wg.heap.size)∧
  (∀k,lP lab a v va vb vc vr vm k≠0→lab k≠0∨lP lab a v va vb vc vr vm k=a∨lP lab a v va vb vc vr vm k=a+1∨lP lab a v va vb vc vr vm k=9)∧
  Chg (fun k=>k=g0∨lab k=a∨lab k=a+1∨lab k=0) W wg:=by
 have Z:=hcW.size;have S:=hcd.size;have R:=hde.size;have N:=hef.size;have P:=hfg.size;have O:∀k,rv.ownBlock=some k→k<W.heap.size:=fun k b=>eY hS.rows k b;have Q:∀k,mv.ownBlock=some k→k<W.heap.size:=fun k b=>eY hS.marks k b;have i:∀{u:Value} {k:Nat},MkL f sz wc u k x→∀g,u.ownBlock=some g→g<wc.heap.size:=fun h g hg=>by
  obtain⟨p,M,V,hlt,_⟩:=h;exact hlt g hg
 have c:∀k,lab k≠0→lP lab a v va vb vc vr vm k=lab k:=fun k b=>if_pos b;have z:∀{u:Value},(u.ownBlock=v.ownBlock∨∃q,u.ownBlock=some q∧W.heap.size≤q)→∀k,u.ownBlock=some k→lab k=0:=fun hu k b=>by
  rcases hu with h|⟨q,h,y⟩
  ·exact hvl k (h.symm.trans b)
  ·rw[h]at b
   injection b with e
   subst e;exact aH fun hne=>by have:=hlt _ hne;omega
 have E:∀{u:Value},u=v∨u=va∨u=vb∨u=vc→∀k,u.ownBlock=some k→lP lab a v va vb vc vr vm k=9:=fun hu k b=>by
  have o:lab k=0:=by
   rcases hu with rfl|rfl|rfl|rfl
   ·exact hvl k b
   ·exact z b1 k b
   ·exact z b2 k b
   ·exact z b3 k b
  unfold lP;rw[if_neg (by omega),if_pos];rcases hu with rfl|rfl|rfl|rfl
  ·exact Or.inl b
  ·exact Or.inr (Or.inl b)
  ·exact Or.inr (Or.inr (Or.inl b))
  ·exact Or.inr (Or.inr (Or.inr b))
 have d:∀k,(v.ownBlock=some k∨va.ownBlock=some k∨vb.ownBlock=some k∨vc.ownBlock=some k)→k<wc.heap.size:=fun k b=>by
  rcases b with h|h|h|h
  ·exact i m0 k h
  ·exact i m1 k h
  ·exact i m2 k h
  ·exact i m3 k h
 have w:∀k,vr.ownBlock=some k→lP lab a v va vb vc vr vm k=a:=fun k b=>by
  rcases hr with h|⟨q,h,y⟩
  ·rw[c k (by rw[hS.rl k (h.symm.trans b)];omega)];exact hS.rl k (h.symm.trans b)
  ·rw[h]at b
   injection b with e
   subst e;have o:lab q=0:=aH fun hne=>by have:=hlt _ hne;omega
   unfold lP;rw[if_neg (by omega),if_neg (fun e=>by have:=d q e;omega),if_pos h]
 have B:∀k,vm.ownBlock=some k→lP lab a v va vb vc vr vm k=a+1:=fun k b=>by
  rcases hm with h|⟨q,h,y⟩
  ·rw[c k (by rw[hS.ml k (h.symm.trans b)];omega)];exact hS.ml k (h.symm.trans b)
  ·rw[h]at b
   injection b with e
   subst e;have o:lab q=0:=aH fun hne=>by have:=hlt _ hne;omega
   unfold lP;rw[if_neg (by omega),if_neg (fun e=>by have:=d q e;omega),if_neg (fun e=>by have:=eY hrow q e;omega),if_pos h]
 have J:∀k,(v.ownBlock=some k∨va.ownBlock=some k∨vb.ownBlock=some k∨vc.ownBlock=some k)→k≠g0∧some k≠rv.ownBlock∧some k≠mv.ownBlock:=fun k b=>by
  have o:lab k=0:=by
   rcases b with h|h|h|h
   ·exact hvl k h
   ·exact z b1 k h
   ·exact z b2 k h
   ·exact z b3 k h
  refine⟨fun e=>by rw[e,hl0]at o;omega,fun e=>?_,fun e=>?_⟩
  ·have:=hS.rl k e.symm;omega
  ·have:=hS.ml k e.symm;omega
 have j:∀k,k<wc.heap.size→k≠g0→some k≠rv.ownBlock→some k≠mv.ownBlock→wg.heap[k]?=wc.heap[k]?:=fun k A r I H=>
  ((hfg.block k (by omega) r).trans (hef.block k (by omega) H)).trans ((hde.block k (by omega) r).trans (hcd.block k A I))
 refine⟨⟨?_,?_,w,B,?_,?_⟩,c,?_,?_,?_⟩
 ·have F:(ls++[(v,n,x),(va,n+1,x),(vb,n+2,x),(vc,n+3,x)]).length=ls.length+4:=by simp
  have G:((ls++[(v,n,x),(va,n+1,x),(vb,n+2,x),(vc,n+3,x)]).map fun q=>q.1)=(ls.map fun q=>q.1)++[v,va,vb,vc]:=by simp
  rw[F,G];refine dF hrow (fun k b=>?_);have s:=eY hrow k b;have l:k≠g0:=fun e=>by
   have:=w k b;rw[c k (by rw[e,hl0];decide),e,hl0]at this;omega
  have L:some k≠mv.ownBlock:=fun e=>by
   have A:=hS.ml k e.symm;have r:=w k b;rw[c k (by omega)]at r;omega
  exact(hfg.block k (by omega) l).trans ((hef.block k (by omega) L).trans (hde.block k s l))
 ·have F:(ls++[(v,n,x),(va,n+1,x),(vb,n+2,x),(vc,n+3,x)]).length=ls.length+4:=by simp
  have G:((ls++[(v,n,x),(va,n+1,x),(vb,n+2,x),(vc,n+3,x)]).map fun q=>(Value.int .i64 q.2.2))=(ls.map fun q=>.int .i64 q.2.2)++[.int .i64 x,.int .i64 x,.int .i64 x,.int .i64 x]:=by simp
  rw[F,G];refine dF hmar (fun k b=>?_);have s:=eY hmar k b;have l:k≠g0:=fun e=>by
   have:=B k b;rw[c k (by rw[e,hl0];decide),e,hl0]at this;omega
  exact hfg.block k s l
 ·intro q y;rcases aO.1 y with h|h
  ·obtain⟨p,M,V,D,b⟩:=hS.each q h;refine(hS.each q h).of_heap (by omega) (fun g hg=>?_);have A:=D g hg;have r:=hS.el q h g hg;have C:g≠g0:=fun e=>by rw[e,hl0]at r;omega
   rw[j g (by omega) C (fun e=>by have:=hS.rl g e.symm;omega) (fun e=>by have:=hS.ml g e.symm;omega)];exact hcW.block g A (fun e=>by
    rcases e with e|e
    ·exact C e
    ·have:=hvl g e.symm;omega)
  ·simp only[List.mem_cons,List.not_mem_nil,or_false]at h;have m:∀{u:Value} {k:Nat},MkL f sz wc u k x→(u=v∨u=va∨u=vb∨u=vc)→MkL f sz wg u k x:=fun hmk hu=>by
    refine hmk.of_heap (by omega) (fun g hg=>?_);have K:v.ownBlock=some g∨va.ownBlock=some g∨vb.ownBlock=some g∨vc.ownBlock=some g:=by
     rcases hu with rfl|rfl|rfl|rfl
     ·exact Or.inl hg
     ·exact Or.inr (Or.inl hg)
     ·exact Or.inr (Or.inr (Or.inl hg))
     ·exact Or.inr (Or.inr (Or.inr hg))
    obtain⟨X,U,Y⟩:=J g K;exact j g (i hmk g hg) X U Y
   rcases h with rfl|rfl|rfl|rfl
   ·exact m m0 (Or.inl rfl)
   ·exact m m1 (Or.inr (Or.inl rfl))
   ·exact m m2 (Or.inr (Or.inr (Or.inl rfl)))
   ·exact m m3 (Or.inr (Or.inr (Or.inr rfl)))
 ·intro q y k b;rcases aO.1 y with h|h
  ·have:=hS.el q h k b;rw[c k (by omega)];exact this
  ·simp only[List.mem_cons,List.not_mem_nil,or_false]at h;rcases h with rfl|rfl|rfl|rfl
   ·exact E (Or.inl rfl) k b
   ·exact E (Or.inr (Or.inl rfl)) k b
   ·exact E (Or.inr (Or.inr (Or.inl rfl))) k b
   ·exact E (Or.inr (Or.inr (Or.inr rfl))) k b
 ·intro k b;unfold lP at b;split at b
  ·have:=hlt k (by assumption);omega
  ·split at b
   ·have:=d k (by assumption);omega
   ·split at b
    ·have:=eY hrow k (by assumption);omega
    ·split at b
     ·have:=eY hmar k (by assumption);omega
     ·exact absurd rfl b
 ·intro k b;unfold lP at b⊢;split
  ·left;assumption
  ·right;split
   ·right;right;rfl
   ·split
    ·left;rfl
    ·split
     ·right;left;rfl
     ·rename_i A r I H;rw[if_neg A,if_neg r,if_neg I,if_neg H]at b;exact absurd rfl b
 ·refine(((((hcW.mono (T:=fun k=>k=g0∨lab k=a∨lab k=a+1∨lab k=0) (fun k _ b=>?_)).trans hcd (fun k _ b=>?_)).trans hde (fun k _ b=>Or.inl b)).trans hef (fun k _ b=>?_)).trans hfg (fun k _ b=>Or.inl b))
  ·rcases b with b|b
   ·exact Or.inl b
   ·exact Or.inr (Or.inr (Or.inr (hvl k b.symm)))
  ·exact Or.inr (Or.inl (hS.rl k b.symm))
  ·exact Or.inr (Or.inr (Or.inl (hS.ml k b.symm)))
theorem aCr:∀(L:List Value) (off k:Nat) (cs:Array Value),off+k+L.length≤cs.size→(L.zipIdx k).foldl (fun (cs:Array Value) (p:Value×Nat)=>cs.setIfInBounds (off+p.2) p.1) cs=(cs.toList.take (off+k)++L++cs.toList.drop (off+k+L.length)).toArray
 |[],off,k,cs,_=>by simp
 |x::L,off,k,cs,h=>by
  rw[List.zipIdx_cons,List.foldl_cons];simp only[bI]at h;have ih:=aCr L off (k+1) (cs.setIfInBounds (off+k) x) (by simp;omega);dsimp only at ih⊢;rw[ih]
  congr 1
  have hlt:off+k<cs.toList.length:=by rw[Array.length_toList];omega
  rw[Array.toList_setIfInBounds,show off+(k+1)=off+k+1 by omega,List.take_add_one,List.drop_set_of_lt (by omega),List.getElem?_set_self (by omega)];rw[List.take_set_of_le (by omega)];simp only[bI,Option.toList,aS,List.cons_append,List.nil_append];rw[show off+k+1+L.length=off+k+(L.length+1) by omega]
def gH(m:Nat)(L:List Value):List Value:=(List.replicate m L).flatten
theorem sQ(m:Nat)(L:List Value):(gH m L).length=m*L.length:=by
 unfold gH;induction m with
 |zero=>simp
 |succ m ih=>rw[List.replicate_succ,List.flatten_cons,aD,ih,Nat.succ_mul];omega
theorem aAn(m:Nat)(L:List Value):gH (m+1) L=gH m L++L:=by
 unfold gH;rw[List.replicate_succ',List.flatten_append];simp
theorem wZ{L:List Value}(h:∀u ∈ L,u.oneCell'=true)(m:Nat):∀u ∈ gH m L,u.oneCell'=true:=fun u hu=>by
 unfold gH at hu;obtain⟨l,hl,hu⟩:=List.mem_flatten.1 hu;rw[(List.mem_replicate.1 hl).2]at hu;exact h u hu
theorem aBN{f:Int→List Value}{x:Int}:∀m,gH m (f x)=cZ f (List.replicate m x)
 |0=>rfl
 |m+1=>by
  rw[aAn,aBN m,List.replicate_succ',sY];simp[cZ]
theorem aAc(L:List Value)(hsz:0<L.length)(cs:Array Value)(M:Nat)(hc:cs.size=M*L.length):∀m k,k+m=M→
 Instr.fill (fun i=>some (i*L.length,L.length)) ((gH k L).toArray++(cs.toList.drop (k*L.length)).toArray) ((List.range' k m).map fun i=>(i,Value.agg L.toArray))=some (gH M L).toArray
 |0,k,h=>by
  have hk:k=M:=by omega
  subst hk;have:cs.toList.drop (k*L.length)=[]:=List.drop_eq_nil_of_le (by rw[Array.length_toList,hc];exact aE _);rw[this];simp[Instr.fill]
 |m+1,k,h=>by
  rw[List.range'_succ,List.map_cons];unfold Instr.fill;dsimp only;have g:k*L.length+L.length≤M*L.length:=by
   have:(k+1)*L.length≤M*L.length:=Nat.mul_le_mul_right _ (by omega);rw[Nat.add_mul]at this;omega
  have a:((gH k L).toArray++(cs.toList.drop (k*L.length)).toArray).size=M*L.length:=by
   simp only[Array.size_append,List.size_toArray,sQ,aV,Array.length_toList,hc];omega
  have b:(Value.agg L.toArray).cells.size=L.length:=by simp[Value.cells]
  rw[if_neg (by rw[b,a];simp;omega)];have d:Array.foldl (fun (cs:Array Value) (x:Value×Nat)=>cs.setIfInBounds (k*L.length+x.2) x.1) ((gH k L).toArray++(cs.toList.drop (k*L.length)).toArray) (Value.agg L.toArray).cells.zipIdx=((gH (k+1) L).toArray++(cs.toList.drop ((k+1)*L.length)).toArray):=by
   rw[←Array.foldl_toList];have e:(Value.agg L.toArray).cells.zipIdx.toList=L.zipIdx 0:=by simp[Value.cells]
   rw[e,aCr L (k*L.length) 0 _ (by rw[a];omega)];have f:((gH k L).toArray++(cs.toList.drop (k*L.length)).toArray).toList=gH k L++cs.toList.drop (k*L.length):=by simp
   rw[f,Nat.add_zero,List.take_left' (sQ k L),←List.drop_drop,List.drop_left' (sQ k L),List.drop_drop,aAn,Nat.add_mul,Nat.one_mul];simp
  have c:=aAc L hsz cs M hc m (k+1) (by omega);rw[←d]at c;exact c
section
variable {P:Program}
theorem tW(w:World)(t e:TypeId)(i:TypeInfo)(z:Value)(L:List Value)(m:Nat)(ht:P.underlying t=some (.slice e))(hi:P.info? e=some i)(hz:i.zero=some z)(hs:i.size=L.length)(hL:0<L.length)(hm:0<m)(hb:m*L.length≤1000000):
 (Instr.buildSlice t m ((List.range' 0 m).map fun i=>(i,Value.agg L.toArray)).toArray).run P w= .ok (.slice (some ⟨w.heap.size,0,none⟩) m m) (w.alloc (.cells (gH m L).toArray e)):=by
 have b:=Nat.mul_pos hm hL;have a:=aAc L hL ((Array.range (m*L.length)).map (fun q=>z.cells[q % z.cells.size]!)) m (by simp) m 0 (by omega);have c:(gH 0 L).toArray++(List.drop (0*L.length) ((Array.range (m*L.length)).map (fun q=>z.cells[q % z.cells.size]!)).toList).toArray=(Array.range (m*L.length)).map (fun q=>z.cells[q % z.cells.size]!):=by
  apply Array.ext';simp[gH]
 rw[c]at a;unfold Instr.buildSlice;simp only[aT,run_underlying ht,Result.andThen_ok,sizeOf,typeInfo,run_program,hi,Sem.run_pure,hs,zeroValue,hz,newRow];rw[if_neg (show¬m*L.length>2 ^ 24 by omega)];simp only[aT,Sem.run_pure,Result.andThen_ok,if_neg (show¬m*L.length=0 by omega),run_program,hi,hz,a,run_newObj_alloc]
theorem qS{ops:Array Oper}{rest:List Oper}{o:Oper}{a:Act}{w:World}{Q:Exit→Act→World→Prop}(hgd:o.guard=none)(t:TypeId)(m:Nat)(parts:List (Nat×Operand))(ho:o.op= .buildSlice t m parts.toArray)
 (e:TypeId) (i:TypeInfo) (z:Value) (L:List Value) (ht:P.underlying t=some (.slice e)) (hi:P.info? e=some i) (hz:i.zero=some z) (hs:i.size=L.length) (hL:0<L.length) (hm:0<m) (hb:m*L.length≤1000000)
 (hp:(parts.map fun (q:Nat×Operand)=>(q.1,a.eval q.2))=((List.range' 0 m).map fun i=>(i,Value.agg L.toArray)))
 (h:wpList P ops Q rest (a.put o.dst (.slice (some ⟨w.heap.size,0,none⟩) m m)) (w.alloc (.cells (gH m L).toArray e))):wpList P ops Q (o::rest) a w:=by
 refine wpList_plain hgd fun K hK=>?_;have b:=tW (P:=P) w t e i z L m ht hi hz hs hL hm hb;rw[←hp]at b;unfold Oper.wp execOp;simp only[ho,List.map_toArray,aT,b,Sem.run_pure,Result.andThen_ok];exact hK _ _ h
end
structure Ea(x:Mo):Prop where
 fr:∀m ∈ x.net,∀i (h:i<x.cls.length) (r n:Int),0≤n→n≤63→m.bal=r*256+n*4+i→n≤x.cls[i].inc∧(n=x.cls[i].inc→x.cls[i].up=true→r≤x.cls[i].round)
 ask:∀m ∈ x.net,m.kind=3∨m.kind=4→∀i (h:i<x.cls.length) o,x.cls[i].doing=some o→m.bal=o.att.bal→o.att.awaited=4
 own:∀i (h:i<x.cls.length) o,x.cls[i].doing=some o→x.cls[i].up=true∧∃r:Int,o.att.bal=r*256+x.cls[i].inc*4+i∧r≤x.cls[i].round
theorem Ea.sub{x x':Mo}(h:Ea x)(hc:x'.cls=x.cls)(hm:∀m ∈ x'.net,∃m0 ∈ x.net,m.bal=m0.bal∧(m.kind=3∨m.kind=4→m0.kind=3∨m0.kind=4)):Ea x':=by
 obtain⟨f,d,cls,net,g⟩:=x';dsimp only at hc hm;subst hc;refine⟨fun m h1 i hi r n n0 n1 e=>?_,fun m h1 k i hi o ho e=>?_,h.own⟩
 ·obtain⟨m0,a,b,_⟩:=hm m h1;exact h.fr m0 a i hi r n n0 n1 (by rw[←b];exact e)
 ·obtain⟨m0,a,b,c⟩:=hm m h1;exact h.ask m0 a (c k) i hi o ho (by rw[←b];exact e)
structure CSt(c c':Ct)(e:List Ev):Prop where
 inc:c.inc≤c'.inc
 rnd:c'.inc=c.inc→c'.up=true→c.up=true∧c.round≤c'.round
 dng:∀o',c'.doing=some o'→c'.up=true∧c'.inc=c.inc∧((∃o,c.doing=some o∧o'.att.bal=o.att.bal∧(o.att.awaited=4→o'.att.awaited=4))∨(o'.att.bal=c'.round*256+c'.inc*4+c'.num∧c.round<c'.round))
 snt:∀m ∈ dJ e,∃o',c'.doing=some o'∧m.bal=o'.att.bal∧(m.kind=3∨m.kind=4→o'.att.awaited=4)
theorem Ea.client{x:Mo}(h:Ea x)(hl:x.cls.length≤4){i:Int}(hi:dT i x.cls.length=true){c':Ct}{e:List Ev}(hs:CSt (clM x i) c' e)(hn:c'.num=i)(h0:0≤c'.inc)(h1:c'.inc≤63):Ea (gC x i c' e):=by
 obtain⟨B,L⟩:=mL hi;obtain⟨P,_⟩:=(dY _ _).1 hi;rw[L]at hs;have z:((i.toNat:Nat):Int)=i:=by omega
 generalize i.toNat=j at*;have l:∀p,c'.doing=some p→∃r:Int,p.att.bal=r*256+c'.inc*4+j∧r≤c'.round:=fun p ho=>by
  obtain⟨u,w,k⟩:=hs.dng p ho;rcases k with⟨o,D,K,_⟩|⟨D,_⟩
  ·obtain⟨_,r,J,T⟩:=h.own j B o D;exact⟨r,by rw[K,J,w],by have:=(hs.rnd w u).2;omega⟩
  ·exact⟨c'.round,by rw[D,hn,z],aL _⟩
 have y:(gC x i c' e).cls=x.cls.set j c':=by unfold gC;dsimp only;rw[show i.toNat=j by omega]
 have t:∀m ∈ (gC x i c' e).net,m ∈ x.net∨m ∈ dJ e:=fun m c=>aO.1 c;have I:(gC x i c' e).cls.length=x.cls.length:=by rw[y];simp
 have s:∀k (hk:k<(gC x i c' e).cls.length),(k=j∧(gC x i c' e).cls[k]=c')∨(k≠j∧∃d:k<x.cls.length,(gC x i c' e).cls[k]=x.cls[k]):=fun k hk=>by
  by_cases f:k=j
  ·left;refine⟨f,?_⟩;subst f;simp[y]
  ·right;exact⟨f,by omega,by simp[y,List.getElem_set_ne (Ne.symm f)]⟩
 refine⟨fun m c k hk r n n0 n1 e1=>?_,fun m c kd k hk o ho e1=>?_,fun k hk o ho=>?_⟩
 ·rcases s k hk with⟨rfl,g⟩|⟨f,d,g⟩<;>rw[g]<;>rcases t m c with c|c
  ·obtain⟨a,b⟩:=h.fr m c k B r n n0 n1 e1;have:=hs.inc;refine⟨by omega,fun ea u=>?_⟩;have w:c'.inc=x.cls[k].inc:=by omega
   obtain⟨M,S⟩:=hs.rnd w u;have:=b (by omega) M;omega
  ·obtain⟨p,v,E,_⟩:=hs.snt m c;obtain⟨G,A,H⟩:=l p v;refine⟨by omega,fun _ _=>by omega⟩
  ·exact h.fr m c k d r n n0 n1 e1
  ·obtain⟨p,v,E,_⟩:=hs.snt m c;obtain⟨G,A,H⟩:=l p v;exfalso;omega
 ·rcases s k hk with⟨rfl,g⟩|⟨f,d,g⟩<;>rw[g]at ho<;>rcases t m c with c|c
  ·obtain⟨u,w,q⟩:=hs.dng o ho;rcases q with⟨N,C,F,O⟩|⟨C,F⟩
   ·exact O (h.ask m c kd k B N C (by rw[e1,F]))
   ·have:=(h.fr m c k B c'.round c'.inc h0 h1 (by rw[e1,C,hn,z])).2 w (hs.rnd w u).1;omega
  ·obtain⟨p,v,E,A⟩:=hs.snt m c;rw[v]at ho;cases ho;exact A kd
  ·exact h.ask m c kd k d o ho e1
  ·obtain⟨p,v,E,_⟩:=hs.snt m c;obtain⟨G,A,H⟩:=l p v;obtain⟨_,R,Q,_⟩:=h.own k d o ho;exfalso;omega
 ·rcases s k hk with⟨rfl,g⟩|⟨f,d,g⟩
  ·rw[g]at ho⊢;obtain⟨r,a,b⟩:=l o ho;exact⟨(hs.dng o ho).1,r,a,b⟩
  ·rw[g]at ho⊢;exact h.own k d o ho
structure CSm(c c1:Ct):Prop where
 num:c1.num=c.num
 inc:c1.inc=c.inc
 up:c1.up=c.up
 rnd:c.round≤c1.round
theorem aJT(c:Ct)(o:On)(res tok:Int)(v:Vl):CSm c (gW c o res tok v)∧(gW c o res tok v).doing=none:=by
 unfold gW kZ oK nP;dsimp only
 (repeat' split)<;>exact⟨⟨rfl,rfl,rfl,aL _⟩,rfl⟩
theorem aIC(c:Ct)(o:On)(res own tok:Int):dJ (rK c o res own tok)=[]:=rfl
section
variable {f:Cf}{c c1:Ct}{o:On}
theorem aAK(hs:CSm c c1)(res own tok:Int)(v:Vl):CSt c (gW c1 o res tok v) (rK c1 o res own tok):=by
 obtain⟨h,a⟩:=aJT c1 o res tok v;exact⟨by rw[h.inc,hs.inc];exact aL _,fun _ u=>⟨by rw[←hs.up,←h.up];exact u,Int.le_trans hs.rnd h.rnd⟩,fun o' ho=>(by rw[a]at ho;cases ho),fun m hm=>(by rw[aIC]at hm;cases hm)⟩
theorem aBM(hs:CSm c c1)(hd:∀o,c1.doing=some o→c1.up=true∧∃o0,c.doing=some o0∧o.att.bal=o0.att.bal∧(o0.att.awaited=4→o.att.awaited=4)):CSt c c1 []:=
 ⟨by rw[hs.inc];exact aL _,fun _ u=>⟨by rw[←hs.up];exact u,hs.rnd⟩,fun o' ho=>⟨(hd o' ho).1,hs.inc,Or.inl (hd o' ho).2⟩,fun m hm=>(by rw[fF]at hm;cases hm)⟩
theorem aAg(hs:CSm c c1)(hu:c1.up=true):CSt c (gE c1 o) (fO f c1 o):=by
 unfold gE fO;by_cases h:1000≤c1.round
 ·rw[if_pos h,if_pos h];exact aAK hs 6 0 0 zVl
 ·rw[if_neg h,if_neg h];refine⟨by show c.inc≤c1.inc;rw[hs.inc];exact aL _,fun _ u=>⟨by rw[←hs.up];exact hu,by have:=hs.rnd;show c.round≤c1.round+1;omega⟩,fun o' ho=>?_,fun m hm=>?_⟩
  ·cases ho;exact⟨hu,hs.inc,Or.inr ⟨rfl,by have:=hs.rnd;show c.round<c1.round+1;omega⟩⟩
  ·rw[sA]at hm;obtain⟨d,_,rfl⟩:=bQ.1 hm;exact⟨_,rfl,rfl,fun h=>by rcases h with h|h<;>cases h⟩
theorem aCx(hs:CSm c c1)(hu:c1.up=true):CSt c (lA f c1 o) (kH f c1 o):=by
 unfold lA kH;split
 ·exact aAg hs hu
 ·exact aAK hs 5 0 0 zVl
theorem aDz(hs:CSm c c1)(hu:c1.up=true){o0:On}(h0:c.doing=some o0)(hb:o.att.bal=o0.att.bal):CSt c (iJ f c1 o) (gZ f c1 o):=by
 unfold iJ gZ;dsimp only;split
 ·exact aAK hs _ _ _ _
 ·refine⟨by show c.inc≤c1.inc;rw[hs.inc];exact aL _,fun _ u=>⟨by rw[←hs.up];exact hu,hs.rnd⟩,fun o' ho=>?_,fun m hm=>?_⟩
  ·cases ho;exact⟨hu,hs.inc,Or.inl ⟨o0,h0,hb,fun _=>rfl⟩⟩
  ·rw[sA]at hm;obtain⟨d,_,rfl⟩:=bQ.1 hm;exact⟨_,rfl,rfl,fun _=>rfl⟩
end
section
variable {f:Cf}{c:Ct}
theorem rS(hup:∀o,c.doing=some o→c.up=true):CSt c c []:=
 aBM ⟨rfl,rfl,rfl,aL _⟩ (fun o ho=>⟨hup o ho,o,ho,rfl,fun h=>h⟩)
theorem aHV(hup:∀o,c.doing=some o→c.up=true)(k l t:Int):CSt c (gU c k l t) (iB f c k l t):=by
 unfold gU iB;by_cases h:jH c≠0
 ·rw[if_pos h,if_pos h];exact rS hup
 ·rw[if_neg h,if_neg h];have b:c.up=true:=by
   cases hc:c.up
   ·exact absurd (show jH c≠0 by unfold jH;rw[if_pos hc];decide) h
   ·rfl
  have a:CSm c (eI {c with doing:=some (newOn c k l t)} k l t):=by
   unfold eI;(repeat' split)<;>exact⟨rfl,rfl,rfl,aL _⟩
  have q:=aAg (f:=f) (o:=newOn c k l t) a (a.up.trans b);exact⟨q.inc,q.rnd,q.dng,fun m hm=>q.snt m hm⟩
theorem aJp(hup:∀o,c.doing=some o→c.up=true):CSt c (lU f c) (oC f c):=by
 unfold lU oC;by_cases h:c.up=false
 ·rw[if_pos h,if_pos h];exact rS hup
 ·rw[if_neg h,if_neg h];have a:c.up=true:=by simpa using h
  have b:CSm c {c with clock:=c.clock+1}:=⟨rfl,rfl,rfl,aL _⟩;have d:CSt c {c with clock:=c.clock+1} []:=aBM b (fun o ho=>⟨a,o,ho,rfl,fun h=>h⟩);obtain⟨l,j,up,clock,e,i,g,k,doing⟩:=c;cases doing with
  |none=>exact d
  |some o=>
   dsimp only at b d a⊢;split
   ·exact aCx b a
   ·exact d
theorem aI7(hup:∀o,c.doing=some o→c.up=true):CSt c (uB c) (uX c):=by
 unfold uB uX;by_cases h:c.up=false
 ·rw[if_pos h,if_pos h];exact rS hup
 ·rw[if_neg h,if_neg h];exact⟨aL _,fun _ u=>(by cases u),fun o ho=>(by cases ho),fun m hm=>(by cases hm)⟩
theorem aFx(hup:∀o,c.doing=some o→c.up=true):CSt c (mT c) (nF c):=by
 unfold mT nF;by_cases h:gS c≠0
 ·rw[if_pos h,if_pos h];exact rS hup
 ·rw[if_neg h,if_neg h];have a:c.up=false:=by
   cases hc:c.up
   ·rfl
   ·exact absurd (show gS c≠0 by unfold gS;rw[if_pos hc];decide) h
  exact⟨by show c.inc≤c.inc+1;omega,fun e _=>(by have:c.inc+1=c.inc:=e;omega),fun o ho=>(by have:=hup o ho;rw[a]at this;cases this),fun m hm=>(by cases hm)⟩
theorem aIs(hup:∀o,c.doing=some o→c.up=true)(m:Mg):CSt c (gQ f c m) (iA f c m):=by
 unfold gQ iA;by_cases h:c.up=false
 ·rw[if_pos h,if_pos h];exact rS hup
 ·rw[if_neg h,if_neg h];have i:c.up=true:=by simpa using h
  have g:=rS hup;cases hd:c.doing with
  |none=>exact g
  |some o=>
   dsimp only;by_cases e:m.bal≠o.att.bal
   ·rw[if_pos e,if_pos e];exact g
   ·rw[if_neg e,if_neg e];by_cases a:m.kind=5
    ·rw[if_pos a,if_pos a];exact aCx (c1:={c with round:=max c.round (m.base / 256)}) ⟨rfl,rfl,rfl,Int.le_max_left _ _⟩ i
    ·rw[if_neg a,if_neg a];by_cases d:m.kind=o.att.awaited
     ·rw[if_pos d,if_pos d];unfold jT jW;by_cases b:o.att.ans.contains m.src=true
      ·rw[if_pos b,if_pos b];exact g
      ·rw[if_neg b,if_neg b];dsimp only;split
       ·exact aBM (c1:={c with doing:=some (heardOn o m)}) ⟨rfl,rfl,rfl,aL _⟩ (fun o' ho=>by cases ho;exact⟨i,o,hd,rfl,fun h=>h⟩)
       ·split
        ·exact aDz (c1:={c with doing:=some (heardOn o m)}) ⟨rfl,rfl,rfl,aL _⟩ i hd rfl
        ·exact aAK ⟨rfl,rfl,rfl,aL _⟩ _ _ _ _
     ·rw[if_neg d,if_neg d];exact g
end
theorem aIb(a:Ac)(m:Mg)(hk:m.kind=1∨m.kind=3):∀m' ∈ dJ (mV a m),m'.bal=m.bal∧(m'.kind=3∨m'.kind=4→m.kind=3):=by
 have c:∀m' ∈ dJ (jD a m).2.1,m'.bal=m.bal∧(m'.kind=3∨m'.kind=4→m.kind=3):=by
  have b:∀m' ∈ dJ [sentEv (mJ a (jX m (qE a m.lock)) m)],m'.bal=m.bal∧(m'.kind=3∨m'.kind=4→m.kind=3):=by
   intro m' h;rw[aDS]at h;simp at h;subst h;refine⟨rfl,fun h=>?_⟩;rcases hk with e|e
   ·exfalso;have h:(jX m (qE a m.lock)).kind=3∨(jX m (qE a m.lock)).kind=4:=h;unfold jX at h;rw[if_pos e]at h;split at h<;>rcases h with h|h<;>cases h
   ·exact e
  unfold jD;dsimp only;split
  ·split
   ·split
    ·exact b
    ·exact b
   ·intro m' h;cases h
  ·exact b
 unfold mV;split
 ·intro m' h;cases h
 ·generalize jD a m=q at c;obtain⟨d,e,w⟩:=q;cases w using nB with
  |dies q=>
   intro m' h;rw[jC,show dJ [eO a.num]=[]from rfl,aC]at h;exact c m' h
  |fine=>exact c
  |full=>exact c
theorem Ea.new(f:Cf):Ea (mC f):=by
 refine⟨fun m h=>(by cases h),fun m h=>(by cases h),fun i h o ho=>?_⟩;have:(mC f).cls[i]=yC i:=by simp[mC]
 rw[this]at ho;cases ho
section
variable {N:Int}{x:Mo}
theorem MoOk.hup(ok:MoOk N x){i:Int}(hi:dT i x.cls.length=true):∀o,(clM x i).doing=some o→(clM x i).up=true:=fun o ho=>by
 cases hu:(clM x i).up
 ·have:=(ok.cl hi).1.dn hu;rw[this]at ho;cases ho
 ·rfl
theorem Ea.go(h:Ea x)(ok:MoOk N x){i:Int}(hi:dT i x.cls.length=true){c':Ct}{e:List Ev}(hs:CSt (clM x i) c' e){M:Int}(ok':MoOk M (gC x i c' e)):Ea (gC x i c' e):=by
 have c:=fJ ok.conf;have:=ok.nc;obtain⟨d,f⟩:=(dY _ _).1 hi;have b:i.toNat<(gC x i c' e).cls.length:=by unfold gC;simp;omega
 have a:=(ok'.cs_ i.toNat b).core;rw[show(gC x i c' e).cls[i.toNat]=c' by simp[gC]]at a;exact h.client (by omega) hi hs (by rw[a.num];omega) a.i1 a.i2
theorem Ea.same{x':Mo}(h:Ea x)(hc:x'.cls=x.cls)(hm:∀m ∈ x'.net,m ∈ x.net):Ea x':=h.sub hc (fun m hm'=>⟨m,hm m hm',rfl,fun h=>h⟩)
theorem aBw(x:Mo)(i:Int):(iR x i).cls=x.cls∧∀m ∈ (iR x i).net,m ∈ x.net:=by
 unfold iR;split
 ·exact⟨rfl,fun m hm=>List.mem_of_mem_eraseIdx hm⟩
 ·exact⟨rfl,fun _ h=>h⟩
theorem Ea.begin(h:Ea x)(ok:MoOk N x)(i k l t:Int):Ea (oW x i k l t):=by
 have a:=ok.begin i k l t;unfold oW at a⊢;split
 ·exact h
 ·rename_i c;have b:dT i x.cls.length=true:=by
   cases b:dT i x.cls.length
   ·exact absurd (by unfold lT;rw[b];rfl) c
   ·rfl
  rw[if_neg c]at a;exact h.go ok b (aHV (ok.hup b) k l _) a
theorem Ea.tick(h:Ea x)(ok:MoOk N x)(i:Int):Ea (sZ x i):=by
 have a:=ok.tick i;unfold sZ at a⊢;split
 ·rename_i b;rw[if_pos b]at a;exact h.go ok b (aJp (ok.hup b)) a
 ·exact h
theorem Ea.lose(h:Ea x)(ok:MoOk N x)(i:Int):Ea (sX x i):=by
 have a:=ok.lose i;unfold sX at a⊢;split
 ·rename_i b;rw[if_pos b]at a;exact h.go ok b (aI7 (ok.hup b)) a
 ·exact h
theorem Ea.return(h:Ea x)(ok:MoOk N x)(i:Int):Ea (mP x i):=by
 have a:=ok.return i;unfold mP at a⊢;split
 ·rename_i b;rw[if_pos b]at a;exact h.go ok b (aFx (ok.hup b)) a
 ·exact h
theorem Ea.copy(h:Ea x)(i:Int):Ea (sM x i):=by
 unfold sM;split
 ·rename_i b;refine h.same rfl (fun m a=>?_);rcases aO.1 a with a|a
  ·exact a
  ·obtain⟨c,e⟩:=rR b;simp at a;rw[a,e];exact bF c
 ·exact h
theorem Ea.acc(h:Ea x)(i:Int)(a:Ac)(e:List Ev)(he:∀m ∈ dJ e,∃m0 ∈ x.net,m.bal=m0.bal∧(m.kind=3∨m.kind=4→m0.kind=3∨m0.kind=4)):Ea (mB x i a e):=
 h.sub rfl (fun m hm=>(aO.1 hm).elim (fun hm=>⟨m,hm,rfl,fun h=>h⟩) (he m))
theorem Ea.fail(h:Ea x)(i n q:Int):Ea (sL x i n q):=by
 unfold sL;split
 ·exact h
 ·refine h.acc _ _ _ (fun m hm=>?_);unfold tP at hm
  (repeat' split at hm)<;>cases hm
theorem Ea.start(h:Ea x)(i:Int):Ea (oR x i):=by
 unfold oR;split
 ·refine h.acc _ _ _ (fun m hm=>?_);unfold nM at hm
  (repeat' split at hm)<;>cases hm
 ·exact h
theorem Ea.deliver(h:Ea x)(ok:MoOk N x)(i:Int):Ea (lH x i):=by
 have a:=ok.deliver i;unfold lH at a⊢;split
 ·rename_i f;rw[if_pos f]at a;obtain⟨o,p⟩:=rR f;have e:jK x i ∈ x.net:=by rw[p];exact bF o
  obtain⟨c,l⟩:=aBw x i;have r:=h.same c l;split
  ·rename_i g;have j:(jK x i).kind=1∨(jK x i).kind=3:=by simpa[hU]using g
   refine h.sub c (fun m b=>?_);rcases aO.1 b with b|b
   ·exact⟨m,l m b,rfl,fun h=>h⟩
   ·obtain⟨n,s⟩:=aIb _ _ j m b;exact⟨_,e,n,fun h=>Or.inl (s h)⟩
  ·rename_i g;rw[if_neg g]at a;have j:¬((jK x i).kind=1∨(jK x i).kind=3):=by simpa[hU]using g
   have t:=(ok.msg f).toC j;have k:=(ok.msg f).d1;have u:=ok.nc;have d:dT (jK x i).dst (iR x i).cls.length=true:=(dY _ _).2 ⟨k,by rw[c];omega⟩;have q:clM (iR x i) (jK x i).dst=clM x (jK x i).dst:=by unfold clM;rw[c]
   refine r.go (ok.drop i) d ?_ a;rw[q];exact aIs (ok.hup (by rw[←c];exact d)) _
 ·exact h
end
end Go.Proofs.YtbbdgokdfhdpiaaGreatDoor
