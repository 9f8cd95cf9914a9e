/- A part. -/
import Derived.Test.YtbbdgokdfhdpiaaGreatDoorA27
namespace Go.Proofs.YtbbdgokdfhdpiaaGreatDoor
set_option linter.all false
set_option maxRecDepth 100000
set_option maxHeartbeats 0
open Go.Proofs.Tryz Go.RowKit
def moN(f:Cf)(k c:Nat):Mo:=⟨f,(List.range k).map (fun (i:Nat)=>xN f i),(List.range c).map (fun (i:Nat)=>yC i),[],[]⟩
section
variable (f:Cf) (k c:Nat)
theorem uN:(moN f k c).acs.length=k:=by simp[moN]
theorem uS:(moN f k c).cls.length=c:=by simp[moN]
theorem aGx{i:Nat}(h:i<(moN f k c).acs.length):(moN f k c).acs[i]=xN f i:=by simp[moN]
theorem aGI{i:Nat}(h:i<(moN f k c).cls.length):(moN f k c).cls[i]=yC i:=by simp[moN]
end
theorem aAN(b:Nat→Nat)(k x:Nat):pO (fun i=>if i=k then x else b i) (k+1)=pO b k++[fG x]:=by
 unfold pO;rw[List.range_succ,bU]
 congr 1
 ·apply List.map_congr_left;intro i a;have:=List.mem_range.1 a;show fG (if i=k then x else b i)=fG (b i);rw[if_neg (by omega)]
 ·simp
def fT(W0 W1:World)(own:Nat→Nat)(p:Nat)(row:Option Nat):Nat→Nat:=fun q=>if q<W0.heap.size then own q else if q<W1.heap.size then p else if row=some q then 2 else 0
section
variable {W0 W1 W2 W3:World} {own:Nat→Nat} {g:Nat} {f:Cf} {k c b:Nat} {av cv v':Value} {bA bC:Nat→Nat}
theorem aKk(h:MoAt W0 own g (moN f k c) av cv bA bC)
 (hA:Acc W1 (fun q=>W0.heap.size≤q∧q<W1.heap.size) b g (xN f k)) (h01:Chg NoS W0 W1) (h12:Chg NoS W1 W2) (h23:W2.grownBy W3 av.ownBlock)
 (hrow:W3.ownsRow 0 114 1 v' (k+1) (pO bA k++[fG b])) (hat:v'.ownBlock=av.ownBlock∨∃q,v'.ownBlock=some q∧W2.heap.size≤q∧q<W3.heap.size):
 ∃own',MoAt (W3.setCell ⟨g,0,none⟩ v') own' g (moN f (k+1) c) v' cv (fun i=>if i=k then b else bA i) bC∧(∀q,own' q≠0→own q≠0∨W0.heap.size≤q)∧Chg (fun q=>own q≠0) W0 (W3.setCell ⟨g,0,none⟩ v'):=by
 obtain⟨nv,Y,w,x,z,C,E,A⟩:=h.cells;have S:=h01.size;have Q:=h12.size;have R:=h23.size;have a0:=dG w;have j:=h.avb;have s:=((h01.mono (T:=fun q=>some q=av.ownBlock) (fun _ _ h=>h.elim)).trans h12 (fun _ _ h=>h.elim)).trans (Chg.of_grown h23) (fun _ _ h=>h);have M:=s.kept w (fun e=>by have:=j g e.symm;omega);have o:=cY W3 g 0 v';have L:=dD M 0 v';have d:=(s.mono (T:=fun q=>some q=av.ownBlock∨q=g) (fun _ _ h=>Or.inl h)).trans o (fun _ _ h=>Or.inr h);have U:(W3.setCell ⟨g,0,none⟩ v').heap.size=W3.heap.size:=by simp
 generalize W3.setCell ⟨g,0,none⟩ v'=W4 at*;have H:=((h12.mono (T:=fun q=>some q=av.ownBlock∨q=g) (fun _ _ h=>h.elim)).trans (Chg.of_grown h23) (fun _ _ h=>Or.inl h)).trans o (fun _ _ h=>Or.inr h);have O:∀q,v'.ownBlock=some q→q≠g:=fun q a e=>by
  rcases hat with l|⟨P,l,y,_⟩
  ·rw[l]at a;have I:=j q a;rw[e]at I;omega
  ·rw[l]at a;cases a;omega
 have n:∀q,q<W0.heap.size→fT W0 W1 own (3+2*k) v'.ownBlock q=own q:=fun q a=>by unfold fT;rw[if_pos a]
 have F:∀q,W0.heap.size≤q→q<W1.heap.size→fT W0 W1 own (3+2*k) v'.ownBlock q=(3+2*k):=fun q a u=>by unfold fT;rw[if_neg (by omega),if_pos u]
 have v2:∀q,v'.ownBlock=some q→fT W0 W1 own (3+2*k) v'.ownBlock q=2:=fun q a=>by
  rcases hat with l|⟨P,l,y,_⟩
  ·rw[l]at a;have e:=j q a;have r:=h.lt q (by omega);rw[n q r];exact e
  ·rw[l]at a;cases a;unfold fT;rw[if_neg (by omega),if_neg (by omega),if_pos l]
 have G:∀q,W0.heap.size≤q→fT W0 W1 own (3+2*k) v'.ownBlock q=(3+2*k)∨fT W0 W1 own (3+2*k) v'.ownBlock q=2∨fT W0 W1 own (3+2*k) v'.ownBlock q=0:=fun q a=>by
  unfold fT;rw[if_neg (by omega)];split
  ·exact Or.inl rfl
  ·split
   ·exact Or.inr (Or.inl rfl)
   ·exact Or.inr (Or.inr rfl)
 have m:∀p,p≠0→p≠2→p≠(3+2*k)→∀q,fT W0 W1 own (3+2*k) v'.ownBlock q=p↔own q=p:=fun p h0 I hp q=>by
  by_cases a:q<W0.heap.size
  ·rw[n q a]
  ·constructor
   ·intro e;rcases G q (by omega)with l|l|l<;>omega
   ·intro e;exact absurd (h.lt q (by omega)) a
 have r:∀q,fT W0 W1 own (3+2*k) v'.ownBlock q≠0→q<W4.heap.size:=fun q a=>by
  unfold fT at a;split at a
  ·omega
  ·split at a
   ·omega
   ·split at a
    ·rename_i e;rcases hat with l|⟨P,l,y,h3⟩
     ·rw[l]at e;have:=h.lt q (by rw[j q e];decide);omega
     ·rw[l]at e;cases e;omega
    ·exact absurd rfl a
 refine⟨fT W0 W1 own (3+2*k) v'.ownBlock,?_,fun q a=>?_,d.mono (fun q _ a=>?_)⟩
 ·have t:∀p,p≠0→p≠1→p≠2→∀q,own q=p→¬(some q=av.ownBlock∨q=g):=fun p h0 h1 I q a e=>by
   rcases e with e|e
   ·have:=j q e.symm;omega
   ·rw[e]at a;omega
  refine⟨?_,?_,?_,?_,?_,?_,?_,r⟩
  ·have e:=funext fun q=>propext (m 1 (by decide) (by decide) (by omega) q);rw[e];refine⟨nv,Y,by simpa using L,A,?_,?_,C,E,fun q a=>by have:=h.lt q (by omega);omega⟩
   ·exact d.row x (fun q a e=>by
     rcases e with e|e
     ·have:=j q e.symm;have:=C q a;omega
     ·exact fN x w (by decide) q a e)
   ·exact d.row z (fun q a e=>by
     rcases e with e|e
     ·have:=j q e.symm;have:=E q a;omega
     ·exact fN z w (by decide) q a e)
  ·rw[uN,aAN];exact o.row hrow (fun q a e=>O q a e)
  ·have:=d.row h.rcv (fun q a e=>by
    rcases e with e|e
    ·exact nS h.rcv h.rav (by decide) q a e.symm
    ·exact fN h.rcv w (by decide) q a e)
   simpa[uS]using this
  ·exact v2
  ·exact fun q a=>by rw[n q (h.lt q (by rw[h.cvb q a];decide))];exact h.cvb q a
  ·intro i J;have N:i<(k+1):=by simpa[uN]using J
   rw[aGx];by_cases B:i=k
   ·subst B;rw[if_pos rfl];have K:=hA.kept H (fun q a e=>by
     rcases e with e|e
     ·have:=h.lt q (by rw[j q e.symm];decide);omega
     ·omega)
    exact K.grow (fun q a=>F q a.1 a.2) (fun q a=>r q (by omega))
   ·rw[if_neg B];have v:i<(moN f k c).acs.length:=by rw[uN];omega
    have e:(fun q=>fT W0 W1 own (3+2*k) v'.ownBlock q=3+2*i)=(fun q=>own q=3+2*i):=funext fun q=>propext (m _ (by omega) (by omega) (by omega) q);rw[e];have:=h.acc i v;rw[aGx]at this;exact this.kept d (fun q a=>t _ (by omega) (by omega) (by omega) q a)
  ·intro i J;have N:i<c:=by simpa[uS]using J
   rw[aGI];have v:i<(moN f k c).cls.length:=by rw[uS];omega
   have e:(fun q=>fT W0 W1 own (3+2*k) v'.ownBlock q=4+2*i)=(fun q=>own q=4+2*i):=funext fun q=>propext (m _ (by omega) (by omega) (by omega) q);rw[e];obtain⟨W,Z,V,wt,X,D⟩:=h.cls i v;rw[aGI]at D;exact⟨W,Z,V,wt,X,D.kept d (fun q a=>t _ (by omega) (by omega) (by omega) q a)⟩
 ·by_cases u:q<W0.heap.size
  ·rw[n q u]at a;exact Or.inl a
  ·exact Or.inr (by omega)
 ·rcases a with a|a
  ·rw[j q a.symm];decide
  ·rw[a,A];decide
theorem aKn(h:MoAt W0 own g (moN f k c) av cv bA bC)
 (hA:∃ch tk hd wt dv,ClAt W1 (fun q=>W0.heap.size≤q∧q<W1.heap.size) b g f (yC c) ch tk hd wt dv) (h01:Chg NoS W0 W1) (h12:Chg NoS W1 W2) (h23:W2.grownBy W3 cv.ownBlock)
 (hrow:W3.ownsRow 0 96 1 v' (c+1) (pO bC c++[fG b])) (hat:v'.ownBlock=cv.ownBlock∨∃q,v'.ownBlock=some q∧W2.heap.size≤q∧q<W3.heap.size):
 ∃own',MoAt (W3.setCell ⟨g,1,none⟩ v') own' g (moN f k (c+1)) av v' bA (fun i=>if i=c then b else bC i)∧(∀q,own' q≠0→own q≠0∨W0.heap.size≤q)∧Chg (fun q=>own q≠0) W0 (W3.setCell ⟨g,1,none⟩ v'):=by
 obtain⟨W,V,x,y,A,D,E,B⟩:=h.cells;have S:=h01.size;have Q:=h12.size;have R:=h23.size;have Y:=dG x;have j:=h.cvb;have t:=((h01.mono (T:=fun q=>some q=cv.ownBlock) (fun _ _ h=>h.elim)).trans h12 (fun _ _ h=>h.elim)).trans (Chg.of_grown h23) (fun _ _ h=>h);have M:=t.kept x (fun e=>by have:=j g e.symm;omega);have o:=cY W3 g 1 v';have L:=dD M 1 v';have d:=(t.mono (T:=fun q=>some q=cv.ownBlock∨q=g) (fun _ _ h=>Or.inl h)).trans o (fun _ _ h=>Or.inr h);have U:(W3.setCell ⟨g,1,none⟩ v').heap.size=W3.heap.size:=by simp
 generalize W3.setCell ⟨g,1,none⟩ v'=W4 at*;have H:=((h12.mono (T:=fun q=>some q=cv.ownBlock∨q=g) (fun _ _ h=>h.elim)).trans (Chg.of_grown h23) (fun _ _ h=>Or.inl h)).trans o (fun _ _ h=>Or.inr h);have O:∀q,v'.ownBlock=some q→q≠g:=fun q a e=>by
  rcases hat with l|⟨P,l,z,_⟩
  ·rw[l]at a;have I:=j q a;rw[e]at I;omega
  ·rw[l]at a;cases a;omega
 have n:∀q,q<W0.heap.size→fT W0 W1 own (4+2*c) v'.ownBlock q=own q:=fun q a=>by unfold fT;rw[if_pos a]
 have F:∀q,W0.heap.size≤q→q<W1.heap.size→fT W0 W1 own (4+2*c) v'.ownBlock q=(4+2*c):=fun q a v=>by unfold fT;rw[if_neg (by omega),if_pos v]
 have X:∀q,v'.ownBlock=some q→fT W0 W1 own (4+2*c) v'.ownBlock q=2:=fun q a=>by
  rcases hat with l|⟨P,l,z,_⟩
  ·rw[l]at a;have e:=j q a;have r:=h.lt q (by omega);rw[n q r];exact e
  ·rw[l]at a;cases a;unfold fT;rw[if_neg (by omega),if_neg (by omega),if_pos l]
 have G:∀q,W0.heap.size≤q→fT W0 W1 own (4+2*c) v'.ownBlock q=(4+2*c)∨fT W0 W1 own (4+2*c) v'.ownBlock q=2∨fT W0 W1 own (4+2*c) v'.ownBlock q=0:=fun q a=>by
  unfold fT;rw[if_neg (by omega)];split
  ·exact Or.inl rfl
  ·split
   ·exact Or.inr (Or.inl rfl)
   ·exact Or.inr (Or.inr rfl)
 have m:∀p,p≠0→p≠2→p≠(4+2*c)→∀q,fT W0 W1 own (4+2*c) v'.ownBlock q=p↔own q=p:=fun p h0 I hp q=>by
  by_cases a:q<W0.heap.size
  ·rw[n q a]
  ·constructor
   ·intro e;rcases G q (by omega)with l|l|l<;>omega
   ·intro e;exact absurd (h.lt q (by omega)) a
 have r:∀q,fT W0 W1 own (4+2*c) v'.ownBlock q≠0→q<W4.heap.size:=fun q a=>by
  unfold fT at a;split at a
  ·omega
  ·split at a
   ·omega
   ·split at a
    ·rename_i e;rcases hat with l|⟨P,l,z,Z⟩
     ·rw[l]at e;have:=h.lt q (by rw[j q e];decide);omega
     ·rw[l]at e;cases e;omega
    ·exact absurd rfl a
 refine⟨fT W0 W1 own (4+2*c) v'.ownBlock,?_,fun q a=>?_,d.mono (fun q _ a=>?_)⟩
 ·have u:∀p,p≠0→p≠1→p≠2→∀q,own q=p→¬(some q=cv.ownBlock∨q=g):=fun p h0 h1 I q a e=>by
   rcases e with e|e
   ·have:=j q e.symm;omega
   ·rw[e]at a;omega
  refine⟨?_,?_,?_,?_,?_,?_,?_,r⟩
  ·have e:=funext fun q=>propext (m 1 (by decide) (by decide) (by omega) q);rw[e];refine⟨W,V,by simpa using L,B,?_,?_,D,E,fun q a=>by have:=h.lt q (by omega);omega⟩
   ·exact d.row y (fun q a e=>by
     rcases e with e|e
     ·have:=j q e.symm;have:=D q a;omega
     ·exact fN y x (by decide) q a e)
   ·exact d.row A (fun q a e=>by
     rcases e with e|e
     ·have:=j q e.symm;have:=E q a;omega
     ·exact fN A x (by decide) q a e)
  ·have:=d.row h.rav (fun q a e=>by
    rcases e with e|e
    ·exact nS h.rav h.rcv (by decide) q a e.symm
    ·exact fN h.rav x (by decide) q a e)
   simpa[uN]using this
  ·rw[uS,aAN];exact o.row hrow (fun q a e=>O q a e)
  ·exact fun q a=>by rw[n q (h.lt q (by rw[h.avb q a];decide))];exact h.avb q a
  ·exact X
  ·intro i J;have N:i<k:=by simpa[uN]using J
   rw[aGx];have w:i<(moN f k c).acs.length:=by rw[uN];omega
   have e:(fun q=>fT W0 W1 own (4+2*c) v'.ownBlock q=3+2*i)=(fun q=>own q=3+2*i):=funext fun q=>propext (m _ (by omega) (by omega) (by omega) q);rw[e];have:=h.acc i w;rw[aGx]at this;exact this.kept d (fun q a=>u _ (by omega) (by omega) (by omega) q a)
  ·intro i J;have N:i<(c+1):=by simpa[uS]using J
   rw[aGI];by_cases C:i=c
   ·subst C;rw[if_pos rfl];obtain⟨ch,tk,hd,wt,dv,s⟩:=hA;have K:=s.kept H (fun q a e=>by
     rcases e with e|e
     ·have:=h.lt q (by rw[j q e.symm];decide);omega
     ·omega)
    exact⟨ch,tk,hd,wt,dv,K.grow (fun q a=>F q a.1 a.2) (fun q a=>r q (by omega))⟩
   ·rw[if_neg C];have w:i<(moN f k c).cls.length:=by rw[uS];omega
    have e:(fun q=>fT W0 W1 own (4+2*c) v'.ownBlock q=4+2*i)=(fun q=>own q=4+2*i):=funext fun q=>propext (m _ (by omega) (by omega) (by omega) q);rw[e];obtain⟨ch,tk,hd,wt,dv,s⟩:=h.cls i w;rw[aGI]at s;exact⟨ch,tk,hd,wt,dv,s.kept d (fun q a=>u _ (by omega) (by omega) (by omega) q a)⟩
 ·by_cases v:q<W0.heap.size
  ·rw[n q v]at a;exact Or.inl a
  ·exact Or.inr (by omega)
 ·rcases a with a|a
  ·rw[j q a.symm];decide
  ·rw[a,B];decide
end
abbrev cgL(f:Cf):List Value:=[.int .i64 f.f,.int .i64 f.clients,.int .i64 f.patience,.int .i64 f.tries,.int .i64 f.drift,.int .i64 f.compact,.int .i64 f.room]
abbrev cgV(f:Cf):Value:=.agg #[.int .i64 f.f,.int .i64 f.clients,.int .i64 f.patience,.int .i64 f.tries,.int .i64 f.drift,.int .i64 f.compact,.int .i64 f.room]
structure Four(W A:World)(c t h k:Bool)(xc xt xh xk:Nat):Prop where
 chg:Chg NoS W A
 oc:c=true→A.heap[xc]?=some (.chan 0 #[] false 0 0 false)∧W.heap.size≤xc
 ot:t=true→A.heap[xt]?=some (.map #[] 0)∧W.heap.size≤xt
 oh:h=true→A.heap[xh]?=some (.map #[] 0)∧W.heap.size≤xh
 ok:k=true→A.heap[xk]?=some (.map #[] 0)∧W.heap.size≤xk
 th:t=true→h=true→xt≠xh
 tk:t=true→k=true→xt≠xk
 hk:h=true→k=true→xh≠xk
theorem Four.drew{W A:World}{c t h k:Bool}{xc xt xh xk:Nat}(q:Four W A c t h k xc xt xh xk):Four W A.drew c t h k xc xt xh xk:=⟨q.chg.drew,q.oc,q.ot,q.oh,q.ok,q.th,q.tk,q.hk⟩
theorem Four.begin(W:World):Four W W false false false false 0 0 0 0:=⟨Chg.refl _ _,by simp,by simp,by simp,by simp,by simp,by simp,by simp⟩
section
variable {W A:World}{c t h k:Bool}{xc xt xh xk:Nat}
theorem Four.addC(q:Four W A false t h k xc xt xh xk):Four W (A.alloc (.chan 0 #[] false 0 0 false)) true t h k A.heap.size xt xh xk:=
 ⟨q.chg.alloc _,fun _=>⟨aA A _,q.chg.size⟩,fun e=>⟨dM _ (q.ot e).1,(q.ot e).2⟩,fun e=>⟨dM _ (q.oh e).1,(q.oh e).2⟩,fun e=>⟨dM _ (q.ok e).1,(q.ok e).2⟩,q.th,q.tk,q.hk⟩
theorem Four.addT(q:Four W A c false h k xc xt xh xk):Four W (A.alloc (.map #[] 0)) c true h k xc A.heap.size xh xk:=
 ⟨q.chg.alloc _,fun e=>⟨dM _ (q.oc e).1,(q.oc e).2⟩,fun _=>⟨aA A _,q.chg.size⟩,fun e=>⟨dM _ (q.oh e).1,(q.oh e).2⟩,fun e=>⟨dM _ (q.ok e).1,(q.ok e).2⟩,fun _ e=>by have:=dG (q.oh e).1;omega,fun _ e=>by have:=dG (q.ok e).1;omega,q.hk⟩
theorem Four.addH(q:Four W A c t false k xc xt xh xk):Four W (A.alloc (.map #[] 0)) c t true k xc xt A.heap.size xk:=
 ⟨q.chg.alloc _,fun e=>⟨dM _ (q.oc e).1,(q.oc e).2⟩,fun e=>⟨dM _ (q.ot e).1,(q.ot e).2⟩,fun _=>⟨aA A _,q.chg.size⟩,fun e=>⟨dM _ (q.ok e).1,(q.ok e).2⟩,fun e _=>by have:=dG (q.ot e).1;omega,q.tk,fun _ e=>by have:=dG (q.ok e).1;omega⟩
theorem Four.addK(q:Four W A c t h false xc xt xh xk):Four W (A.alloc (.map #[] 0)) c t h true xc xt xh A.heap.size:=
 ⟨q.chg.alloc _,fun e=>⟨dM _ (q.oc e).1,(q.oc e).2⟩,fun e=>⟨dM _ (q.ot e).1,(q.ot e).2⟩,fun e=>⟨dM _ (q.oh e).1,(q.oh e).2⟩,fun _=>⟨aA A _,q.chg.size⟩,q.th,fun e _=>by have:=dG (q.ot e).1;omega,fun e _=>by have:=dG (q.oh e).1;omega⟩
end
theorem aIu{W A:World}{ch tk hd wt:Nat}(q:Four W A true true true true ch tk hd wt)(f:Cf)(num:Int)(g:Nat):
 ClAt (A.alloc (.cells (clL f (yC num) ch tk hd wt g (.pointer none)).toArray 150)) (fun q=>W.heap.size≤q∧q<A.heap.size+1) A.heap.size g f (yC num) ch tk hd wt (.pointer none):=by
 have k:∀{x:Nat} {o:Obj},A.heap[x]?=some o→(A.alloc (.cells (clL f (yC num) ch tk hd wt g (.pointer none)).toArray 150)).heap[x]?=some o:=fun hx=>dM _ hx;have l:∀{x:Nat} {o:Obj},A.heap[x]?=some o→x<A.heap.size+1:=fun hx=>by have:=dG hx;omega
 have m:=q.chg.size;obtain⟨d,e⟩:=q.oc rfl;obtain⟨b,h⟩:=q.ot rfl;obtain⟨c,j⟩:=q.oh rfl;obtain⟨a,i⟩:=q.ok rfl;refine⟨aA A _,⟨m,by omega⟩,k d,⟨e,l d⟩,⟨⟨_,_,⟨[],0,k b,by simp,rfl,fun _=>rfl⟩,fun _=>rfl⟩,⟨_,_,⟨[],0,k c,by simp,rfl,fun _=>rfl⟩,fun _=>rfl⟩,⟨_,_,⟨[],0,k a,by simp,rfl,fun _=>rfl⟩,fun _=>rfl⟩,q.th rfl rfl,q.tk rfl rfl,q.hk rfl rfl,⟨h,l b⟩,⟨j,l c⟩,⟨i,l a⟩⟩,rfl,fun x hx=>by have:=hx.2;simp;omega⟩
theorem aH5(W:World)(f:Cf)(num:Int)(g:Nat):
 Calls prog 78 #[cgV f,.int .i64 num,yW g] W fun r W'=>∃b ch tk hd wt,r= .returned (.pointer (some ⟨b,0,none⟩))∧ClAt W' (fun q=>W.heap.size≤q∧q<W'.heap.size) b g f (yC num) ch tk hd wt (.pointer none)∧Chg NoS W W':=by
 have E:=aA W (.cells #[.int .i64 f.f,.int .i64 f.clients,.int .i64 f.patience,.int .i64 f.tries,.int .i64 f.drift,.int .i64 f.compact,.int .i64 f.room] 30);have B:Chg NoS W (W.alloc (.cells #[.int .i64 f.f,.int .i64 f.clients,.int .i64 f.patience,.int .i64 f.tries,.int .i64 f.drift,.int .i64 f.compact,.int .i64 f.room] 30)):=(Chg.refl _ _).alloc _;go_enter func78,ntmps78;go_wp2_with fail;generalize W.alloc (.cells #[.int .i64 f.f,.int .i64 f.clients,.int .i64 f.patience,.int .i64 f.tries,.int .i64 f.drift,.int .i64 f.compact,.int .i64 f.room] 30)=W0 at*;refine pW [(1,0),(0,1),(0,3)] 7 (fun x=>∀j y,(cgL f)[j]?=some y→x.cell? ((⟨W.heap.size,0,none⟩:Addr).add j)=some y) (by kernel_rfl) (by kernel_rfl) (fun _ _ d _ _ h=>by cases d<;>exact h) ?_ ?_
 ·exact cR (W:=W0.drew) E
 simp only[kC,cM,cL];refine dA (v:=cgV f) rfl (fun x hx=>cU 30 _ rfl ⟨W.heap.size,0,none⟩ rfl (cgL f) _ hx underlying30 rfl (by kernel_rfl)) ?_;refine oZ (v:=?_) rfl ?_ ?_;rotate_left 1;(·(intro x;go_simp;with_reducible rfl));refine oZ (v:=?_) rfl ?_ ?_;rotate_left 1;(·(intro x;go_simp;with_reducible rfl));refine cP ?_;(try simp only[pA]);have u:Hid (∀x,Chg NoS W0 x→∀j y,(cgL f)[j]?=some y→x.cell? ((⟨W.heap.size,0,none⟩:Addr).add j)=some y):=fun x hx=>cR (hx.kept E (fun h=>h));have D:=cN B;clear E B;obtain⟨I,i⟩:∃I:Nat→Array Bool→Act→World→Prop,Hid (∀n s a w,I n s a w↔∃(c t h k:Bool) (l o m p:Nat),n=(!c).toNat+(!t).toNat+(!h).toNat+(!k).toNat∧s=#[true,true,c,true,t,h,k,false,false,false]∧
  a={tmps:=#[cgV f,.int .i64 num,yW g,.pointer (some ⟨W.heap.size,0,none⟩),undef,undef,.pointer none,cgV f,.int .i64 num,cond c (.chan (some l)) undef,yW g,cond t (.map (some o)) undef,cond h (.map (some m)) undef,cond k (.map (some p)) undef,undef,undef],defers:=[]}∧Four W0 w c t h k l o m p):=⟨_,fun _ _ _ _=>Iff.rfl⟩
 refine aBB 3 I ?_ ?_ ?_ 4 _ _ _ ?_
 ·intro n s a w A;obtain⟨c,t,h,k,l,o,m,p,e,rfl,rfl,q⟩:=(i.out _ _ _ _).1 A;exact u.out w q.chg
 ·intro s a w A;obtain⟨c,t,h,k,l,o,m,p,e,rfl,rfl,q⟩:=(i.out _ _ _ _).1 A;clear A;obtain⟨rfl,rfl,rfl,rfl⟩:c=true∧t=true∧h=true∧k=true:=by cases c<;>cases t<;>cases h<;>cases k<;>first|exact⟨rfl,rfl,rfl,rfl⟩|exact absurd e (by decide)
  simp only[cond_true];have Q:=cN q;clear q e;refine dQ [7] (by kernel_rfl) (by simp) (aB.2 ⟨?_,by simp⟩);intro C z;refine dK rfl rfl ?_;go_simp;refine z _ _ (u.out _ Q.out.chg) ?_;clear z C;(try simp only[pA]);refine dQ [8] (by kernel_rfl) (by simp) (aB.2 ⟨?_,by simp⟩);intro C z;refine dK rfl rfl ?_;go_simp;refine z _ _ (u.out _ (Q.out.chg.alloc _)) ?_;clear z C;(try simp only[pA]);refine dQ [9] (by kernel_rfl) (by simp) (aB.2 ⟨?_,by simp⟩);intro C z;refine dK rfl rfl ?_;go_simp;refine z _ _ (u.out _ (Q.out.chg.alloc _)) ?_;clear z C;(try simp only[pA]);refine qQ (by kernel_rfl) ?_;go_wp2_with fail;go_ret;have F:=aIu Q.out f num g;refine⟨w.heap.size,l,o,m,p,rfl,?_,(D.out.trans (S:=NoS) Q.out.chg (fun _ _ h=>h)).alloc _⟩;have G:=D.out.size;have:=ClAt.grow F (F':=fun q=>W.heap.size≤q∧q<(w.alloc (.cells (clL f (yC num) l o m p g (.pointer none)).toArray 150)).heap.size) (fun q hq=>⟨by omega,by simp;omega⟩) (fun q hq=>hq.2);exact this
 ·intro n s a w A;obtain⟨c,t,h,k,l,o,m,p,e,rfl,rfl,q⟩:=(i.out _ _ _ _).1 A;have Q:=cN q;clear q A;cases c<;>cases t<;>cases h<;>cases k
  ·refine⟨[2,4,5,6],by kernel_rfl,by simp,?_⟩;simp only[cond_true,cond_false];refine aB.2 ⟨?_,aB.2 ⟨?_,aB.2 ⟨?_,aB.2 ⟨?_,by simp⟩⟩⟩⟩
   ·refine dK rfl rfl ?_;go_simp;rw[iW];go_simp;exact(i.out _ _ _ _).2 ⟨true,false,false,false,w.heap.size,o,m,p,aX e,rfl,rfl,Q.out.addC⟩
   ·refine dK rfl rfl ?_;go_simp;exact(i.out _ _ _ _).2 ⟨false,true,false,false,l,w.heap.size,m,p,aX e,rfl,rfl,Q.out.addT⟩
   ·refine dK rfl rfl ?_;go_simp;exact(i.out _ _ _ _).2 ⟨false,false,true,false,l,o,w.heap.size,p,aX e,rfl,rfl,Q.out.addH⟩
   ·refine dK rfl rfl ?_;go_simp;exact(i.out _ _ _ _).2 ⟨false,false,false,true,l,o,m,w.heap.size,aX e,rfl,rfl,Q.out.addK⟩
  ·refine⟨[2,4,5],by kernel_rfl,by simp,?_⟩;simp only[cond_true,cond_false];refine aB.2 ⟨?_,aB.2 ⟨?_,aB.2 ⟨?_,by simp⟩⟩⟩
   ·refine dK rfl rfl ?_;go_simp;rw[iW];go_simp;exact(i.out _ _ _ _).2 ⟨true,false,false,true,w.heap.size,o,m,p,aX e,rfl,rfl,Q.out.addC⟩
   ·refine dK rfl rfl ?_;go_simp;exact(i.out _ _ _ _).2 ⟨false,true,false,true,l,w.heap.size,m,p,aX e,rfl,rfl,Q.out.addT⟩
   ·refine dK rfl rfl ?_;go_simp;exact(i.out _ _ _ _).2 ⟨false,false,true,true,l,o,w.heap.size,p,aX e,rfl,rfl,Q.out.addH⟩
  ·refine⟨[2,4,6],by kernel_rfl,by simp,?_⟩;simp only[cond_true,cond_false];refine aB.2 ⟨?_,aB.2 ⟨?_,aB.2 ⟨?_,by simp⟩⟩⟩
   ·refine dK rfl rfl ?_;go_simp;rw[iW];go_simp;exact(i.out _ _ _ _).2 ⟨true,false,true,false,w.heap.size,o,m,p,aX e,rfl,rfl,Q.out.addC⟩
   ·refine dK rfl rfl ?_;go_simp;exact(i.out _ _ _ _).2 ⟨false,true,true,false,l,w.heap.size,m,p,aX e,rfl,rfl,Q.out.addT⟩
   ·refine dK rfl rfl ?_;go_simp;exact(i.out _ _ _ _).2 ⟨false,false,true,true,l,o,m,w.heap.size,aX e,rfl,rfl,Q.out.addK⟩
  ·refine⟨[2,4],by kernel_rfl,by simp,?_⟩;simp only[cond_true,cond_false];refine aB.2 ⟨?_,aB.2 ⟨?_,by simp⟩⟩
   ·refine dK rfl rfl ?_;go_simp;rw[iW];go_simp;exact(i.out _ _ _ _).2 ⟨true,false,true,true,w.heap.size,o,m,p,aX e,rfl,rfl,Q.out.addC⟩
   ·refine dK rfl rfl ?_;go_simp;exact(i.out _ _ _ _).2 ⟨false,true,true,true,l,w.heap.size,m,p,aX e,rfl,rfl,Q.out.addT⟩
  ·refine⟨[2,5,6],by kernel_rfl,by simp,?_⟩;simp only[cond_true,cond_false];refine aB.2 ⟨?_,aB.2 ⟨?_,aB.2 ⟨?_,by simp⟩⟩⟩
   ·refine dK rfl rfl ?_;go_simp;rw[iW];go_simp;exact(i.out _ _ _ _).2 ⟨true,true,false,false,w.heap.size,o,m,p,aX e,rfl,rfl,Q.out.addC⟩
   ·refine dK rfl rfl ?_;go_simp;exact(i.out _ _ _ _).2 ⟨false,true,true,false,l,o,w.heap.size,p,aX e,rfl,rfl,Q.out.addH⟩
   ·refine dK rfl rfl ?_;go_simp;exact(i.out _ _ _ _).2 ⟨false,true,false,true,l,o,m,w.heap.size,aX e,rfl,rfl,Q.out.addK⟩
  ·refine⟨[2,5],by kernel_rfl,by simp,?_⟩;simp only[cond_true,cond_false];refine aB.2 ⟨?_,aB.2 ⟨?_,by simp⟩⟩
   ·refine dK rfl rfl ?_;go_simp;rw[iW];go_simp;exact(i.out _ _ _ _).2 ⟨true,true,false,true,w.heap.size,o,m,p,aX e,rfl,rfl,Q.out.addC⟩
   ·refine dK rfl rfl ?_;go_simp;exact(i.out _ _ _ _).2 ⟨false,true,true,true,l,o,w.heap.size,p,aX e,rfl,rfl,Q.out.addH⟩
  ·refine⟨[2,6],by kernel_rfl,by simp,?_⟩;simp only[cond_true,cond_false];refine aB.2 ⟨?_,aB.2 ⟨?_,by simp⟩⟩
   ·refine dK rfl rfl ?_;go_simp;rw[iW];go_simp;exact(i.out _ _ _ _).2 ⟨true,true,true,false,w.heap.size,o,m,p,aX e,rfl,rfl,Q.out.addC⟩
   ·refine dK rfl rfl ?_;go_simp;exact(i.out _ _ _ _).2 ⟨false,true,true,true,l,o,m,w.heap.size,aX e,rfl,rfl,Q.out.addK⟩
  ·refine⟨[2],by kernel_rfl,by simp,?_⟩;simp only[cond_true,cond_false];refine aB.2 ⟨?_,by simp⟩
   ·refine dK rfl rfl ?_;go_simp;rw[iW];go_simp;exact(i.out _ _ _ _).2 ⟨true,true,true,true,w.heap.size,o,m,p,aX e,rfl,rfl,Q.out.addC⟩
  ·refine⟨[4,5,6],by kernel_rfl,by simp,?_⟩;simp only[cond_true,cond_false];refine aB.2 ⟨?_,aB.2 ⟨?_,aB.2 ⟨?_,by simp⟩⟩⟩
   ·refine dK rfl rfl ?_;go_simp;exact(i.out _ _ _ _).2 ⟨true,true,false,false,l,w.heap.size,m,p,aX e,rfl,rfl,Q.out.addT⟩
   ·refine dK rfl rfl ?_;go_simp;exact(i.out _ _ _ _).2 ⟨true,false,true,false,l,o,w.heap.size,p,aX e,rfl,rfl,Q.out.addH⟩
   ·refine dK rfl rfl ?_;go_simp;exact(i.out _ _ _ _).2 ⟨true,false,false,true,l,o,m,w.heap.size,aX e,rfl,rfl,Q.out.addK⟩
  ·refine⟨[4,5],by kernel_rfl,by simp,?_⟩;simp only[cond_true,cond_false];refine aB.2 ⟨?_,aB.2 ⟨?_,by simp⟩⟩
   ·refine dK rfl rfl ?_;go_simp;exact(i.out _ _ _ _).2 ⟨true,true,false,true,l,w.heap.size,m,p,aX e,rfl,rfl,Q.out.addT⟩
   ·refine dK rfl rfl ?_;go_simp;exact(i.out _ _ _ _).2 ⟨true,false,true,true,l,o,w.heap.size,p,aX e,rfl,rfl,Q.out.addH⟩
  ·refine⟨[4,6],by kernel_rfl,by simp,?_⟩;simp only[cond_true,cond_false];refine aB.2 ⟨?_,aB.2 ⟨?_,by simp⟩⟩
   ·refine dK rfl rfl ?_;go_simp;exact(i.out _ _ _ _).2 ⟨true,true,true,false,l,w.heap.size,m,p,aX e,rfl,rfl,Q.out.addT⟩
   ·refine dK rfl rfl ?_;go_simp;exact(i.out _ _ _ _).2 ⟨true,false,true,true,l,o,m,w.heap.size,aX e,rfl,rfl,Q.out.addK⟩
  ·refine⟨[4],by kernel_rfl,by simp,?_⟩;simp only[cond_true,cond_false];refine aB.2 ⟨?_,by simp⟩
   ·refine dK rfl rfl ?_;go_simp;exact(i.out _ _ _ _).2 ⟨true,true,true,true,l,w.heap.size,m,p,aX e,rfl,rfl,Q.out.addT⟩
  ·refine⟨[5,6],by kernel_rfl,by simp,?_⟩;simp only[cond_true,cond_false];refine aB.2 ⟨?_,aB.2 ⟨?_,by simp⟩⟩
   ·refine dK rfl rfl ?_;go_simp;exact(i.out _ _ _ _).2 ⟨true,true,true,false,l,o,w.heap.size,p,aX e,rfl,rfl,Q.out.addH⟩
   ·refine dK rfl rfl ?_;go_simp;exact(i.out _ _ _ _).2 ⟨true,true,false,true,l,o,m,w.heap.size,aX e,rfl,rfl,Q.out.addK⟩
  ·refine⟨[5],by kernel_rfl,by simp,?_⟩;simp only[cond_true,cond_false];refine aB.2 ⟨?_,by simp⟩
   ·refine dK rfl rfl ?_;go_simp;exact(i.out _ _ _ _).2 ⟨true,true,true,true,l,o,w.heap.size,p,aX e,rfl,rfl,Q.out.addH⟩
  ·refine⟨[6],by kernel_rfl,by simp,?_⟩;simp only[cond_true,cond_false];refine aB.2 ⟨?_,by simp⟩
   ·refine dK rfl rfl ?_;go_simp;exact(i.out _ _ _ _).2 ⟨true,true,true,true,l,o,m,w.heap.size,aX e,rfl,rfl,Q.out.addK⟩
  ·cases e
 ·exact(i.out _ _ _ _).2 ⟨false,false,false,false,0,0,0,0,rfl,rfl,rfl,(Four.begin W0).drew⟩
theorem NtAt.newNet{W':World}{G:Nat→Prop}{g:Nat}{av cv tv nv':Value}{net':List Mg}{tr:List Ev}(hb:W'.heap[g]?=some (.cells #[av,cv,nv',tv] 100 (0,0)))(hg:G g)(hn:W'.ownsRow 0 66 10 nv' net'.length (cZ mgL net'))(ht:W'.ownsRow 0 70 19 tv tr.length (cZ evL tr))(hno:∀k,nv'.ownBlock=some k→G k)(hto:∀k,tv.ownBlock=some k→G k)(hlt:∀k,G k→k<W'.heap.size):NtAt W' G g av cv net' tr:=
 ⟨nv',tv,hb,hg,hn,ht,hno,hto,hlt⟩
section
variable (W:World) (own:Nat→Nat) (g:Nat) (x:Mo)
theorem aBQ(N:Int)(i:Nat)(h:Moor W own g x)(hok:MoOk N x)(hN:N≤90000000000)(hi:i<x.net.length):
 Calls prog 84 #[.pointer (some ⟨g,0,none⟩),.int .i64 i] W fun r W'=>r= .returned (.tuple #[])∧MoTo W own g {x with net:=x.net.eraseIdx i} W':=by
 obtain⟨av,cv,bA,bC,h⟩:=h;obtain⟨nv,tv,hb,hnv,htv,hnb,htb,hg1⟩:=h.cells;have c2:W.cell? ⟨g,2,none⟩=some nv:=cO hb 2 _ rfl;have hnl:=hok.nl;have w1:IntKind.i64.wrap ((i:Int)+1)=(i:Int)+1:=fV (by omega) (by omega);have HD:=cN (aFB W nv x.net i hi (by omega) hnv);have H:=cN h;have HB:=cN (aLr hb htv hnb htb hg1);have hgn:=fN hnv hb (by decide);have hnt:=nS htv hnv (by decide);have HGN:=cN (aLo hgn hnt);clear hb hnv htv hnb htb hg1 h hok hgn hnt;go_enter func84,ntmps84;go_wp2_with (go_at_call 126;refine HD.out.mono ?_;rintro e W1 ⟨v,rfl,hv,hvb,hc1⟩;have HV:=cN (aLp hv hvb hc1);clear hv hvb hc1;refine cQ ?_);refine cN ?_;obtain⟨p',cap',rfl⟩:=vF HV.out.1;have hb1:=HV.out.2.2.kept HB.out.1 (fun e=>HGN.out.1 g e.symm rfl);have d2:=cO hb1 2 _ rfl;have z2:=cX hb1 2;have hb2:=dD hb1 2 (.slice p' (x.net.eraseIdx i).length cap');have hc2:=cY W1 g 2 (.slice p' (x.net.eraseIdx i).length cap');generalize hX2:W1.setCell ⟨g,2,none⟩ (.slice p' (x.net.eraseIdx i).length cap')=W2 at*;have HX2:=cN hX2;have hc:=(HV.out.2.2.mono (T:=fun k=>some k=nv.ownBlock∨k=g) (fun _ _ h=>Or.inl h)).trans hc2 (fun _ _ h=>Or.inr h);have hv2:=hc2.row HV.out.1 (fun k hk e=>by
  rw[HV.out.2.1]at hk;exact HGN.out.1 k hk e)
 have ht2:=hc.row HB.out.2.1 (fun k hk e=>by
  rcases e with e|e
  ·exact HGN.out.2 k hk e.symm
  ·exact fN HB.out.2.1 HB.out.1 (by decide) k hk e)
 have hnt2:NtAt W2 (fun k=>own k=1) g av cv (x.net.eraseIdx i) x.tr:=NtAt.newNet (by simpa using hb2) HB.out.2.2.2.2 hv2 ht2 (fun k hk=>HB.out.2.2.1 k (HV.out.2.1▸hk)) HB.out.2.2.2.1 (fun k hk=>aG (H.out.lt k (by simp only[hk];decide)) hc.size);have hto:=H.out.netTo hnt2 (hc.mono (fun k _ hk=>by
  rcases hk with hk|hk
  ·exact HB.out.2.2.1 k hk.symm
  ·rw[hk];exact HB.out.2.2.2.2)) (fun k hk=>Or.inl hk)
 have HTO:=cN hto;clear hb1 hb2 hc2 hc hv2 ht2 hnt2 hto hX2 c2;go_wp2_with (rw[HX2.out]);first|go_end0|skip
 exact⟨rfl,HTO.out⟩
theorem aGY(N i:Int)(h:Moor W own g x)(hok:MoOk N x)(hN:N≤90000000000):
 Calls prog 40 #[.pointer (some ⟨g,0,none⟩),.int .i64 i] W fun r W'=>r= .returned (.int .i64 (uR x i))∧MoTo W own g (iS x i) W':=by
 have H:=cN h;have m:=cN hok;obtain⟨B,v,w,t,h⟩:=h;obtain⟨A,y,k,b,_⟩:=h.cells;obtain⟨p,d,rfl⟩:=vF b;have l:W.cell? ⟨g,2,none⟩=some (.slice p x.net.length d):=cO k 2 _ rfl;have f:=cN (pN W g i p x.net.length d (by have:=hok.nl;omega) l);unfold uR iS;by_cases a:dT i x.net.length=true
 ·rw[if_pos a,if_pos a];rw[a]at f;obtain⟨u,z⟩:=(dY _ _).1 a;obtain⟨j,rfl⟩:∃j:Nat,i=j:=⟨i.toNat,by omega⟩;have q:=cN (aBQ W own g x N j H.out m.out hN (by omega));clear k b h hok a l;go_enter func40,ntmps40;go_wp2_with (first|(go_at_call 83;refine f.out.mono ?_;rintro e o ⟨rfl,rfl⟩)|(go_at_call 84;refine q.out.mono ?_;rintro e C ⟨rfl,n⟩));go_ret;refine⟨rfl,?_⟩;have s:((j:Int).toNat)=j:=by omega
  rw[s];exact n
 ·rw[if_neg a,if_neg a];have c:dT i x.net.length=false:=by simpa using a
  rw[c]at f;clear k b h hok a c l;go_enter func40,ntmps40;go_wp2_with (go_at_call 83;refine f.out.mono ?_;rintro e o ⟨rfl,rfl⟩);go_ret;exact⟨rfl,MoTo.of H.out⟩
end
theorem aJd{W:World}{k cap:Nat}{net:List Mg}{i:Nat}(hi:i<net.length)(h:W.ownsRow 0 66 10 (.slice (some ⟨k,0,none⟩) net.length cap) net.length (cZ mgL net)):∀j u,(mgL net[i])[j]?=some u→W.cell? ((⟨k,i*10,none⟩:Addr).add j)=some u:=fun j u hj=>by
 have hj10:j<10:=(aF.1 hj).1;rw[Addr.add_lit];have e:=lX mgL (k:=10) (fun _=>rfl) net i hi j hj10;rw[h.cellAt _ (by omega),e];exact hj
theorem aGZ(W:World)(own:Nat→Nat)(g:Nat)(x:Mo)(N i:Int)(h:Moor W own g x)(hok:MoOk N x)(hN:N≤90000000000):
 Calls prog 41 #[.pointer (some ⟨g,0,none⟩),.int .i64 i] W fun r W'=>r= .returned (.int .i64 (uR x i))∧MoTo W own g (sE x i) W':=by
 have HM:=cN h;have c4:=cN hok;obtain⟨i1,ji,b2,b9,b1⟩:=info_parts mJ;obtain⟨av,cv,bA,bC,h⟩:=h;obtain⟨nv,tv,Q,c,A,K,I,J⟩:=h.cells;obtain⟨p,o,rfl⟩:=vF c;have c2:W.cell? ⟨g,2,none⟩=some (.slice p x.net.length o):=cO Q 2 _ rfl;have a7:=hok.nl;have HI:=cN (pN W g i p x.net.length o (by omega) c2);unfold uR sE;by_cases t:dT i x.net.length=true
 ·rw[if_pos t,if_pos t];rw[t]at HI;obtain⟨h0,h1⟩:=(dY _ _).1 t;obtain⟨w,em⟩:=rI t;obtain⟨j,rfl⟩:∃j:Nat,i=j:=⟨i.toNat,by omega⟩;have R:j<x.net.length:=by omega
  have a4:jG x (j:Int)=x.net[j]'R:=em;rw[a4];have E:=c;rcases c.2 with⟨e,e0⟩|⟨k,c0,c1,e,hr⟩
  ·omega
  ·cases e;have a2:=aJd R E;generalize hm:x.net[j]'R=m at*;have HC:=cN a2;have u:=cN (aLs Q c A K I J);have H:=cN h;have c6:=cN R;have V:=fN c Q (by decide);have a0:=nS A c (by decide);have a6:=cN (aLo V a0);have a1:=cN a7;clear a2 Q c A K I J h hok t w hr E em a4 hm V a0 a7 R;go_enter func41,ntmps41;go_wp2_with (go_at_call 83;refine HI.out.mono ?_;rintro e w' ⟨rfl,hW⟩;have b6:=hW.symm;subst b6;clear hW);refine rlx [0,0,0,0,1,0,0,0,1,0,0,1,2] (fun w'=>w'.cell? ⟨g,2,none⟩=some (.slice (some ⟨k,0,none⟩) x.net.length o)∧∀q y,(mgL m)[q]?=some y→w'.cell? ((⟨k,j*10,none⟩:Addr).add q)=some y) (by kernel_rfl) (fun _ _ _ _=>rfl) ?_ ?_
   ·exact⟨c2,HC.out⟩
   simp only[dC,dB];iterate 11 (apply sB rfl rfl;·(intro x h;(try have h:=h rfl);(try dsimp only at h);go_simp;with_reducible rfl))
   try simp only[pA]
   refine dA (v:=mgV m) rfl (fun x hx=>cU 66 _ rfl ⟨k,j*10,none⟩ rfl (mgL m) _ hx.2 underlying66 rfl (by kernel_rfl)) ?_;(try simp only[pA]);refine dI rfl (fun C hC=>?_);go_simp;have X:=u.out.1;have b7:=H.out.lt k (by rw[u.out.2.2.2.1 k rfl];decide);have P:=dM (.cells (mgL m).toArray 66) X;have Z:∀q y,(mgL m)[q]?=some y→(W.alloc (.cells (mgL m).toArray 66)).cell? ((⟨k,j*10,none⟩:Addr).add q)=some y:=fun q y a=>by
    have e:=HC.out q y a;rw[Addr.add_lit]at e⊢;exact(aW (Below.heap_alloc W _ k b7)).trans e
   refine hC _ _ ⟨cO (W:=(W.alloc _).drew) P 2 _ rfl,Z⟩ ?_;clear hC C Z X;refine cP ?_;have F:=aA W (.cells (mgL m).toArray 66);have b5:(W.alloc (.cells (mgL m).toArray 66)).heap.size=W.heap.size+1:=by simp
   have s:Chg NoS W (W.alloc (.cells (mgL m).toArray 66)):=(Chg.refl NoS W).alloc _;have S:=s.row u.out.2.1 (fun _ _ h=>h);have a3:=s.row u.out.2.2.1 (fun _ _ h=>h);have b8:=H.out.kept s (fun _ _ h=>h);generalize b0:W.alloc (.cells (mgL m).toArray 66)=W1 at*;refine wpList_append_lies _ rfl _ _ 88 rfl 0 66 i1 _ 10 80 underlying88 ji b2 b9 b1 rfl (by decide) (.slice (some ⟨k,0,none⟩) x.net.length o) x.net.length (cZ mgL x.net) rfl S.drew ⟨W.heap.size,0,none⟩ 1 1 (mgL m) rfl rfl (cR (W:=W1.drew) F) (oT m) (by decide) (by have:=a1.out;unfold maxLen;omega) (by have:=a1.out;omega) (aI _) (W.heap.size+1) b5 ?_;intro G f W2 d b D a9;have z:Chg (fun q=>some q=(Value.slice (some ⟨k,0,none⟩) x.net.length o).ownBlock) W1 W2:=Chg.of_grown ⟨b.os,b.tape,b.output,b.size,b.block⟩;have l:=z.kept P (fun e=>a6.out.1 g e.symm rfl);have M:=z.row a3 (fun q a e=>a6.out.2 q a e.symm);have d2:=cO l 2 _ rfl;have z2:=cX l 2;have Y:=dD l 2 (.slice (some ⟨G,0,none⟩) (x.net.length+1) f);have n:=cY W2 g 2 (.slice (some ⟨G,0,none⟩) (x.net.length+1) f);have c5:=fN d l (by decide) G rfl;have c3:=dG u.out.1;generalize a8:W2.setCell ⟨g,2,none⟩ (.slice (some ⟨G,0,none⟩) (x.net.length+1) f)=W3 at*;have b4:=cN a8;have L:=n.row d (fun q a e=>by
    have:q=G:=by simpa[Value.ownBlock]using a.symm
    omega)
   have a5:=n.row M (fun q a e=>fN M l (by decide) q a e);have e1:=(kO mgL x.net m).symm;rw[e1]at L;have O:=((s.mono (T:=fun q=>own q=1) (fun _ _ h=>h.elim)).trans z (fun q a e=>u.out.2.2.2.1 q e.symm)).trans n (fun q a e=>by rw[e];exact u.out.2.2.2.2.2);have B:NtAt W3 (fun q=>own q=1∨q=G) g av cv (x.net++[m]) x.tr:=NtAt.newNet (nv':=.slice (some ⟨G,0,none⟩) (x.net.length+1) f) (tv:=tv) (by simpa using Y) (Or.inl u.out.2.2.2.2.2) (by rw[aD,aK];exact L) a5 (fun q a=>Or.inr (by simpa[Value.ownBlock]using a.symm)) (fun q a=>Or.inl (u.out.2.2.2.2.1 q a)) (fun q a=>by
    rcases a with a|a
    ·exact aG (H.out.lt q (by rw[a];decide)) O.size
    ·have:=n.size;omega)
   have U:=H.out.netTo B O (fun q a=>by
    rcases a with a|a
    ·exact Or.inl a
    ·rcases D with h|h
     ·exact Or.inl (u.out.2.2.2.1 q (by rw[a];exact h))
     ·right;omega)
   have b3:=cN U;clear P l Y s z n L a3 M a5 B O U b0 a8 d b D a9 F S b8 e1 c2;(try simp only[pA]);go_wp2_with (rw[b4.out]);go_ret;refine⟨rfl,?_⟩;exact b3.out
 ·rw[if_neg t,if_neg t];have w:dT i x.net.length=false:=by simpa using t
  rw[w]at HI;clear Q c A K I J h hok t w;go_enter func41,ntmps41;go_wp2_with (go_at_call 83;refine HI.out.mono ?_;rintro e w' ⟨rfl,rfl⟩);go_ret;exact⟨rfl,MoTo.of HM.out⟩
structure Ea(x:Mo):Prop where
 fr:∀m ∈ x.net,∀i (h:i<x.cls.length) (r n:Int),0≤n→n≤63→m.bal=r*256+n*4+i→n≤x.cls[i].inc∧(n=x.cls[i].inc→x.cls[i].up=true→r≤x.cls[i].round)
 ask:∀m ∈ x.net,m.kind=3∨m.kind=4→∀i (h:i<x.cls.length) o,x.cls[i].doing=some o→m.bal=o.att.bal→o.att.awaited=4
 own:∀i (h:i<x.cls.length) o,x.cls[i].doing=some o→x.cls[i].up=true∧∃r:Int,o.att.bal=r*256+x.cls[i].inc*4+i∧r≤x.cls[i].round
theorem Ea.sub{x x':Mo}(h:Ea x)(hc:x'.cls=x.cls)(hm:∀m ∈ x'.net,∃m0 ∈ x.net,m.bal=m0.bal∧(m.kind=3∨m.kind=4→m0.kind=3∨m0.kind=4)):Ea x':=by
 obtain⟨g,d,cls,net,f⟩:=x';dsimp only at hc hm;subst hc;refine⟨fun m h1 i hi r n n0 n1 e=>?_,fun m h1 k i hi o ho e=>?_,h.own⟩
 ·obtain⟨m0,a,b,_⟩:=hm m h1;exact h.fr m0 a i hi r n n0 n1 (by rw[←b];exact e)
 ·obtain⟨m0,a,b,c⟩:=hm m h1;exact h.ask m0 a (c k) i hi o ho (by rw[←b];exact e)
structure CSt(c c':Ct)(e:List Ev):Prop where
 inc:c.inc≤c'.inc
 rnd:c'.inc=c.inc→c'.up=true→c.up=true∧c.round≤c'.round
 dng:∀o',c'.doing=some o'→c'.up=true∧c'.inc=c.inc∧((∃o,c.doing=some o∧o'.att.bal=o.att.bal∧(o.att.awaited=4→o'.att.awaited=4))∨(o'.att.bal=c'.round*256+c'.inc*4+c'.num∧c.round<c'.round))
 snt:∀m ∈ dJ e,∃o',c'.doing=some o'∧m.bal=o'.att.bal∧(m.kind=3∨m.kind=4→o'.att.awaited=4)
theorem Ea.client{x:Mo}(h:Ea x)(hl:x.cls.length≤4){i:Int}(hi:dT i x.cls.length=true){c':Ct}{e:List Ev}(hs:CSt (clM x i) c' e)(hn:c'.num=i)(h0:0≤c'.inc)(h1:c'.inc≤63):Ea (gB x i c' e):=by
 obtain⟨B,J⟩:=mQ hi;obtain⟨P,_⟩:=(dY _ _).1 hi;rw[J]at hs;have z:((i.toNat:Nat):Int)=i:=by omega
 generalize i.toNat=j at*;have l:∀p,c'.doing=some p→∃r:Int,p.att.bal=r*256+c'.inc*4+j∧r≤c'.round:=fun p ho=>by
  obtain⟨u,w,k⟩:=hs.dng p ho;rcases k with⟨o,C,O,_⟩|⟨C,_⟩
  ·obtain⟨_,r,K,T⟩:=h.own j B o C;exact⟨r,by rw[O,K,w],by have:=(hs.rnd w u).2;omega⟩
  ·exact⟨c'.round,by rw[C,hn,z],aL _⟩
 have y:(gB x i c' e).cls=x.cls.set j c':=by unfold gB;dsimp only;rw[show i.toNat=j by omega]
 have t:∀m ∈ (gB x i c' e).net,m ∈ x.net∨m ∈ dJ e:=fun m c=>aO.1 c;have I:(gB x i c' e).cls.length=x.cls.length:=by rw[y];simp
 have s:∀k (hk:k<(gB x i c' e).cls.length),(k=j∧(gB x i c' e).cls[k]=c')∨(k≠j∧∃d:k<x.cls.length,(gB x i c' e).cls[k]=x.cls[k]):=fun k hk=>by
  by_cases f:k=j
  ·left;refine⟨f,?_⟩;subst f;simp[y]
  ·right;exact⟨f,by omega,by simp[y,List.getElem_set_ne (Ne.symm f)]⟩
 refine⟨fun m c k hk r n n0 n1 e1=>?_,fun m c kd k hk o ho e1=>?_,fun k hk o ho=>?_⟩
 ·rcases s k hk with⟨rfl,g⟩|⟨f,d,g⟩<;>rw[g]<;>rcases t m c with c|c
  ·obtain⟨a,b⟩:=h.fr m c k B r n n0 n1 e1;have:=hs.inc;refine⟨by omega,fun ea u=>?_⟩;have w:c'.inc=x.cls[k].inc:=by omega
   obtain⟨M,R⟩:=hs.rnd w u;have:=b (by omega) M;omega
  ·obtain⟨p,v,D,_⟩:=hs.snt m c;obtain⟨F,A,G⟩:=l p v;refine⟨by omega,fun _ _=>by omega⟩
  ·exact h.fr m c k d r n n0 n1 e1
  ·obtain⟨p,v,D,_⟩:=hs.snt m c;obtain⟨F,A,G⟩:=l p v;exfalso;omega
 ·rcases s k hk with⟨rfl,g⟩|⟨f,d,g⟩<;>rw[g]at ho<;>rcases t m c with c|c
  ·obtain⟨u,w,q⟩:=hs.dng o ho;rcases q with⟨N,E,H,L⟩|⟨E,H⟩
   ·exact L (h.ask m c kd k B N E (by rw[e1,H]))
   ·have:=(h.fr m c k B c'.round c'.inc h0 h1 (by rw[e1,E,hn,z])).2 w (hs.rnd w u).1;omega
  ·obtain⟨p,v,D,A⟩:=hs.snt m c;rw[v]at ho;cases ho;exact A kd
  ·exact h.ask m c kd k d o ho e1
  ·obtain⟨p,v,D,_⟩:=hs.snt m c;obtain⟨F,A,G⟩:=l p v;obtain⟨_,Q,S,_⟩:=h.own k d o ho;exfalso;omega
 ·rcases s k hk with⟨rfl,g⟩|⟨f,d,g⟩
  ·rw[g]at ho⊢;obtain⟨r,a,b⟩:=l o ho;exact⟨(hs.dng o ho).1,r,a,b⟩
  ·rw[g]at ho⊢;exact h.own k d o ho
structure CSm(c c1:Ct):Prop where
 num:c1.num=c.num
 inc:c1.inc=c.inc
 up:c1.up=c.up
 rnd:c.round≤c1.round
theorem aJ0(c:Ct)(o:On)(res tok:Int)(v:Vl):CSm c (gW c o res tok v)∧(gW c o res tok v).doing=none:=by
 unfold gW kP oI nM;dsimp only
 (repeat' split)<;>exact⟨⟨rfl,rfl,rfl,aL _⟩,rfl⟩
theorem aIF(c:Ct)(o:On)(res own tok:Int):dJ (rH c o res own tok)=[]:=rfl
section
variable {f:Cf}{c c1:Ct}{o:On}
theorem aAD(hs:CSm c c1)(res own tok:Int)(v:Vl):CSt c (gW c1 o res tok v) (rH c1 o res own tok):=by
 obtain⟨h,a⟩:=aJ0 c1 o res tok v;exact⟨by rw[h.inc,hs.inc];exact aL _,fun _ u=>⟨by rw[←hs.up,←h.up];exact u,Int.le_trans hs.rnd h.rnd⟩,fun o' ho=>(by rw[a]at ho;cases ho),fun m hm=>(by rw[aIF]at hm;cases hm)⟩
theorem aBA(hs:CSm c c1)(hd:∀o,c1.doing=some o→c1.up=true∧∃o0,c.doing=some o0∧o.att.bal=o0.att.bal∧(o0.att.awaited=4→o.att.awaited=4)):CSt c c1 []:=
 ⟨by rw[hs.inc];exact aL _,fun _ u=>⟨by rw[←hs.up];exact u,hs.rnd⟩,fun o' ho=>⟨(hd o' ho).1,hs.inc,Or.inl (hd o' ho).2⟩,fun m hm=>(by rw[fF]at hm;cases hm)⟩
theorem aAo(hs:CSm c c1)(hu:c1.up=true):CSt c (gD c1 o) (fO f c1 o):=by
 unfold gD fO;by_cases h:1000≤c1.round
 ·rw[if_pos h,if_pos h];exact aAD hs 6 0 0 zVl
 ·rw[if_neg h,if_neg h];refine⟨by show c.inc≤c1.inc;rw[hs.inc];exact aL _,fun _ u=>⟨by rw[←hs.up];exact hu,by have:=hs.rnd;show c.round≤c1.round+1;omega⟩,fun o' ho=>?_,fun m hm=>?_⟩
  ·cases ho;exact⟨hu,hs.inc,Or.inr ⟨rfl,by have:=hs.rnd;show c.round<c1.round+1;omega⟩⟩
  ·rw[sK]at hm;obtain⟨d,_,rfl⟩:=bQ.1 hm;exact⟨_,rfl,rfl,fun h=>by rcases h with h|h<;>cases h⟩
theorem aCn(hs:CSm c c1)(hu:c1.up=true):CSt c (kX f c1 o) (kI f c1 o):=by
 unfold kX kI;split
 ·exact aAo hs hu
 ·exact aAD hs 5 0 0 zVl
theorem aD7(hs:CSm c c1)(hu:c1.up=true){o0:On}(h0:c.doing=some o0)(hb:o.att.bal=o0.att.bal):CSt c (iG f c1 o) (gZ f c1 o):=by
 unfold iG gZ;dsimp only;split
 ·exact aAD hs _ _ _ _
 ·refine⟨by show c.inc≤c1.inc;rw[hs.inc];exact aL _,fun _ u=>⟨by rw[←hs.up];exact hu,hs.rnd⟩,fun o' ho=>?_,fun m hm=>?_⟩
  ·cases ho;exact⟨hu,hs.inc,Or.inl ⟨o0,h0,hb,fun _=>rfl⟩⟩
  ·rw[sK]at hm;obtain⟨d,_,rfl⟩:=bQ.1 hm;exact⟨_,rfl,rfl,fun _=>rfl⟩
end
section
variable {f:Cf}{c:Ct}
theorem rK(hup:∀o,c.doing=some o→c.up=true):CSt c c []:=
 aBA ⟨rfl,rfl,rfl,aL _⟩ (fun o ho=>⟨hup o ho,o,ho,rfl,fun h=>h⟩)
theorem aG4(hup:∀o,c.doing=some o→c.up=true)(k l t:Int):CSt c (gU c k l t) (iA f c k l t):=by
 unfold gU iA;by_cases h:jO c≠0
 ·rw[if_pos h,if_pos h];exact rK hup
 ·rw[if_neg h,if_neg h];have b:c.up=true:=by
   cases hc:c.up
   ·exact absurd (show jO c≠0 by unfold jO;rw[if_pos hc];decide) h
   ·rfl
  have a:CSm c (eI {c with doing:=some (newOn c k l t)} k l t):=by
   unfold eI;(repeat' split)<;>exact⟨rfl,rfl,rfl,aL _⟩
  have q:=aAo (f:=f) (o:=newOn c k l t) a (a.up.trans b);exact⟨q.inc,q.rnd,q.dng,fun m hm=>q.snt m hm⟩
theorem aJs(hup:∀o,c.doing=some o→c.up=true):CSt c (lP f c) (oE f c):=by
 unfold lP oE;by_cases h:c.up=false
 ·rw[if_pos h,if_pos h];exact rK hup
 ·rw[if_neg h,if_neg h];have b:c.up=true:=by simpa using h
  have d:CSm c {c with clock:=c.clock+1}:=⟨rfl,rfl,rfl,aL _⟩;have a:CSt c {c with clock:=c.clock+1} []:=aBA d (fun o ho=>⟨b,o,ho,rfl,fun h=>h⟩);obtain⟨j,k,up,clock,g,i,e,l,doing⟩:=c;cases doing with
  |none=>exact a
  |some o=>
   dsimp only at d a b⊢;split
   ·exact aCn d b
   ·exact a
theorem aI6(hup:∀o,c.doing=some o→c.up=true):CSt c (uD c) (uM c):=by
 unfold uD uM;by_cases h:c.up=false
 ·rw[if_pos h,if_pos h];exact rK hup
 ·rw[if_neg h,if_neg h];exact⟨aL _,fun _ u=>(by cases u),fun o ho=>(by cases ho),fun m hm=>(by cases hm)⟩
theorem aE7(hup:∀o,c.doing=some o→c.up=true):CSt c (mT c) (nE c):=by
 unfold mT nE;by_cases h:gS c≠0
 ·rw[if_pos h,if_pos h];exact rK hup
 ·rw[if_neg h,if_neg h];have a:c.up=false:=by
   cases hc:c.up
   ·rfl
   ·exact absurd (show gS c≠0 by unfold gS;rw[if_pos hc];decide) h
  exact⟨by show c.inc≤c.inc+1;omega,fun e _=>(by have:c.inc+1=c.inc:=e;omega),fun o ho=>(by have:=hup o ho;rw[a]at this;cases this),fun m hm=>(by cases hm)⟩
theorem aIH(hup:∀o,c.doing=some o→c.up=true)(m:Mg):CSt c (gO f c m) (iB f c m):=by
 unfold gO iB;by_cases h:c.up=false
 ·rw[if_pos h,if_pos h];exact rK hup
 ·rw[if_neg h,if_neg h];have i:c.up=true:=by simpa using h
  have d:=rK hup;cases hd:c.doing with
  |none=>exact d
  |some o=>
   dsimp only;by_cases e:m.bal≠o.att.bal
   ·rw[if_pos e,if_pos e];exact d
   ·rw[if_neg e,if_neg e];by_cases a:m.kind=5
    ·rw[if_pos a,if_pos a];exact aCn (c1:={c with round:=max c.round (m.base / 256)}) ⟨rfl,rfl,rfl,Int.le_max_left _ _⟩ i
    ·rw[if_neg a,if_neg a];by_cases g:m.kind=o.att.awaited
     ·rw[if_pos g,if_pos g];unfold jT kB;by_cases b:o.att.ans.contains m.src=true
      ·rw[if_pos b,if_pos b];exact d
      ·rw[if_neg b,if_neg b];dsimp only;split
       ·exact aBA (c1:={c with doing:=some (heardOn o m)}) ⟨rfl,rfl,rfl,aL _⟩ (fun o' ho=>by cases ho;exact⟨i,o,hd,rfl,fun h=>h⟩)
       ·split
        ·exact aD7 (c1:={c with doing:=some (heardOn o m)}) ⟨rfl,rfl,rfl,aL _⟩ i hd rfl
        ·exact aAD ⟨rfl,rfl,rfl,aL _⟩ _ _ _ _
     ·rw[if_neg g,if_neg g];exact d
end
theorem aIi(a:Ac)(m:Mg)(hk:m.kind=1∨m.kind=3):∀m' ∈ dJ (mZ a m),m'.bal=m.bal∧(m'.kind=3∨m'.kind=4→m.kind=3):=by
 have c:∀m' ∈ dJ (jE a m).2.1,m'.bal=m.bal∧(m'.kind=3∨m'.kind=4→m.kind=3):=by
  have b:∀m' ∈ dJ [sentEv (mH a (kA m (qD a m.lock)) m)],m'.bal=m.bal∧(m'.kind=3∨m'.kind=4→m.kind=3):=by
   intro m' h;rw[aEa]at h;simp at h;subst h;refine⟨rfl,fun h=>?_⟩;rcases hk with e|e
   ·exfalso;have h:(kA m (qD a m.lock)).kind=3∨(kA m (qD a m.lock)).kind=4:=h;unfold kA at h;rw[if_pos e]at h;split at h<;>rcases h with h|h<;>cases h
   ·exact e
  unfold jE;dsimp only;split
  ·split
   ·split
    ·exact b
    ·exact b
   ·intro m' h;cases h
  ·exact b
 unfold mZ;split
 ·intro m' h;cases h
 ·generalize jE a m=q at c;obtain⟨d,e,w⟩:=q;cases w using mM with
  |dies q=>
   intro m' h;rw[jB,show dJ [eO a.num]=[]from rfl,aC]at h;exact c m' h
  |fine=>exact c
  |full=>exact c
theorem Ea.new(f:Cf):Ea (mC f):=by
 refine⟨fun m h=>(by cases h),fun m h=>(by cases h),fun i h o ho=>?_⟩;have:(mC f).cls[i]=yC i:=by simp[mC]
 rw[this]at ho;cases ho
section
variable {N:Int}{x:Mo}
theorem MoOk.hup(ok:MoOk N x){i:Int}(hi:dT i x.cls.length=true):∀o,(clM x i).doing=some o→(clM x i).up=true:=fun o ho=>by
 cases hu:(clM x i).up
 ·have:=(ok.cl hi).1.dn hu;rw[this]at ho;cases ho
 ·rfl
theorem Ea.go(h:Ea x)(ok:MoOk N x){i:Int}(hi:dT i x.cls.length=true){c':Ct}{e:List Ev}(hs:CSt (clM x i) c' e){M:Int}(ok':MoOk M (gB x i c' e)):Ea (gB x i c' e):=by
 have c:=fL ok.conf;have:=ok.nc;obtain⟨f,d⟩:=(dY _ _).1 hi;have b:i.toNat<(gB x i c' e).cls.length:=by unfold gB;simp;omega
 have a:=(ok'.cs_ i.toNat b).core;rw[show(gB x i c' e).cls[i.toNat]=c' by simp[gB]]at a;exact h.client (by omega) hi hs (by rw[a.num];omega) a.i1 a.i2
theorem Ea.same{x':Mo}(h:Ea x)(hc:x'.cls=x.cls)(hm:∀m ∈ x'.net,m ∈ x.net):Ea x':=h.sub hc (fun m hm'=>⟨m,hm m hm',rfl,fun h=>h⟩)
theorem aBz(x:Mo)(i:Int):(iS x i).cls=x.cls∧∀m ∈ (iS x i).net,m ∈ x.net:=by
 unfold iS;split
 ·exact⟨rfl,fun m hm=>List.mem_of_mem_eraseIdx hm⟩
 ·exact⟨rfl,fun _ h=>h⟩
theorem Ea.begin(h:Ea x)(ok:MoOk N x)(i k l t:Int):Ea (oS x i k l t):=by
 have a:=ok.begin i k l t;unfold oS at a⊢;split
 ·exact h
 ·rename_i c;have b:dT i x.cls.length=true:=by
   cases b:dT i x.cls.length
   ·exact absurd (by unfold lT;rw[b];rfl) c
   ·rfl
  rw[if_neg c]at a;exact h.go ok b (aG4 (ok.hup b) k l _) a
theorem Ea.tick(h:Ea x)(ok:MoOk N x)(i:Int):Ea (tF x i):=by
 have a:=ok.tick i;unfold tF at a⊢;split
 ·rename_i b;rw[if_pos b]at a;exact h.go ok b (aJs (ok.hup b)) a
 ·exact h
theorem Ea.lose(h:Ea x)(ok:MoOk N x)(i:Int):Ea (rW x i):=by
 have a:=ok.lose i;unfold rW at a⊢;split
 ·rename_i b;rw[if_pos b]at a;exact h.go ok b (aI6 (ok.hup b)) a
 ·exact h
theorem Ea.return(h:Ea x)(ok:MoOk N x)(i:Int):Ea (nC x i):=by
 have a:=ok.return i;unfold nC at a⊢;split
 ·rename_i b;rw[if_pos b]at a;exact h.go ok b (aE7 (ok.hup b)) a
 ·exact h
theorem Ea.copy(h:Ea x)(i:Int):Ea (sE x i):=by
 unfold sE;split
 ·rename_i c;refine h.same rfl (fun m a=>?_);rcases aO.1 a with a|a
  ·exact a
  ·obtain⟨b,e⟩:=rI c;simp at a;rw[a,e];exact bF b
 ·exact h
theorem Ea.acc(h:Ea x)(i:Int)(a:Ac)(e:List Ev)(he:∀m ∈ dJ e,∃m0 ∈ x.net,m.bal=m0.bal∧(m.kind=3∨m.kind=4→m0.kind=3∨m0.kind=4)):Ea (mF x i a e):=
 h.sub rfl (fun m hm=>(aO.1 hm).elim (fun hm=>⟨m,hm,rfl,fun h=>h⟩) (he m))
theorem Ea.fail(h:Ea x)(i n q:Int):Ea (tJ x i n q):=by
 unfold tJ;split
 ·exact h
 ·refine h.acc _ _ _ (fun m hm=>?_);unfold tN at hm
  (repeat' split at hm)<;>cases hm
theorem Ea.start(h:Ea x)(i:Int):Ea (oQ x i):=by
 unfold oQ;split
 ·refine h.acc _ _ _ (fun m hm=>?_);unfold nP at hm
  (repeat' split at hm)<;>cases hm
 ·exact h
theorem Ea.deliver(h:Ea x)(ok:MoOk N x)(i:Int):Ea (kZ x i):=by
 have a:=ok.deliver i;unfold kZ at a⊢;split
 ·rename_i g;rw[if_pos g]at a;obtain⟨q,o⟩:=rI g;have e:jG x i ∈ x.net:=by rw[o];exact bF q
  obtain⟨c,l⟩:=aBz x i;have n:=h.same c l;split
  ·rename_i f;have j:(jG x i).kind=1∨(jG x i).kind=3:=by simpa[hO]using f
   refine h.sub c (fun m b=>?_);rcases aO.1 b with b|b
   ·exact⟨m,l m b,rfl,fun h=>h⟩
   ·obtain⟨p,r⟩:=aIi _ _ j m b;exact⟨_,e,p,fun h=>Or.inl (r h)⟩
  ·rename_i f;rw[if_neg f]at a;have j:¬((jG x i).kind=1∨(jG x i).kind=3):=by simpa[hO]using f
   have t:=(ok.msg g).toC j;have k:=(ok.msg g).d1;have u:=ok.nc;have d:dT (jG x i).dst (iS x i).cls.length=true:=(dY _ _).2 ⟨k,by rw[c];omega⟩;have s:clM (iS x i) (jG x i).dst=clM x (jG x i).dst:=by unfold clM;rw[c]
   refine n.go (ok.drop i) d ?_ a;rw[s];exact aIH (ok.hup (by rw[←c];exact d)) _
 ·exact h
end
section
variable (W:World) (own:Nat→Nat) (g:Nat) (x:Mo)
theorem aJz(N:Int)(h:Moor W own g x)(hok:MoOk N x)(hN:N≤90000000000):
 Calls prog 36 #[.pointer (some ⟨g,0,none⟩)] W fun r W'=>∃v,r= .returned v∧W'.ownsRow W.heap.size 66 10 v x.net.length (cZ mgL x.net)∧Below W.heap.size W W':=by
 obtain⟨F,B,C,A,h⟩:=h;obtain⟨p,D,i,a,d,y,z,s⟩:=h.cells;have E:W.cell? ⟨g,2,none⟩=some p:=cO i 2 _ rfl;have w:=hok.nl;rcases a.2 with⟨rfl,m⟩|⟨k,f,t,rfl,q⟩
 ·have c:=cN (aDI W);go_enter func36,ntmps36;go_wp2_with (go_at_call 79;refine c.out.mono ?_;rintro e o ⟨rfl,rfl⟩);go_ret;exact⟨_,rfl,⟨a.1,Or.inl ⟨rfl,m⟩⟩,aJ _ _⟩
 ·have c:=cN (aDW W ⟨k,0,none⟩ f x.net (by omega) (fun j u hj=>by
   have e:(⟨k,0,none⟩:Addr).add j=⟨k,j,none⟩:=by rw[Addr.add_lit,Nat.zero_add]
   have b:=(aF.1 hj).1;rw[eV mgL (k:=10) (fun _=>rfl)]at b;rw[e,a.cellAt j b];exact hj))
  clear q i a d h;go_enter func36,ntmps36;go_wp2_with (go_at_call 79;refine c.out.mono ?_;rintro e o ⟨v,rfl,n,l⟩);go_ret;exact⟨v,rfl,n,l⟩
theorem aGq(N n:Int)(h:Moor W own g x)(hok:MoOk N x)(hN:N≤90000000000):
 Calls prog 17 #[.pointer (some ⟨g,0,none⟩),.int .i64 n] W fun r W'=>∃v,r= .returned v∧W'.ownsRow W.heap.size 70 19 v (qS x n).length (cZ evL (qS x n))∧Below W.heap.size W W':=by
 obtain⟨av,U,V,S,h⟩:=h;obtain⟨Z,H,z,o,c,P,Q,M⟩:=h.cells;have c3:W.cell? ⟨g,3,none⟩=some H:=cO z 3 _ rfl;have p:=hok.tl;have s:(0:Int)≤min (max n 0) (x.tr.length:Int):=by omega
 obtain⟨k,D⟩:∃k:Nat,min (max n 0) (x.tr.length:Int)=k:=⟨(min (max n 0) (x.tr.length:Int)).toNat,by omega⟩;have f:k≤x.tr.length:=by omega
 have B:qS x n=x.tr.drop k:=by unfold qS;rw[D];rfl
 rw[B];rcases c.2 with⟨rfl,G⟩|⟨q,b,O,rfl,y⟩
 ·have w:=cN (aEL W.drew);have t:k=0:=by omega
  subst t;have K:x.tr=[]:=List.length_eq_zero_iff.1 G;have F:min (max n 0) (0:Int)=0:=by omega
  rw[K];clear D s p f B h hok o c z;go_enter func17,ntmps17;go_wp2_with fail;refine eD [0,0,0,1,0,0,0,0,0,1,1,0,0] (by kernel_rfl) (fun _ _ _ _=>rfl) ?_;simp only[dC,dB];iterate 13 (apply sB rfl rfl;·(intro x h;(try cases h rfl);go_simp;with_reducible rfl))
  refine cP ?_;try simp only[pA]
  go_wp2_with (go_at_call 49;refine w.out.mono ?_;rintro e J ⟨rfl,rfl⟩);go_ret;exact⟨_,rfl,⟨rfl,Or.inl ⟨rfl,rfl⟩⟩,(aJ _ _).drew⟩
 ·have X:=y.2.1;have C:x.tr.length≤b:=y.2.2.1;have m:=y.2.2.2.1;have d:(x.tr.drop k).length=x.tr.length-k:=aV;obtain⟨A,Y,a⟩:∃A:Addr,(if b=k then(some ⟨q,0,none⟩:Option Addr)else some ⟨q,k*19,none⟩)=some A∧∀j u,(cZ evL (x.tr.drop k))[j]?=some u→W.drew.cell? (A.add j)=some u:=by
   by_cases E:b=k
   ·refine⟨⟨q,0,none⟩,by rw[if_pos E],fun j u hj=>?_⟩;rw[List.drop_eq_nil_of_le (by omega)]at hj;cases hj
   ·refine⟨⟨q,k*19,none⟩,by rw[if_neg E],fun j u hj=>?_⟩;rw[Addr.add_lit];have e:(cZ evL x.tr)[k*19+j]?=some u:=by
     have L:cZ evL x.tr=cZ evL (x.tr.take k)++cZ evL (x.tr.drop k):=by
      unfold cZ;rw[←List.flatMap_append,cH]
     rw[L,bN (by rw[eV evL (k:=19) (fun _=>rfl),bD];omega),eV evL (k:=19) (fun _=>rfl),bD,show k*19+j-min k x.tr.length*19=j by rw[Nat.min_eq_left f];omega];exact hj
    have l:=(aF.1 e).1;rw[eV evL (k:=19) (fun _=>rfl)]at l;show W.cell? ⟨q,k*19+j,none⟩=some u;rw[c.cellAt _ l];exact e
  have w:=cN (aEu W.drew A (b-k) (x.tr.drop k) (by omega) a);rw[d]at w⊢;have R:(0:Int)≤(k:Int):=by omega
  have b2:(k:Int)≤(x.tr.length:Int):=by omega
  have T:(x.tr.length:Int)≤(b:Int):=by omega
  have b4:(b:Int)≤9223372036854775807:=by unfold maxLen at m;omega
  clear s p B y h hok o c z a d C m f;go_enter func17,ntmps17;go_wp2_with fail;refine eD [0,0,0,1,0,0,0,0,0,1,1,0,0] (by kernel_rfl) (fun _ _ _ _=>rfl) ?_;simp only[dC,dB];iterate 13 (apply sB rfl rfl;·(intro x h;(try cases h rfl);go_simp;with_reducible rfl))
  refine cP ?_;try simp only[pA]
  go_wp2_with (go_at_call 49;refine w.out.mono ?_;rintro e J ⟨v,rfl,I,i⟩);go_ret;exact⟨v,rfl,I,⟨i.os,i.tape,i.output,i.size,i.block⟩⟩
end
end Go.Proofs.YtbbdgokdfhdpiaaGreatDoor
