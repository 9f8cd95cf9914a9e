/- A part of the proof: KpSim. -/
import Derived.Test.YtbbdgokdfhdpiaaGreatDoorD21
import Derived.Test.YtbbdgokdfhdpiaaGreatDoorD24
namespace Go.Proofs.YtbbdgokdfhdpiaaGreatDoor
set_option linter.all false
set_option maxRecDepth 100000
set_option maxHeartbeats 40000000
open Go.Proofs.Tryz Go.RowKit
section
variable (f:Cf)(c:Ct)(o:On)
theorem aBu(r t:Int)(v:Vl):(gA c o r t v).up=c.up:=(rI c o r t v).1.up
theorem yQ:(gY c o).up=c.up:=by
 unfold gY;split
 ·exact aBu _ _ _ _ _
 ·rfl
theorem aCs:(jY f c o).up=c.up:=by
 unfold jY;split
 ·exact yQ _ _
 ·exact aBu _ _ _ _ _
theorem aGq(k l t:Int):(iV c k l t).up=c.up:=by
 unfold iV;split
 ·rfl
 ·exact(yQ _ _).trans (nQ _ k l t).1.up
theorem aH6:(lF f c).up=c.up:=by
 unfold lF;split
 ·rfl
 ·dsimp only;split
  ·split
   ·exact aCs _ _ _
   ·rfl
  ·rfl
theorem aDr:(iT f c o).up=c.up:=by
 unfold iT;dsimp only;split
 ·exact aBu _ _ _ _ _
 ·rfl
theorem aGm(m:Mg):(iZ f c o m).up=c.up:=by
 unfold iZ;split
 ·rfl
 ·dsimp only;split
  ·rfl
  ·split
   ·exact aDr _ _ _
   ·exact aBu _ _ _ _ _
theorem aIy(m:Mg):(gS f c m).up=c.up:=by
 unfold gS;split
 ·rfl
 ·split
  ·rfl
  ·split
   ·rfl
   ·split
    ·exact aCs _ _ _
    ·split
     ·exact aGm _ _ _ _
     ·rfl
theorem aEm:(mX c).up=false:=by
 unfold mX;split
 ·assumption
 ·rfl
end
def upM(x:Mo)(p:Int):Bool:=(clM x p).up
section
variable {x:Mo}
theorem wJ{i:Int}(hi:dL i x.cls.length=true)(c:Ct)(e:List Ev){p:Int}(hp:0≤p):clM (iG x i c e) p=if p=i then c else clM x p:=by
 obtain⟨b,a⟩:=(dK _ _).1 hi;unfold clM iG;dsimp only;simp only[aQ];by_cases q:p=i
 ·subst q;rw[if_pos rfl,List.getElem?_set_self (by omega)]
  rfl
 ·rw[if_neg q,List.getElem?_set_ne (by omega)]
theorem oZ{i:Int}(hi:dL i x.cls.length=true){c:Ct}{e:List Ev}(hc:c.up=true→(clM x i).up=true){p:Int}(hp:0≤p)(h:upM (iG x i c e) p=true):upM x p=true:=by
 unfold upM at h⊢;rw[wJ hi c e hp]at h;by_cases q:p=i
 ·rw[if_pos q]at h;rw[q];exact hc h
 ·rw[if_neg q]at h;exact h
theorem yW(i p:Int):upM (eN x i) p=upM x p:=by unfold eN;split<;>rfl
theorem aE8{i k l t p:Int}(hp:0≤p)(h:upM (fO x i k l t) p=true):upM x p=true:=by
 unfold fO at h;by_cases a:lL x i k l t=true
 ·rw[if_pos a]at h;exact h
 ·rw[if_neg a]at h;have b:dL i x.cls.length=true:=by
   simp only[lL,Bool.or_eq_true,Bool.not_eq_true',not_or,Bool.not_eq_false]at a;exact a.1.1.1
  exact oZ b (fun z=>by rw[aGq]at z;exact z) hp h
theorem aGi{i p:Int}(hp:0≤p)(h:upM (kG x i) p=true):upM x p=true:=by
 unfold kG at h;by_cases a:dL i x.cls.length=true
 ·rw[if_pos a]at h;exact oZ a (fun z=>by rw[aH6]at z;exact z) hp h
 ·rw[if_neg a]at h;exact h
theorem aG4{i p:Int}(hp:0≤p)(h:upM (kP x i) p=true):upM x p=true∧(dL i x.cls.length=true→p≠i):=by
 unfold kP at h;by_cases a:dL i x.cls.length=true
 ·rw[if_pos a]at h;refine⟨oZ a (fun z=>by rw[aEm]at z;cases z) hp h,fun _ q=>?_⟩;unfold upM at h;rw[wJ a _ _ hp,if_pos q,aEm]at h;cases h
 ·rw[if_neg a]at h;exact⟨h,fun z=>absurd z a⟩
theorem zO{i p:Int}(hp:0≤p)(h:upM (iB x i) p=true):p=i∧dL i x.cls.length=true∧dW (clM x i)=0∨upM x p=true:=by
 unfold iB at h;by_cases a:dL i x.cls.length=true
 ·rw[if_pos a]at h;by_cases q:p=i
  ·by_cases b:dW (clM x i)=0
   ·exact Or.inl ⟨q,a,b⟩
   ·right;refine oZ a (fun z=>?_) hp h;unfold jC at z;rw[if_pos b]at z;exact z
  ·right;unfold upM at h⊢;rw[wJ a _ _ hp,if_neg q]at h;exact h
 ·rw[if_neg a]at h;exact Or.inr h
theorem wO{N:Int}(hx:MoOk N x){i p:Int}(hp:0≤p)(h:upM (fG x i) p=true):upM x p=true:=by
 unfold fG at h;by_cases c:dL i x.net.length=true
 ·rw[if_pos c]at h;have a:=hx.msg c;generalize kC x i=m at a h;by_cases b:jD m=true
  ·rw[if_pos b]at h;have e:upM (kB (eN x i) m.dst (jJ (acM x m.dst) m) (lG (acM x m.dst) m)) p=upM (eN x i) p:=rfl;rw[e,yW]at h;exact h
  ·rw[if_neg b]at h;have f:¬(m.kind=1∨m.kind=3):=by simpa[jD]using b
   have j:=a.toC f;have g:(eN x i).cls=x.cls:=(rR x i).1;have d:dL m.dst (eN x i).cls.length=true:=by rw[g];exact(dK _ _).2 ⟨a.d1,by rw[hx.nc];omega⟩
   have:=oZ d (fun z=>by
    rw[aIy]at z;unfold clM at z⊢;rw[g];exact z) hp h
   rw[yW]at this;exact this
 ·rw[if_neg c]at h;exact h
end
structure KSim(c:Cf)(x:Mo)(a:Int→Int→Int)(d:Int→Bool)(s:Sx):Prop where
 cf:x.cf=c
 abs:Abs x s
 rch:MiR c true s
 ah:∀p q,0≤p→p<c.clients→0≤q→q<c.clients→p≠q→s.ah p q=a p q
 dn:∀p,0≤p→p<c.clients→upM x p=true→d p=false
 room:MoRoom x
theorem aGL{c:Cf}(hr:aCv c)(l1:1≤c.clients):KSim c (lI c) (fun _ _=>0) (fun _=>false) pU:=
 ⟨rfl,aId c,.new,fun _ _ _ _ _ _ _=>rfl,fun _ _ _ _=>rfl,.new hr⟩
section
variable {c:Cf}{x:Mo}{a:Int→Int→Int}{d:Int→Bool}{s:Sx}{N:Int}
theorem KSim.i0(h:KSim c x a d s)(hx:MoOk N x):I0 c s:=by
 have b:=dO hx.conf;rw[h.cf]at b;exact(h.rch.inv (by omega) (by omega)).1
theorem KSim.go(h:KSim c x a d s){y:Mo}(hcf:y.cf=x.cf)(hg:∃s',MiS c true s s'∧Abs y s'∧s'.ah=s.ah)(hu:∀p,0≤p→upM y p=true→upM x p=true)(hr:MoRoom y):∃s',KSim c y a d s':=by
 obtain⟨s',b,f,e⟩:=hg;exact⟨s',hcf.trans h.cf,f,MiS.reach h.rch b,by rw[e];exact h.ah,fun p p0 p1 z=>h.dn p p0 p1 (hu p p0 z),hr⟩
theorem wZ:∀(n:Nat) {x:Mo} {s:Sx} {N:Int},MoOk N x→KSim c x a d s→∃s',KSim c (iE n x) a d s'
 |0,x,s,N,_,h=>⟨s,h⟩
 |n+1,x,s,N,hx,h=>by
  unfold iE;by_cases q:x.net.length=0
  ·rw[if_pos q];exact⟨s,h⟩
  ·rw[if_neg q];obtain⟨s',h'⟩:=h.go (nF x 0) (by have:=xA (gd:=true) hx (by rw[h.cf];exact h.i0 hx) h.abs 0;rw[h.cf]at this;exact this) (fun p p0 z=>wO hx p0 z) (h.room.deliver hx 0);exact wZ n (hx.deliver 0) h'
theorem aE3(hx:MoOk N x)(h:KSim c x a d s)(o:St)(hN:N≤1000000000000):∃s',KSim c (eZ c x a d o) (fQ c x a d o) (fN c x d o) s':=by
 have S:=dO hx.conf;have e:=h.cf;rw[e]at S;obtain⟨⟨X,Y⟩,⟨Z,l2⟩,_⟩:=S;have C:=dX (c:=o.x) (n:=c.clients) (by omega);have A:dL (cO o.x c.clients) x.cls.length=true:=(dK _ _).2 ⟨C.1,by rw[hx.nc,e];omega⟩;have w:¬(o.kind=2)→¬(o.kind=8)→¬(o.kind=9)→fQ c x a d o=a∧fN c x d o=d:=fun v h8 h9=>by
  unfold fQ fN;rw[if_neg v,if_neg (show¬((o.kind=8∧kE x (cO o.x c.clients)=0)∨(o.kind=9∧gO x (cO o.x c.clients)=0))from fun z=>z.elim (fun z=>h8 z.1) (fun z=>h9 z.1)),if_neg (show¬(o.kind=8∧kE x (cO o.x c.clients)=0)from fun z=>h8 z.1),if_neg (show¬(o.kind=9∧gO x (cO o.x c.clients)=0)from fun z=>h9 z.1)];exact⟨rfl,rfl⟩
 by_cases l:o.kind=1
 ·obtain⟨j,g⟩:=w (by omega) (by omega) (by omega);rw[j,g];unfold eZ;rw[if_pos l];exact h.go (aCd _ _ _ _ _) (by rw[←e];exact aE0 hx h.abs _ _ _ _) (fun p p0 z=>aE8 p0 z) (h.room.begin _ _ _ _)
 by_cases m:o.kind=2
 ·have g:fN c x d o=d:=by unfold fN;rw[if_neg (fun z=>by omega),if_neg (fun z=>by omega)]
  rw[g];unfold eZ fQ;rw[if_neg l,if_pos m,if_pos m];unfold nT oP;by_cases G:kF c a d (cO o.x c.clients) c.clients.toNat=true
  ·rw[if_pos G,if_pos G];exact⟨s,h⟩
  ·rw[if_neg G,if_neg G];generalize cO o.x c.clients=i at*;have W:aA0 c s i:=fun k k0 l kn ku=>by
    have R:upM x k=true:=by
     unfold upM;rw[←h.abs.clAt ((dK _ _).2 ⟨k0,by rw[hx.nc,e];omega⟩)];exact ku
    have K:=h.dn k k0 l R;rw[h.ah k i k0 l C.1 C.2 kn];refine aH fun hn=>G ?_;unfold kF;rw[List.any_eq_true];refine⟨k.toNat,List.mem_range.2 (by omega),?_⟩;have U:((k.toNat:Nat):Int)=k:=by omega
    rw[U,K];simp only[Bool.not_false,Bool.and_true,aR,aM];exact⟨kn,by omega⟩
   obtain⟨s',u,v,F⟩:=aHw (gd:=true) hx h.abs i (fun _ _ _=>by rw[e];exact W);rw[e]at u F;refine⟨s',(aEr x i).trans e,v,MiS.reach h.rch u,fun p q p0 p1 q0 q1 hn=>?_,fun p p0 p1 z=>h.dn p p0 p1 (aGi p0 z),h.room.tick i⟩;rw[F];have r:nY x i=0↔(dL i x.cls.length=true∧(clM x i).up=true):=by
    unfold nY;rw[if_pos A];unfold yM;cases hu:(clM x i).up with
    |true=>simp[A]
    |false=>simp
   by_cases b:nY x i=0
   ·rw[if_pos (r.1 b),if_neg (show¬nY x i≠0 from fun z=>z b)];unfold aBd jP;rw[if_neg hn];by_cases M:q=i
    ·subst M;rw[if_pos rfl,if_pos (show p<c.clients∧p≠q∧q=q from⟨p1,hn,rfl⟩),h.ah p q p0 p1 q0 q1 hn]
    ·rw[if_neg M,if_neg (show¬(p<c.clients∧p≠i∧q=i)from fun z=>M z.2.2)];by_cases O:p=i
     ·subst O;rw[if_pos rfl,if_pos (show p=p∧q<c.clients∧q≠p from⟨rfl,q1,M⟩),h.ah p q p0 p1 q0 q1 hn]
     ·rw[if_neg O,if_neg (show¬(p=i∧q<c.clients∧q≠i)from fun z=>O z.1),h.ah p q p0 p1 q0 q1 hn]
   ·rw[if_neg (show¬(dL i x.cls.length=true∧(clM x i).up=true)from fun z=>b (r.2 z)),if_pos (show nY x i≠0 from b),h.ah p q p0 p1 q0 q1 hn]
 by_cases t:o.kind=3
 ·obtain⟨j,g⟩:=w (by omega) (by omega) (by omega);rw[j,g];unfold eZ;rw[if_neg l,if_neg m,if_pos t];exact h.go (nF _ _) (by have:=xA (gd:=true) hx (by rw[e];exact h.i0 hx) h.abs (qY x o);rw[e]at this;exact this) (fun p p0 z=>wO hx p0 z) (h.room.deliver hx _)
 by_cases B:o.kind=4
 ·obtain⟨j,g⟩:=w (by omega) (by omega) (by omega);rw[j,g];unfold eZ;rw[if_neg l,if_neg m,if_neg t,if_pos B];exact h.go (uG _ _) ⟨s,.refl s,aHR h.abs _,rfl⟩ (fun p p0 z=>by rw[yW]at z;exact z) (h.room.drop _)
 by_cases E:o.kind=5
 ·obtain⟨j,g⟩:=w (by omega) (by omega) (by omega);rw[j,g];unfold eZ;rw[if_neg l,if_neg m,if_neg t,if_neg B,if_pos E];exact h.go (aBK _ _) ⟨s,.refl s,aHm h.abs _,rfl⟩ (fun p p0 z=>by
   have:upM (lE x (qY x o)) p=upM x p:=by unfold lE;split<;>rfl
   rw[this]at z;exact z) (h.room.copy _)
 by_cases I:o.kind=6
 ·obtain⟨j,g⟩:=w (by omega) (by omega) (by omega);rw[j,g];unfold eZ;rw[if_neg l,if_neg m,if_neg t,if_neg B,if_neg E,if_pos I];exact h.go (aEy _ _ _ _) (by rw[←e];exact aGG hx h.abs _ _ _) (fun p p0 z=>by
   have:upM (lM x (cO o.x (2*c.f+1)) (cO o.y 9) (cO o.z 30)) p=upM x p:=by unfold lM;split<;>rfl
   rw[this]at z;exact z) (h.room.fail hx _ _ _)
 by_cases L:o.kind=7
 ·obtain⟨j,g⟩:=w (by omega) (by omega) (by omega);rw[j,g];unfold eZ;rw[if_neg l,if_neg m,if_neg t,if_neg B,if_neg E,if_neg I,if_pos L];exact h.go (aCU _ _) (by rw[←e];exact aFj hx h.abs _) (fun p p0 z=>by
   have:upM (jM x (cO o.x (2*c.f+1))) p=upM x p:=by unfold jM;split<;>rfl
   rw[this]at z;exact z) (h.room.start hx _)
 by_cases D:o.kind=8
 ·have P:eZ c x a d o=kP x (cO o.x c.clients):=by
   unfold eZ;rw[if_neg l,if_neg m,if_neg t,if_neg B,if_neg E,if_neg I,if_neg L,if_pos D]
  have j:fQ c x a d o=if kE x (cO o.x c.clients)=0 then iP a (cO o.x c.clients)else a:=by unfold fQ;simp[D]
  have g:fN c x d o=if kE x (cO o.x c.clients)=0 then(fun p=>if p=cO o.x c.clients then true else d p)else d:=by unfold fN;simp[D]
  rw[P,j,g];generalize cO o.x c.clients=i at*;obtain⟨s',u,v,F⟩:=aHZ (gd:=true) hx h.abs i;rw[e]at u;have r:kE x i=0↔(dL i x.cls.length=true∧(clM x i).up=true):=by
   unfold kE;rw[if_pos A];unfold aEP;cases hu:(clM x i).up with
   |true=>simp[A]
   |false=>simp
  refine⟨s',(aEj x i).trans e,v,MiS.reach h.rch u,fun p q p0 p1 q0 q1 hn=>?_,fun p p0 p1 z=>?_,h.room.lose i⟩
  ·rw[F];by_cases b:kE x i=0
   ·rw[if_pos (r.1 b),if_pos b];unfold iP;split
    ·rfl
    ·exact h.ah p q p0 p1 q0 q1 hn
   ·rw[if_neg (show¬(dL i x.cls.length=true∧(clM x i).up=true)from fun z=>b (r.2 z)),if_neg b];exact h.ah p q p0 p1 q0 q1 hn
  ·obtain⟨V,T⟩:=aG4 p0 z;have K:=h.dn p p0 p1 V;by_cases b:kE x i=0
   ·rw[if_pos b];show(if p=i then true else d p)=false;rw[if_neg (T A)];exact K
   ·rw[if_neg b];exact K
 by_cases H:o.kind=9
 ·have P:eZ c x a d o=iB x (cO o.x c.clients):=by
   unfold eZ;rw[if_neg l,if_neg m,if_neg t,if_neg B,if_neg E,if_neg I,if_neg L,if_neg D,if_pos H]
  have j:fQ c x a d o=if gO x (cO o.x c.clients)=0 then iP a (cO o.x c.clients)else a:=by unfold fQ;simp[H]
  have g:fN c x d o=if gO x (cO o.x c.clients)=0 then(fun p=>if p=cO o.x c.clients then false else d p)else d:=by unfold fN;simp[H]
  rw[P,j,g];generalize cO o.x c.clients=i at*;obtain⟨s',u,v,F⟩:=aDR (gd:=true) hx h.abs i;rw[e]at u;have r:gO x i=0↔(dL i x.cls.length=true∧dW (clM x i)=0):=by
   unfold gO;rw[if_pos A];simp[A]
  refine⟨s',(aAO x i).trans e,v,MiS.reach h.rch u,fun p q p0 p1 q0 q1 hn=>?_,fun p p0 p1 z=>?_,h.room.ret i⟩
  ·rw[F];by_cases b:gO x i=0
   ·rw[if_pos (r.1 b),if_pos b];unfold iP;split
    ·rfl
    ·exact h.ah p q p0 p1 q0 q1 hn
   ·rw[if_neg (show¬(dL i x.cls.length=true∧dW (clM x i)=0)from fun z=>b (r.2 z)),if_neg b];exact h.ah p q p0 p1 q0 q1 hn
  ·by_cases b:gO x i=0
   ·rw[if_pos b];show(if p=i then false else d p)=false;split
    ·rfl
    ·rename_i Q;rcases zO p0 z with z|z
     ·exact absurd z.1 Q
     ·exact h.dn p p0 p1 z
   ·rw[if_neg b];rcases zO p0 z with z|z
    ·exact absurd (r.2 ⟨z.2.1,z.2.2⟩) b
    ·exact h.dn p p0 p1 z
 obtain⟨j,g⟩:=w m D H;rw[j,g];unfold eZ;rw[if_neg l,if_neg m,if_neg t,if_neg B,if_neg E,if_neg I,if_neg L,if_neg D,if_neg H];by_cases J:o.kind=10
 ·rw[if_pos J];exact wZ 300 hx h
 ·rw[if_neg J];exact⟨s,h⟩
end
end Go.Proofs.YtbbdgokdfhdpiaaGreatDoor
