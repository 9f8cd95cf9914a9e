/- A part of the proof: KpSim. -/
import Derived.Test.YtbbdgokdfhdpiaaGreatDoorB21
import Derived.Test.YtbbdgokdfhdpiaaGreatDoorB24
namespace Go.Proofs.YtbbdgokdfhdpiaaGreatDoor
set_option linter.all false
set_option maxRecDepth 100000
set_option maxHeartbeats 40000000
open Go.Proofs.Tryz Go.RowKit
section
variable (f:Cf)(c:Ct)(o:On)
theorem aAs(r t:Int)(v:Vl):(eH c o r t v).up=c.up:=(kB c o r t v).1.up
theorem wS:(gV c o).up=c.up:=by
 unfold gV;split
 ·exact aAs _ _ _ _ _
 ·rfl
theorem aBm:(jM f c o).up=c.up:=by
 unfold jM;split
 ·exact wS _ _
 ·exact aAs _ _ _ _ _
theorem aEA(k l t:Int):(iN c k l t).up=c.up:=by
 unfold iN;split
 ·rfl
 ·exact(wS _ _).trans (iZ _ k l t).1.up
theorem aF3:(kQ f c).up=c.up:=by
 unfold kQ;split
 ·rfl
 ·dsimp only;split
  ·split
   ·exact aBm _ _ _
   ·rfl
  ·rfl
theorem aB5:(iL f c o).up=c.up:=by
 unfold iL;dsimp only;split
 ·exact aAs _ _ _ _ _
 ·rfl
theorem aEx(m:Mg):(iQ f c o m).up=c.up:=by
 unfold iQ;split
 ·rfl
 ·dsimp only;split
  ·rfl
  ·split
   ·exact aB5 _ _ _
   ·exact aAs _ _ _ _ _
theorem aGz(m:Mg):(gO f c m).up=c.up:=by
 unfold gO;split
 ·rfl
 ·split
  ·rfl
  ·split
   ·rfl
   ·split
    ·exact aBm _ _ _
    ·split
     ·exact aEx _ _ _ _
     ·rfl
theorem aCO:(jP c).up=false:=by
 unfold jP;split
 ·assumption
 ·rfl
end
def upM(x:Mo)(p:Int):Bool:=(clM x p).up
section
variable {x:Mo}
theorem uU{i:Int}(hi:dH i x.cls.length=true)(c:Ct)(e:List Ev){p:Int}(hp:0≤p):clM (hZ x i c e) p=if p=i then c else clM x p:=by
 obtain⟨b,a⟩:=(dG _ _).1 hi;unfold clM hZ;dsimp only;simp only[aQ];by_cases q:p=i
 ·subst q;rw[if_pos rfl,List.getElem?_set_self (by omega)]
  rfl
 ·rw[if_neg q,List.getElem?_set_ne (by omega)]
theorem oM{i:Int}(hi:dH i x.cls.length=true){c:Ct}{e:List Ev}(hc:c.up=true→(clM x i).up=true){p:Int}(hp:0≤p)(h:upM (hZ x i c e) p=true):upM x p=true:=by
 unfold upM at h⊢;rw[uU hi c e hp]at h;by_cases q:p=i
 ·rw[if_pos q]at h;rw[q];exact hc h
 ·rw[if_neg q]at h;exact h
theorem wX(i p:Int):upM (eO x i) p=upM x p:=by unfold eO;split<;>rfl
theorem aDu{i k l t p:Int}(hp:0≤p)(h:upM (fO x i k l t) p=true):upM x p=true:=by
 unfold fO at h;by_cases a:kY x i k l t=true
 ·rw[if_pos a]at h;exact h
 ·rw[if_neg a]at h;have b:dH i x.cls.length=true:=by
   simp only[kY,Bool.or_eq_true,Bool.not_eq_true',not_or,Bool.not_eq_false]at a;exact a.1.1.1
  exact oM b (fun z=>by rw[aEA]at z;exact z) hp h
theorem aEs{i p:Int}(hp:0≤p)(h:upM (jV x i) p=true):upM x p=true:=by
 unfold jV at h;by_cases a:dH i x.cls.length=true
 ·rw[if_pos a]at h;exact oM a (fun z=>by rw[aF3]at z;exact z) hp h
 ·rw[if_neg a]at h;exact h
theorem aE6{i p:Int}(hp:0≤p)(h:upM (kE x i) p=true):upM x p=true∧(dH i x.cls.length=true→p≠i):=by
 unfold kE at h;by_cases a:dH i x.cls.length=true
 ·rw[if_pos a]at h;refine⟨oM a (fun z=>by rw[aCO]at z;cases z) hp h,fun _ q=>?_⟩;unfold upM at h;rw[uU a _ _ hp,if_pos q,aCO]at h;cases h
 ·rw[if_neg a]at h;exact⟨h,fun z=>absurd z a⟩
theorem xK{i p:Int}(hp:0≤p)(h:upM (gZ x i) p=true):p=i∧dH i x.cls.length=true∧eK (clM x i)=0∨upM x p=true:=by
 unfold gZ at h;by_cases a:dH i x.cls.length=true
 ·rw[if_pos a]at h;by_cases q:p=i
  ·by_cases b:eK (clM x i)=0
   ·exact Or.inl ⟨q,a,b⟩
   ·right;refine oM a (fun z=>?_) hp h;unfold gE at z;rw[if_pos b]at z;exact z
  ·right;unfold upM at h⊢;rw[uU a _ _ hp,if_neg q]at h;exact h
 ·rw[if_neg a]at h;exact Or.inr h
theorem vA{N:Int}(hx:MoOk N x){i p:Int}(hp:0≤p)(h:upM (fE x i) p=true):upM x p=true:=by
 unfold fE at h;by_cases c:dH i x.net.length=true
 ·rw[if_pos c]at h;have a:=hx.msg c;generalize jR x i=m at a h;by_cases b:iT m=true
  ·rw[if_pos b]at h;have e:upM (jQ (eO x i) m.dst (jB (acM x m.dst) m) (kR (acM x m.dst) m)) p=upM (eO x i) p:=rfl;rw[e,wX]at h;exact h
  ·rw[if_neg b]at h;have f:¬(m.kind=1∨m.kind=3):=by simpa[iT]using b
   have j:=a.toC f;have g:(eO x i).cls=x.cls:=(qX x i).1;have d:dH m.dst (eO x i).cls.length=true:=by rw[g];exact(dG _ _).2 ⟨a.d1,by rw[hx.nc];omega⟩
   have:=oM d (fun z=>by
    rw[aGz]at z;unfold clM at z⊢;rw[g];exact z) hp h
   rw[wX]at this;exact this
 ·rw[if_neg c]at h;exact h
end
structure KSim(c:Cf)(x:Mo)(a:Int→Int→Int)(d:Int→Bool)(s:Sx):Prop where
 cf:x.cf=c
 abs:Abs x s
 rch:MiR c true s
 ah:∀p q,0≤p→p<c.clients→0≤q→q<c.clients→p≠q→s.ah p q=a p q
 dn:∀p,0≤p→p<c.clients→upM x p=true→d p=false
 room:MoRoom x
theorem aER{c:Cf}(hr:aBp c)(l1:1≤c.clients):KSim c (kV c) (fun _ _=>0) (fun _=>false) pE:=
 ⟨rfl,aGa c,.new,fun _ _ _ _ _ _ _=>rfl,fun _ _ _ _=>rfl,.new hr⟩
section
variable {c:Cf}{x:Mo}{a:Int→Int→Int}{d:Int→Bool}{s:Sx}{N:Int}
theorem KSim.i0(h:KSim c x a d s)(hx:MoOk N x):I0 c s:=by
 have b:=dK hx.conf;rw[h.cf]at b;exact(h.rch.inv (by omega) (by omega)).1
theorem KSim.go(h:KSim c x a d s){y:Mo}(hcf:y.cf=x.cf)(hg:∃s',MiS c true s s'∧Abs y s'∧s'.ah=s.ah)(hu:∀p,0≤p→upM y p=true→upM x p=true)(hr:MoRoom y):∃s',KSim c y a d s':=by
 obtain⟨s',b,f,e⟩:=hg;exact⟨s',hcf.trans h.cf,f,MiS.reach h.rch b,by rw[e];exact h.ah,fun p p0 p1 z=>h.dn p p0 p1 (hu p p0 z),hr⟩
theorem vJ:∀(n:Nat) {x:Mo} {s:Sx} {N:Int},MoOk N x→KSim c x a d s→∃s',KSim c (hP n x) a d s'
 |0,x,s,N,_,h=>⟨s,h⟩
 |n+1,x,s,N,hx,h=>by
  unfold hP;by_cases q:x.net.length=0
  ·rw[if_pos q];exact⟨s,h⟩
  ·rw[if_neg q];obtain⟨s',h'⟩:=h.go (mT x 0) (by have:=vK (gd:=true) hx (by rw[h.cf];exact h.i0 hx) h.abs 0;rw[h.cf]at this;exact this) (fun p p0 z=>vA hx p0 z) (h.room.deliver hx 0);exact vJ n (hx.deliver 0) h'
theorem aDp(hx:MoOk N x)(h:KSim c x a d s)(o:St)(hN:N≤1000000000000):∃s',KSim c (eU c x a d o) (fQ c x a d o) (fL c x d o) s':=by
 have S:=dK hx.conf;have e:=h.cf;rw[e]at S;obtain⟨⟨X,Y⟩,⟨Z,l2⟩,_⟩:=S;have C:=dU (c:=o.x) (n:=c.clients) (by omega);have A:dH (cH o.x c.clients) x.cls.length=true:=(dG _ _).2 ⟨C.1,by rw[hx.nc,e];omega⟩;have w:¬(o.kind=2)→¬(o.kind=8)→¬(o.kind=9)→fQ c x a d o=a∧fL c x d o=d:=fun v h8 h9=>by
  unfold fQ fL;rw[if_neg v,if_neg (show¬((o.kind=8∧jT x (cH o.x c.clients)=0)∨(o.kind=9∧gL x (cH o.x c.clients)=0))from fun z=>z.elim (fun z=>h8 z.1) (fun z=>h9 z.1)),if_neg (show¬(o.kind=8∧jT x (cH o.x c.clients)=0)from fun z=>h8 z.1),if_neg (show¬(o.kind=9∧gL x (cH o.x c.clients)=0)from fun z=>h9 z.1)];exact⟨rfl,rfl⟩
 by_cases l:o.kind=1
 ·obtain⟨j,g⟩:=w (by omega) (by omega) (by omega);rw[j,g];unfold eU;rw[if_pos l];exact h.go (aA7 _ _ _ _ _) (by rw[←e];exact aDm hx h.abs _ _ _ _) (fun p p0 z=>aDu p0 z) (h.room.begin _ _ _ _)
 by_cases m:o.kind=2
 ·have g:fL c x d o=d:=by unfold fL;rw[if_neg (fun z=>by omega),if_neg (fun z=>by omega)]
  rw[g];unfold eU fQ;rw[if_neg l,if_pos m,if_pos m];unfold nG oD;by_cases G:jU c a d (cH o.x c.clients) c.clients.toNat=true
  ·rw[if_pos G,if_pos G];exact⟨s,h⟩
  ·rw[if_neg G,if_neg G];generalize cH o.x c.clients=i at*;have W:zT c s i:=fun k k0 l kn ku=>by
    have R:upM x k=true:=by
     unfold upM;rw[←h.abs.clAt ((dG _ _).2 ⟨k0,by rw[hx.nc,e];omega⟩)];exact ku
    have K:=h.dn k k0 l R;rw[h.ah k i k0 l C.1 C.2 kn];refine aH fun hn=>G ?_;unfold jU;rw[List.any_eq_true];refine⟨k.toNat,List.mem_range.2 (by omega),?_⟩;have U:((k.toNat:Nat):Int)=k:=by omega
    rw[U,K];simp only[Bool.not_false,Bool.and_true,aR,aM];exact⟨kn,by omega⟩
   obtain⟨s',u,v,F⟩:=aFx (gd:=true) hx h.abs i (fun _ _ _=>by rw[e];exact W);rw[e]at u F;refine⟨s',(aCS x i).trans e,v,MiS.reach h.rch u,fun p q p0 p1 q0 q1 hn=>?_,fun p p0 p1 z=>h.dn p p0 p1 (aEs p0 z),h.room.tick i⟩;rw[F];have r:nI x i=0↔(dH i x.cls.length=true∧(clM x i).up=true):=by
    unfold nI;rw[if_pos A];unfold wO;cases hu:(clM x i).up with
    |true=>simp[A]
    |false=>simp
   by_cases b:nI x i=0
   ·rw[if_pos (r.1 b),if_neg (show¬nI x i≠0 from fun z=>z b)];unfold oE jG;rw[if_neg hn];by_cases M:q=i
    ·subst M;rw[if_pos rfl,if_pos (show p<c.clients∧p≠q∧q=q from⟨p1,hn,rfl⟩),h.ah p q p0 p1 q0 q1 hn]
    ·rw[if_neg M,if_neg (show¬(p<c.clients∧p≠i∧q=i)from fun z=>M z.2.2)];by_cases O:p=i
     ·subst O;rw[if_pos rfl,if_pos (show p=p∧q<c.clients∧q≠p from⟨rfl,q1,M⟩),h.ah p q p0 p1 q0 q1 hn]
     ·rw[if_neg O,if_neg (show¬(p=i∧q<c.clients∧q≠i)from fun z=>O z.1),h.ah p q p0 p1 q0 q1 hn]
   ·rw[if_neg (show¬(dH i x.cls.length=true∧(clM x i).up=true)from fun z=>b (r.2 z)),if_pos (show nI x i≠0 from b),h.ah p q p0 p1 q0 q1 hn]
 by_cases t:o.kind=3
 ·obtain⟨j,g⟩:=w (by omega) (by omega) (by omega);rw[j,g];unfold eU;rw[if_neg l,if_neg m,if_pos t];exact h.go (mT _ _) (by have:=vK (gd:=true) hx (by rw[e];exact h.i0 hx) h.abs (qD x o);rw[e]at this;exact this) (fun p p0 z=>vA hx p0 z) (h.room.deliver hx _)
 by_cases B:o.kind=4
 ·obtain⟨j,g⟩:=w (by omega) (by omega) (by omega);rw[j,g];unfold eU;rw[if_neg l,if_neg m,if_neg t,if_pos B];exact h.go (sU _ _) ⟨s,.refl s,aFN h.abs _,rfl⟩ (fun p p0 z=>by rw[wX]at z;exact z) (h.room.drop _)
 by_cases E:o.kind=5
 ·obtain⟨j,g⟩:=w (by omega) (by omega) (by omega);rw[j,g];unfold eU;rw[if_neg l,if_neg m,if_neg t,if_neg B,if_pos E];exact h.go (aAG _ _) ⟨s,.refl s,aFn h.abs _,rfl⟩ (fun p p0 z=>by
   have:upM (kO x (qD x o)) p=upM x p:=by unfold kO;split<;>rfl
   rw[this]at z;exact z) (h.room.copy _)
 by_cases I:o.kind=6
 ·obtain⟨j,g⟩:=w (by omega) (by omega) (by omega);rw[j,g];unfold eU;rw[if_neg l,if_neg m,if_neg t,if_neg B,if_neg E,if_pos I];exact h.go (aCZ _ _ _ _) (by rw[←e];exact aEM hx h.abs _ _ _) (fun p p0 z=>by
   have:upM (lA x (cH o.x (2*c.f+1)) (cH o.y 9) (cH o.z 30)) p=upM x p:=by unfold lA;split<;>rfl
   rw[this]at z;exact z) (h.room.fail hx _ _ _)
 by_cases L:o.kind=7
 ·obtain⟨j,g⟩:=w (by omega) (by omega) (by omega);rw[j,g];unfold eU;rw[if_neg l,if_neg m,if_neg t,if_neg B,if_neg E,if_neg I,if_pos L];exact h.go (aBG _ _) (by rw[←e];exact aDC hx h.abs _) (fun p p0 z=>by
   have:upM (jD x (cH o.x (2*c.f+1))) p=upM x p:=by unfold jD;split<;>rfl
   rw[this]at z;exact z) (h.room.start hx _)
 by_cases D:o.kind=8
 ·have P:eU c x a d o=kE x (cH o.x c.clients):=by
   unfold eU;rw[if_neg l,if_neg m,if_neg t,if_neg B,if_neg E,if_neg I,if_neg L,if_pos D]
  have j:fQ c x a d o=if jT x (cH o.x c.clients)=0 then fN a (cH o.x c.clients)else a:=by unfold fQ;simp[D]
  have g:fL c x d o=if jT x (cH o.x c.clients)=0 then(fun p=>if p=cH o.x c.clients then true else d p)else d:=by unfold fL;simp[D]
  rw[P,j,g];generalize cH o.x c.clients=i at*;obtain⟨s',u,v,F⟩:=aFW (gd:=true) hx h.abs i;rw[e]at u;have r:jT x i=0↔(dH i x.cls.length=true∧(clM x i).up=true):=by
   unfold jT;rw[if_pos A];unfold aDd;cases hu:(clM x i).up with
   |true=>simp[A]
   |false=>simp
  refine⟨s',(aCM x i).trans e,v,MiS.reach h.rch u,fun p q p0 p1 q0 q1 hn=>?_,fun p p0 p1 z=>?_,h.room.lose i⟩
  ·rw[F];by_cases b:jT x i=0
   ·rw[if_pos (r.1 b),if_pos b];unfold fN;split
    ·rfl
    ·exact h.ah p q p0 p1 q0 q1 hn
   ·rw[if_neg (show¬(dH i x.cls.length=true∧(clM x i).up=true)from fun z=>b (r.2 z)),if_neg b];exact h.ah p q p0 p1 q0 q1 hn
  ·obtain⟨V,T⟩:=aE6 p0 z;have K:=h.dn p p0 p1 V;by_cases b:jT x i=0
   ·rw[if_pos b];show(if p=i then true else d p)=false;rw[if_neg (T A)];exact K
   ·rw[if_neg b];exact K
 by_cases H:o.kind=9
 ·have P:eU c x a d o=gZ x (cH o.x c.clients):=by
   unfold eU;rw[if_neg l,if_neg m,if_neg t,if_neg B,if_neg E,if_neg I,if_neg L,if_neg D,if_pos H]
  have j:fQ c x a d o=if gL x (cH o.x c.clients)=0 then fN a (cH o.x c.clients)else a:=by unfold fQ;simp[H]
  have g:fL c x d o=if gL x (cH o.x c.clients)=0 then(fun p=>if p=cH o.x c.clients then false else d p)else d:=by unfold fL;simp[H]
  rw[P,j,g];generalize cH o.x c.clients=i at*;obtain⟨s',u,v,F⟩:=aCo (gd:=true) hx h.abs i;rw[e]at u;have r:gL x i=0↔(dH i x.cls.length=true∧eK (clM x i)=0):=by
   unfold gL;rw[if_pos A];simp[A]
  refine⟨s',(zI x i).trans e,v,MiS.reach h.rch u,fun p q p0 p1 q0 q1 hn=>?_,fun p p0 p1 z=>?_,h.room.ret i⟩
  ·rw[F];by_cases b:gL x i=0
   ·rw[if_pos (r.1 b),if_pos b];unfold fN;split
    ·rfl
    ·exact h.ah p q p0 p1 q0 q1 hn
   ·rw[if_neg (show¬(dH i x.cls.length=true∧eK (clM x i)=0)from fun z=>b (r.2 z)),if_neg b];exact h.ah p q p0 p1 q0 q1 hn
  ·by_cases b:gL x i=0
   ·rw[if_pos b];show(if p=i then false else d p)=false;split
    ·rfl
    ·rename_i Q;rcases xK p0 z with z|z
     ·exact absurd z.1 Q
     ·exact h.dn p p0 p1 z
   ·rw[if_neg b];rcases xK p0 z with z|z
    ·exact absurd (r.2 ⟨z.2.1,z.2.2⟩) b
    ·exact h.dn p p0 p1 z
 obtain⟨j,g⟩:=w m D H;rw[j,g];unfold eU;rw[if_neg l,if_neg m,if_neg t,if_neg B,if_neg E,if_neg I,if_neg L,if_neg D,if_neg H];by_cases J:o.kind=10
 ·rw[if_pos J];exact vJ 300 hx h
 ·rw[if_neg J];exact⟨s,h⟩
end
end Go.Proofs.YtbbdgokdfhdpiaaGreatDoor
