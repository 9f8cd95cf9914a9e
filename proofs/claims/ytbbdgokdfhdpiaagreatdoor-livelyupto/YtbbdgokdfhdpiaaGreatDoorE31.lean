/- A part of the proof: KpSim. -/
import Derived.Test.YtbbdgokdfhdpiaaGreatDoorE26
import Derived.Test.YtbbdgokdfhdpiaaGreatDoorE27
namespace Go.Proofs.YtbbdgokdfhdpiaaGreatDoor
set_option linter.all false
set_option maxRecDepth 100000
set_option maxHeartbeats 40000000
open Go.Proofs.Tryz Go.RowKit
section
variable (f:Cf)(c:Ct)(o:On)
theorem aAJ(r t:Int)(v:Vl):(fT c o r t v).up=c.up:=(qC c o r t v).1.up
theorem wW:(gG c o).up=c.up:=by
 unfold gG;split
 ·exact aAJ _ _ _ _ _
 ·rfl
theorem aBD:(jL f c o).up=c.up:=by
 unfold jL;split
 ·exact wW _ _
 ·exact aAJ _ _ _ _ _
theorem aEY(k l t:Int):(iN c k l t).up=c.up:=by
 unfold iN;split
 ·rfl
 ·exact(wW _ _).trans (mY _ k l t).1.up
theorem aGk:(kT f c).up=c.up:=by
 unfold kT;split
 ·rfl
 ·dsimp only;split
  ·split
   ·exact aBD _ _ _
   ·rfl
  ·rfl
theorem aCo:(hP f c o).up=c.up:=by
 unfold hP;dsimp only;split
 ·exact aAJ _ _ _ _ _
 ·rfl
theorem aEV(m:Mg):(iS f c o m).up=c.up:=by
 unfold iS;split
 ·rfl
 ·dsimp only;split
  ·rfl
  ·split
   ·exact aCo _ _ _
   ·exact aAJ _ _ _ _ _
theorem aGN(m:Mg):(fI f c m).up=c.up:=by
 unfold fI;split
 ·rfl
 ·split
  ·rfl
  ·split
   ·rfl
   ·split
    ·exact aBD _ _ _
    ·split
     ·exact aEV _ _ _ _
     ·rfl
theorem aDd:(lY c).up=false:=by
 unfold lY;split
 ·assumption
 ·rfl
end
def upM(x:Mo)(p:Int):Bool:=(clM x p).up
section
variable {x:Mo}
theorem uT{i:Int}(hi:dH i x.cls.length=true)(c:Ct)(e:List Ev){p:Int}(hp:0≤p):clM (fW x i c e) p=if p=i then c else clM x p:=by
 obtain⟨b,a⟩:=(cV _ _).1 hi;unfold clM fW;dsimp only;simp only[aQ];by_cases q:p=i
 ·subst q;rw[if_pos rfl,List.getElem?_set_self (by omega)]
  rfl
 ·rw[if_neg q,List.getElem?_set_ne (by omega)]
theorem oH{i:Int}(hi:dH i x.cls.length=true){c:Ct}{e:List Ev}(hc:c.up=true→(clM x i).up=true){p:Int}(hp:0≤p)(h:upM (fW x i c e) p=true):upM x p=true:=by
 unfold upM at h⊢;rw[uT hi c e hp]at h;by_cases q:p=i
 ·rw[if_pos q]at h;rw[q];exact hc h
 ·rw[if_neg q]at h;exact h
theorem xD(i p:Int):upM (eL x i) p=upM x p:=by unfold eL;split<;>rfl
theorem aDW{i k l t p:Int}(hp:0≤p)(h:upM (eY x i k l t) p=true):upM x p=true:=by
 unfold eY at h;by_cases a:jW x i k l t=true
 ·rw[if_pos a]at h;exact h
 ·rw[if_neg a]at h;have b:dH i x.cls.length=true:=by
   simp only[jW,Bool.or_eq_true,Bool.not_eq_true',not_or,Bool.not_eq_false]at a;exact a.1.1.1
  exact oH b (fun z=>by rw[aEY]at z;exact z) hp h
theorem aES{i p:Int}(hp:0≤p)(h:upM (kC x i) p=true):upM x p=true:=by
 unfold kC at h;by_cases a:dH i x.cls.length=true
 ·rw[if_pos a]at h;exact oH a (fun z=>by rw[aGk]at z;exact z) hp h
 ·rw[if_neg a]at h;exact h
theorem aBy{i p:Int}(hp:0≤p)(h:upM (iR x i) p=true):upM x p=true∧(dH i x.cls.length=true→p≠i):=by
 unfold iR at h;by_cases a:dH i x.cls.length=true
 ·rw[if_pos a]at h;refine⟨oH a (fun z=>by rw[aDd]at z;cases z) hp h,fun _ q=>?_⟩;unfold upM at h;rw[uT a _ _ hp,if_pos q,aDd]at h;cases h
 ·rw[if_neg a]at h;exact⟨h,fun z=>absurd z a⟩
theorem xS{i p:Int}(hp:0≤p)(h:upM (eM x i) p=true):p=i∧dH i x.cls.length=true∧eK (clM x i)=0∨upM x p=true:=by
 unfold eM at h;by_cases a:dH i x.cls.length=true
 ·rw[if_pos a]at h;by_cases q:p=i
  ·by_cases b:eK (clM x i)=0
   ·exact Or.inl ⟨q,a,b⟩
   ·right;refine oH a (fun z=>?_) hp h;unfold iQ at z;rw[if_pos b]at z;exact z
  ·right;unfold upM at h⊢;rw[uT a _ _ hp,if_neg q]at h;exact h
 ·rw[if_neg a]at h;exact Or.inr h
theorem pM{N:Int}(hx:MoOk N x){i p:Int}(hp:0≤p)(h:upM (cZ x i) p=true):upM x p=true:=by
 unfold cZ at h;by_cases c:dH i x.net.length=true
 ·rw[if_pos c]at h;have a:=hx.msg c;generalize jO x i=m at a h;by_cases b:gF m=true
  ·rw[if_pos b]at h;have e:upM (iX (eL x i) m.dst (gX (acM x m.dst) m) (jU (acM x m.dst) m)) p=upM (eL x i) p:=rfl;rw[e,xD]at h;exact h
  ·rw[if_neg b]at h;have f:¬(m.kind=1∨m.kind=3):=by simpa[gF]using b
   have j:=a.toC f;have g:(eL x i).cls=x.cls:=(qQ x i).1;have d:dH m.dst (eL x i).cls.length=true:=by rw[g];exact(cV _ _).2 ⟨a.d1,by rw[hx.nc];omega⟩
   have:=oH d (fun z=>by
    rw[aGN]at z;unfold clM at z⊢;rw[g];exact z) hp h
   rw[xD]at this;exact this
 ·rw[if_neg c]at h;exact h
end
structure KSim(c:Cf)(x:Mo)(a:Int→Int→Int)(d:Int→Bool)(s:Sx):Prop where
 cf:x.cf=c
 abs:Abs x s
 rch:MiR c true s
 ah:∀p q,0≤p→p<c.clients→0≤q→q<c.clients→p≠q→s.ah p q=a p q
 dn:∀p,0≤p→p<c.clients→upM x p=true→d p=false
 room:MoRoom x
theorem aFd{c:Cf}(hr:aAH c)(l1:1≤c.clients):KSim c (kV c) (fun _ _=>0) (fun _=>false) qX:=
 ⟨rfl,aGt c,.new,fun _ _ _ _ _ _ _=>rfl,fun _ _ _ _=>rfl,.new hr⟩
section
variable {c:Cf}{x:Mo}{a:Int→Int→Int}{d:Int→Bool}{s:Sx}{N:Int}
theorem KSim.i0(h:KSim c x a d s)(hx:MoOk N x):I0 c s:=by
 have b:=dE hx.conf;rw[h.cf]at b;exact(h.rch.inv (by omega) (by omega)).1
theorem KSim.go(h:KSim c x a d s){y:Mo}(hcf:y.cf=x.cf)(hg:∃s',MiS c true s s'∧Abs y s'∧s'.ah=s.ah)(hu:∀p,0≤p→upM y p=true→upM x p=true)(hr:MoRoom y):∃s',KSim c y a d s':=by
 obtain⟨s',b,f,e⟩:=hg;exact⟨s',hcf.trans h.cf,f,MiS.reach h.rch b,by rw[e];exact h.ah,fun p p0 p1 z=>h.dn p p0 p1 (hu p p0 z),hr⟩
theorem vG:∀(n:Nat) {x:Mo} {s:Sx} {N:Int},MoOk N x→KSim c x a d s→∃s',KSim c (fV n x) a d s'
 |0,x,s,N,_,h=>⟨s,h⟩
 |n+1,x,s,N,hx,h=>by
  unfold fV;by_cases q:x.net.length=0
  ·rw[if_pos q];exact⟨s,h⟩
  ·rw[if_neg q];obtain⟨s',h'⟩:=h.go (kJ x 0) (by have:=pY (gd:=true) hx (by rw[h.cf];exact h.i0 hx) h.abs 0;rw[h.cf]at this;exact this) (fun p p0 z=>pM hx p0 z) (h.room.deliver hx 0);exact vG n (hx.deliver 0) h'
theorem aDR(hx:MoOk N x)(h:KSim c x a d s)(o:St)(hN:N≤1000000000000):∃s',KSim c (fB c x a d o) (fX c x a d o) (fR c x d o) s':=by
 have S:=dE hx.conf;have e:=h.cf;rw[e]at S;obtain⟨⟨X,Y⟩,⟨Z,l2⟩,_⟩:=S;have C:=dP (c:=o.x) (n:=c.clients) (by omega);have A:dH (cI o.x c.clients) x.cls.length=true:=(cV _ _).2 ⟨C.1,by rw[hx.nc,e];omega⟩;have w:¬(o.kind=2)→¬(o.kind=8)→¬(o.kind=9)→fX c x a d o=a∧fR c x d o=d:=fun v h8 h9=>by
  unfold fX fR;rw[if_neg v,if_neg (show¬((o.kind=8∧jQ x (cI o.x c.clients)=0)∨(o.kind=9∧fN x (cI o.x c.clients)=0))from fun z=>z.elim (fun z=>h8 z.1) (fun z=>h9 z.1)),if_neg (show¬(o.kind=8∧jQ x (cI o.x c.clients)=0)from fun z=>h8 z.1),if_neg (show¬(o.kind=9∧fN x (cI o.x c.clients)=0)from fun z=>h9 z.1)];exact⟨rfl,rfl⟩
 by_cases l:o.kind=1
 ·obtain⟨j,g⟩:=w (by omega) (by omega) (by omega);rw[j,g];unfold fB;rw[if_pos l];exact h.go (sU _ _ _ _ _) (by rw[←e];exact aDO hx h.abs _ _ _ _) (fun p p0 z=>aDW p0 z) (h.room.begin _ _ _ _)
 by_cases m:o.kind=2
 ·have g:fR c x d o=d:=by unfold fR;rw[if_neg (fun z=>by omega),if_neg (fun z=>by omega)]
  rw[g];unfold fB fX;rw[if_neg l,if_pos m,if_pos m];unfold nB nU;by_cases G:kB c a d (cI o.x c.clients) c.clients.toNat=true
  ·rw[if_pos G,if_pos G];exact⟨s,h⟩
  ·rw[if_neg G,if_neg G];generalize cI o.x c.clients=i at*;have W:aAj c s i:=fun k k0 l kn ku=>by
    have R:upM x k=true:=by
     unfold upM;rw[←h.abs.clAt ((cV _ _).2 ⟨k0,by rw[hx.nc,e];omega⟩)];exact ku
    have K:=h.dn k k0 l R;rw[h.ah k i k0 l C.1 C.2 kn];refine aH fun hn=>G ?_;unfold kB;rw[List.any_eq_true];refine⟨k.toNat,List.mem_range.2 (by omega),?_⟩;have U:((k.toNat:Nat):Int)=k:=by omega
    rw[U,K];simp only[Bool.not_false,Bool.and_true,aR,aM];exact⟨kn,by omega⟩
   obtain⟨s',u,v,F⟩:=aFS (gd:=true) hx h.abs i (fun _ _ _=>by rw[e];exact W);rw[e]at u F;refine⟨s',(aDj x i).trans e,v,MiS.reach h.rch u,fun p q p0 p1 q0 q1 hn=>?_,fun p p0 p1 z=>h.dn p p0 p1 (aES p0 z),h.room.tick i⟩;rw[F];have r:nD x i=0↔(dH i x.cls.length=true∧(clM x i).up=true):=by
    unfold nD;rw[if_pos A];unfold wS;cases hu:(clM x i).up with
    |true=>simp[A]
    |false=>simp
   by_cases b:nD x i=0
   ·rw[if_pos (r.1 b),if_neg (show¬nD x i≠0 from fun z=>z b)];unfold aAu jP;rw[if_neg hn];by_cases M:q=i
    ·subst M;rw[if_pos rfl,if_pos (show p<c.clients∧p≠q∧q=q from⟨p1,hn,rfl⟩),h.ah p q p0 p1 q0 q1 hn]
    ·rw[if_neg M,if_neg (show¬(p<c.clients∧p≠i∧q=i)from fun z=>M z.2.2)];by_cases O:p=i
     ·subst O;rw[if_pos rfl,if_pos (show p=p∧q<c.clients∧q≠p from⟨rfl,q1,M⟩),h.ah p q p0 p1 q0 q1 hn]
     ·rw[if_neg O,if_neg (show¬(p=i∧q<c.clients∧q≠i)from fun z=>O z.1),h.ah p q p0 p1 q0 q1 hn]
   ·rw[if_neg (show¬(dH i x.cls.length=true∧(clM x i).up=true)from fun z=>b (r.2 z)),if_pos (show nD x i≠0 from b),h.ah p q p0 p1 q0 q1 hn]
 by_cases t:o.kind=3
 ·obtain⟨j,g⟩:=w (by omega) (by omega) (by omega);rw[j,g];unfold fB;rw[if_neg l,if_neg m,if_pos t];exact h.go (kJ _ _) (by have:=pY (gd:=true) hx (by rw[e];exact h.i0 hx) h.abs (pQ x o);rw[e]at this;exact this) (fun p p0 z=>pM hx p0 z) (h.room.deliver hx _)
 by_cases B:o.kind=4
 ·obtain⟨j,g⟩:=w (by omega) (by omega) (by omega);rw[j,g];unfold fB;rw[if_neg l,if_neg m,if_neg t,if_pos B];exact h.go (sX _ _) ⟨s,.refl s,aF7 h.abs _,rfl⟩ (fun p p0 z=>by rw[xD]at z;exact z) (h.room.drop _)
 by_cases E:o.kind=5
 ·obtain⟨j,g⟩:=w (by omega) (by omega) (by omega);rw[j,g];unfold fB;rw[if_neg l,if_neg m,if_neg t,if_neg B,if_pos E];exact h.go (aAV _ _) ⟨s,.refl s,aFH h.abs _,rfl⟩ (fun p p0 z=>by
   have:upM (kS x (pQ x o)) p=upM x p:=by unfold kS;split<;>rfl
   rw[this]at z;exact z) (h.room.copy _)
 by_cases I:o.kind=6
 ·obtain⟨j,g⟩:=w (by omega) (by omega) (by omega);rw[j,g];unfold fB;rw[if_neg l,if_neg m,if_neg t,if_neg B,if_neg E,if_pos I];exact h.go (vY _ _ _ _) (by rw[←e];exact aBf hx h.abs _ _ _) (fun p p0 z=>by
   have:upM (iO x (cI o.x (2*c.f+1)) (cI o.y 9) (cI o.z 30)) p=upM x p:=by unfold iO;split<;>rfl
   rw[this]at z;exact z) (h.room.fail hx _ _ _)
 by_cases L:o.kind=7
 ·obtain⟨j,g⟩:=w (by omega) (by omega) (by omega);rw[j,g];unfold fB;rw[if_neg l,if_neg m,if_neg t,if_neg B,if_neg E,if_neg I,if_pos L];exact h.go (pZ _ _) (by rw[←e];exact zZ hx h.abs _) (fun p p0 z=>by
   have:upM (eN x (cI o.x (2*c.f+1))) p=upM x p:=by unfold eN;split<;>rfl
   rw[this]at z;exact z) (h.room.start hx _)
 by_cases D:o.kind=8
 ·have P:fB c x a d o=iR x (cI o.x c.clients):=by
   unfold fB;rw[if_neg l,if_neg m,if_neg t,if_neg B,if_neg E,if_neg I,if_neg L,if_pos D]
  have j:fX c x a d o=if jQ x (cI o.x c.clients)=0 then iM a (cI o.x c.clients)else a:=by unfold fX;simp[D]
  have g:fR c x d o=if jQ x (cI o.x c.clients)=0 then(fun p=>if p=cI o.x c.clients then true else d p)else d:=by unfold fR;simp[D]
  rw[P,j,g];generalize cI o.x c.clients=i at*;obtain⟨s',u,v,F⟩:=aB5 (gd:=true) hx h.abs i;rw[e]at u;have r:jQ x i=0↔(dH i x.cls.length=true∧(clM x i).up=true):=by
   unfold jQ;rw[if_pos A];unfold aDE;cases hu:(clM x i).up with
   |true=>simp[A]
   |false=>simp
  refine⟨s',(vU x i).trans e,v,MiS.reach h.rch u,fun p q p0 p1 q0 q1 hn=>?_,fun p p0 p1 z=>?_,h.room.lose i⟩
  ·rw[F];by_cases b:jQ x i=0
   ·rw[if_pos (r.1 b),if_pos b];unfold iM;split
    ·rfl
    ·exact h.ah p q p0 p1 q0 q1 hn
   ·rw[if_neg (show¬(dH i x.cls.length=true∧(clM x i).up=true)from fun z=>b (r.2 z)),if_neg b];exact h.ah p q p0 p1 q0 q1 hn
  ·obtain⟨V,T⟩:=aBy p0 z;have K:=h.dn p p0 p1 V;by_cases b:jQ x i=0
   ·rw[if_pos b];show(if p=i then true else d p)=false;rw[if_neg (T A)];exact K
   ·rw[if_neg b];exact K
 by_cases H:o.kind=9
 ·have P:fB c x a d o=eM x (cI o.x c.clients):=by
   unfold fB;rw[if_neg l,if_neg m,if_neg t,if_neg B,if_neg E,if_neg I,if_neg L,if_neg D,if_pos H]
  have j:fX c x a d o=if fN x (cI o.x c.clients)=0 then iM a (cI o.x c.clients)else a:=by unfold fX;simp[H]
  have g:fR c x d o=if fN x (cI o.x c.clients)=0 then(fun p=>if p=cI o.x c.clients then false else d p)else d:=by unfold fR;simp[H]
  rw[P,j,g];generalize cI o.x c.clients=i at*;obtain⟨s',u,v,F⟩:=aCK (gd:=true) hx h.abs i;rw[e]at u;have r:fN x i=0↔(dH i x.cls.length=true∧eK (clM x i)=0):=by
   unfold fN;rw[if_pos A];simp[A]
  refine⟨s',(qF x i).trans e,v,MiS.reach h.rch u,fun p q p0 p1 q0 q1 hn=>?_,fun p p0 p1 z=>?_,h.room.ret i⟩
  ·rw[F];by_cases b:fN x i=0
   ·rw[if_pos (r.1 b),if_pos b];unfold iM;split
    ·rfl
    ·exact h.ah p q p0 p1 q0 q1 hn
   ·rw[if_neg (show¬(dH i x.cls.length=true∧eK (clM x i)=0)from fun z=>b (r.2 z)),if_neg b];exact h.ah p q p0 p1 q0 q1 hn
  ·by_cases b:fN x i=0
   ·rw[if_pos b];show(if p=i then false else d p)=false;split
    ·rfl
    ·rename_i Q;rcases xS p0 z with z|z
     ·exact absurd z.1 Q
     ·exact h.dn p p0 p1 z
   ·rw[if_neg b];rcases xS p0 z with z|z
    ·exact absurd (r.2 ⟨z.2.1,z.2.2⟩) b
    ·exact h.dn p p0 p1 z
 obtain⟨j,g⟩:=w m D H;rw[j,g];unfold fB;rw[if_neg l,if_neg m,if_neg t,if_neg B,if_neg E,if_neg I,if_neg L,if_neg D,if_neg H];by_cases J:o.kind=10
 ·rw[if_pos J];exact vG 300 hx h
 ·rw[if_neg J];exact⟨s,h⟩
end
end Go.Proofs.YtbbdgokdfhdpiaaGreatDoor
