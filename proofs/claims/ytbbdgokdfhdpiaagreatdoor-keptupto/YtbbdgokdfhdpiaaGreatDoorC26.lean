/- A part of the proof: KpSim. -/
import Derived.Test.YtbbdgokdfhdpiaaGreatDoorC21
import Derived.Test.YtbbdgokdfhdpiaaGreatDoorC24
namespace Go.Proofs.YtbbdgokdfhdpiaaGreatDoor
set_option linter.all false
set_option maxRecDepth 100000
set_option maxHeartbeats 40000000
open Go.Proofs.Tryz Go.RowKit
section
variable (f:Cf)(c:Ct)(o:On)
theorem aAh(r t:Int)(v:Vl):(fU c o r t v).up=c.up:=(qA c o r t v).1.up
theorem wG:(gN c o).up=c.up:=by
 unfold gN;split
 ·exact aAh _ _ _ _ _
 ·rfl
theorem aA8:(jJ f c o).up=c.up:=by
 unfold jJ;split
 ·exact wG _ _
 ·exact aAh _ _ _ _ _
theorem aEj(k l t:Int):(iM c k l t).up=c.up:=by
 unfold iM;split
 ·rfl
 ·exact(wG _ _).trans (mS _ k l t).1.up
theorem aFH:(kK f c).up=c.up:=by
 unfold kK;split
 ·rfl
 ·dsimp only;split
  ·split
   ·exact aA8 _ _ _
   ·rfl
  ·rfl
theorem aBS:(iJ f c o).up=c.up:=by
 unfold iJ;dsimp only;split
 ·exact aAh _ _ _ _ _
 ·rfl
theorem aEg(m:Mg):(iP f c o m).up=c.up:=by
 unfold iP;split
 ·rfl
 ·dsimp only;split
  ·rfl
  ·split
   ·exact aBS _ _ _
   ·exact aAh _ _ _ _ _
theorem aF5(m:Mg):(gF f c m).up=c.up:=by
 unfold gF;split
 ·rfl
 ·split
  ·rfl
  ·split
   ·rfl
   ·split
    ·exact aA8 _ _ _
    ·split
     ·exact aEg _ _ _ _
     ·rfl
theorem aCF:(lT c).up=false:=by
 unfold lT;split
 ·assumption
 ·rfl
end
def upM(x:Mo)(p:Int):Bool:=(clM x p).up
section
variable {x:Mo}
theorem uI{i:Int}(hi:dD i x.cls.length=true)(c:Ct)(e:List Ev){p:Int}(hp:0≤p):clM (gX x i c e) p=if p=i then c else clM x p:=by
 obtain⟨b,a⟩:=(dC _ _).1 hi;unfold clM gX;dsimp only;simp only[aQ];by_cases q:p=i
 ·subst q;rw[if_pos rfl,List.getElem?_set_self (by omega)]
  rfl
 ·rw[if_neg q,List.getElem?_set_ne (by omega)]
theorem oB{i:Int}(hi:dD i x.cls.length=true){c:Ct}{e:List Ev}(hc:c.up=true→(clM x i).up=true){p:Int}(hp:0≤p)(h:upM (gX x i c e) p=true):upM x p=true:=by
 unfold upM at h⊢;rw[uI hi c e hp]at h;by_cases q:p=i
 ·rw[if_pos q]at h;rw[q];exact hc h
 ·rw[if_neg q]at h;exact h
theorem wM(i p:Int):upM (eI x i) p=upM x p:=by unfold eI;split<;>rfl
theorem aDj{i k l t p:Int}(hp:0≤p)(h:upM (fI x i k l t) p=true):upM x p=true:=by
 unfold fI at h;by_cases a:kP x i k l t=true
 ·rw[if_pos a]at h;exact h
 ·rw[if_neg a]at h;have b:dD i x.cls.length=true:=by
   simp only[kP,Bool.or_eq_true,Bool.not_eq_true',not_or,Bool.not_eq_false]at a;exact a.1.1.1
  exact oB b (fun z=>by rw[aEj]at z;exact z) hp h
theorem aEd{i p:Int}(hp:0≤p)(h:upM (jQ x i) p=true):upM x p=true:=by
 unfold jQ at h;by_cases a:dD i x.cls.length=true
 ·rw[if_pos a]at h;exact oB a (fun z=>by rw[aFH]at z;exact z) hp h
 ·rw[if_neg a]at h;exact h
theorem aEP{i p:Int}(hp:0≤p)(h:upM (jX x i) p=true):upM x p=true∧(dD i x.cls.length=true→p≠i):=by
 unfold jX at h;by_cases a:dD i x.cls.length=true
 ·rw[if_pos a]at h;refine⟨oB a (fun z=>by rw[aCF]at z;cases z) hp h,fun _ q=>?_⟩;unfold upM at h;rw[uI a _ _ hp,if_pos q,aCF]at h;cases h
 ·rw[if_neg a]at h;exact⟨h,fun z=>absurd z a⟩
theorem xA{i p:Int}(hp:0≤p)(h:upM (gR x i) p=true):p=i∧dD i x.cls.length=true∧eM (clM x i)=0∨upM x p=true:=by
 unfold gR at h;by_cases a:dD i x.cls.length=true
 ·rw[if_pos a]at h;by_cases q:p=i
  ·by_cases b:eM (clM x i)=0
   ·exact Or.inl ⟨q,a,b⟩
   ·right;refine oB a (fun z=>?_) hp h;unfold iS at z;rw[if_pos b]at z;exact z
  ·right;unfold upM at h⊢;rw[uI a _ _ hp,if_neg q]at h;exact h
 ·rw[if_neg a]at h;exact Or.inr h
theorem uO{N:Int}(hx:MoOk N x){i p:Int}(hp:0≤p)(h:upM (fA x i) p=true):upM x p=true:=by
 unfold fA at h;by_cases c:dD i x.net.length=true
 ·rw[if_pos c]at h;have a:=hx.msg c;generalize jM x i=m at a h;by_cases b:iT m=true
  ·rw[if_pos b]at h;have e:upM (jL (eI x i) m.dst (iZ (acM x m.dst) m) (kL (acM x m.dst) m)) p=upM (eI x i) p:=rfl;rw[e,wM]at h;exact h
  ·rw[if_neg b]at h;have f:¬(m.kind=1∨m.kind=3):=by simpa[iT]using b
   have j:=a.toC f;have g:(eI x i).cls=x.cls:=(qJ x i).1;have d:dD m.dst (eI x i).cls.length=true:=by rw[g];exact(dC _ _).2 ⟨a.d1,by rw[hx.nc];omega⟩
   have:=oB d (fun z=>by
    rw[aF5]at z;unfold clM at z⊢;rw[g];exact z) hp h
   rw[wM]at this;exact this
 ·rw[if_neg c]at h;exact h
end
structure KSim(c:Cf)(x:Mo)(a:Int→Int→Int)(d:Int→Bool)(s:Sx):Prop where
 cf:x.cf=c
 abs:Abs x s
 rch:MiR c true s
 ah:∀p q,0≤p→p<c.clients→0≤q→q<c.clients→p≠q→s.ah p q=a p q
 dn:∀p,0≤p→p<c.clients→upM x p=true→d p=false
 room:MoRoom x
theorem aEA{c:Cf}(hr:aBb c)(l1:1≤c.clients):KSim c (kN c) (fun _ _=>0) (fun _=>false) qO:=
 ⟨rfl,aFN c,.new,fun _ _ _ _ _ _ _=>rfl,fun _ _ _ _=>rfl,.new hr⟩
section
variable {c:Cf}{x:Mo}{a:Int→Int→Int}{d:Int→Bool}{s:Sx}{N:Int}
theorem KSim.i0(h:KSim c x a d s)(hx:MoOk N x):I0 c s:=by
 have b:=dE hx.conf;rw[h.cf]at b;exact(h.rch.inv (by omega) (by omega)).1
theorem KSim.go(h:KSim c x a d s){y:Mo}(hcf:y.cf=x.cf)(hg:∃s',MiS c true s s'∧Abs y s'∧s'.ah=s.ah)(hu:∀p,0≤p→upM y p=true→upM x p=true)(hr:MoRoom y):∃s',KSim c y a d s':=by
 obtain⟨s',b,f,e⟩:=hg;exact⟨s',hcf.trans h.cf,f,MiS.reach h.rch b,by rw[e];exact h.ah,fun p p0 p1 z=>h.dn p p0 p1 (hu p p0 z),hr⟩
theorem uX:∀(n:Nat) {x:Mo} {s:Sx} {N:Int},MoOk N x→KSim c x a d s→∃s',KSim c (gV n x) a d s'
 |0,x,s,N,_,h=>⟨s,h⟩
 |n+1,x,s,N,hx,h=>by
  unfold gV;by_cases q:x.net.length=0
  ·rw[if_pos q];exact⟨s,h⟩
  ·rw[if_neg q];obtain⟨s',h'⟩:=h.go (mG x 0) (by have:=uY (gd:=true) hx (by rw[h.cf];exact h.i0 hx) h.abs 0;rw[h.cf]at this;exact this) (fun p p0 z=>uO hx p0 z) (h.room.deliver hx 0);exact uX n (hx.deliver 0) h'
theorem aDe(hx:MoOk N x)(h:KSim c x a d s)(o:St)(hN:N≤1000000000000):∃s',KSim c (eN c x a d o) (fK c x a d o) (fH c x d o) s':=by
 have S:=dE hx.conf;have e:=h.cf;rw[e]at S;obtain⟨⟨X,Y⟩,⟨Z,l2⟩,_⟩:=S;have C:=dN (c:=o.x) (n:=c.clients) (by omega);have A:dD (cI o.x c.clients) x.cls.length=true:=(dC _ _).2 ⟨C.1,by rw[hx.nc,e];omega⟩;have w:¬(o.kind=2)→¬(o.kind=8)→¬(o.kind=9)→fK c x a d o=a∧fH c x d o=d:=fun v h8 h9=>by
  unfold fK fH;rw[if_neg v,if_neg (show¬((o.kind=8∧jO x (cI o.x c.clients)=0)∨(o.kind=9∧gD x (cI o.x c.clients)=0))from fun z=>z.elim (fun z=>h8 z.1) (fun z=>h9 z.1)),if_neg (show¬(o.kind=8∧jO x (cI o.x c.clients)=0)from fun z=>h8 z.1),if_neg (show¬(o.kind=9∧gD x (cI o.x c.clients)=0)from fun z=>h9 z.1)];exact⟨rfl,rfl⟩
 by_cases l:o.kind=1
 ·obtain⟨j,g⟩:=w (by omega) (by omega) (by omega);rw[j,g];unfold eN;rw[if_pos l];exact h.go (aAU _ _ _ _ _) (by rw[←e];exact aDb hx h.abs _ _ _ _) (fun p p0 z=>aDj p0 z) (h.room.begin _ _ _ _)
 by_cases m:o.kind=2
 ·have g:fH c x d o=d:=by unfold fH;rw[if_neg (fun z=>by omega),if_neg (fun z=>by omega)]
  rw[g];unfold eN fK;rw[if_neg l,if_pos m,if_pos m];unfold mW nR;by_cases G:jP c a d (cI o.x c.clients) c.clients.toNat=true
  ·rw[if_pos G,if_pos G];exact⟨s,h⟩
  ·rw[if_neg G,if_neg G];generalize cI o.x c.clients=i at*;have W:zL c s i:=fun k k0 l kn ku=>by
    have R:upM x k=true:=by
     unfold upM;rw[←h.abs.clAt ((dC _ _).2 ⟨k0,by rw[hx.nc,e];omega⟩)];exact ku
    have K:=h.dn k k0 l R;rw[h.ah k i k0 l C.1 C.2 kn];refine aH fun hn=>G ?_;unfold jP;rw[List.any_eq_true];refine⟨k.toNat,List.mem_range.2 (by omega),?_⟩;have U:((k.toNat:Nat):Int)=k:=by omega
    rw[U,K];simp only[Bool.not_false,Bool.and_true,aR,aM];exact⟨kn,by omega⟩
   obtain⟨s',u,v,F⟩:=aFe (gd:=true) hx h.abs i (fun _ _ _=>by rw[e];exact W);rw[e]at u F;refine⟨s',(aCJ x i).trans e,v,MiS.reach h.rch u,fun p q p0 p1 q0 q1 hn=>?_,fun p p0 p1 z=>h.dn p p0 p1 (aEd p0 z),h.room.tick i⟩;rw[F];have r:mZ x i=0↔(dD i x.cls.length=true∧(clM x i).up=true):=by
    unfold mZ;rw[if_pos A];unfold wC;cases hu:(clM x i).up with
    |true=>simp[A]
    |false=>simp
   by_cases b:mZ x i=0
   ·rw[if_pos (r.1 b),if_neg (show¬mZ x i≠0 from fun z=>z b)];unfold zT jE;rw[if_neg hn];by_cases M:q=i
    ·subst M;rw[if_pos rfl,if_pos (show p<c.clients∧p≠q∧q=q from⟨p1,hn,rfl⟩),h.ah p q p0 p1 q0 q1 hn]
    ·rw[if_neg M,if_neg (show¬(p<c.clients∧p≠i∧q=i)from fun z=>M z.2.2)];by_cases O:p=i
     ·subst O;rw[if_pos rfl,if_pos (show p=p∧q<c.clients∧q≠p from⟨rfl,q1,M⟩),h.ah p q p0 p1 q0 q1 hn]
     ·rw[if_neg O,if_neg (show¬(p=i∧q<c.clients∧q≠i)from fun z=>O z.1),h.ah p q p0 p1 q0 q1 hn]
   ·rw[if_neg (show¬(dD i x.cls.length=true∧(clM x i).up=true)from fun z=>b (r.2 z)),if_pos (show mZ x i≠0 from b),h.ah p q p0 p1 q0 q1 hn]
 by_cases t:o.kind=3
 ·obtain⟨j,g⟩:=w (by omega) (by omega) (by omega);rw[j,g];unfold eN;rw[if_neg l,if_neg m,if_pos t];exact h.go (mG _ _) (by have:=uY (gd:=true) hx (by rw[e];exact h.i0 hx) h.abs (pP x o);rw[e]at this;exact this) (fun p p0 z=>uO hx p0 z) (h.room.deliver hx _)
 by_cases B:o.kind=4
 ·obtain⟨j,g⟩:=w (by omega) (by omega) (by omega);rw[j,g];unfold eN;rw[if_neg l,if_neg m,if_neg t,if_pos B];exact h.go (sI _ _) ⟨s,.refl s,aFt h.abs _,rfl⟩ (fun p p0 z=>by rw[wM]at z;exact z) (h.room.drop _)
 by_cases E:o.kind=5
 ·obtain⟨j,g⟩:=w (by omega) (by omega) (by omega);rw[j,g];unfold eN;rw[if_neg l,if_neg m,if_neg t,if_neg B,if_pos E];exact h.go (aAu _ _) ⟨s,.refl s,aE4 h.abs _,rfl⟩ (fun p p0 z=>by
   have:upM (kI x (pP x o)) p=upM x p:=by unfold kI;split<;>rfl
   rw[this]at z;exact z) (h.room.copy _)
 by_cases I:o.kind=6
 ·obtain⟨j,g⟩:=w (by omega) (by omega) (by omega);rw[j,g];unfold eN;rw[if_neg l,if_neg m,if_neg t,if_neg B,if_neg E,if_pos I];exact h.go (aCO _ _ _ _) (by rw[←e];exact aEv hx h.abs _ _ _) (fun p p0 z=>by
   have:upM (kQ x (cI o.x (2*c.f+1)) (cI o.y 9) (cI o.z 30)) p=upM x p:=by unfold kQ;split<;>rfl
   rw[this]at z;exact z) (h.room.fail hx _ _ _)
 by_cases L:o.kind=7
 ·obtain⟨j,g⟩:=w (by omega) (by omega) (by omega);rw[j,g];unfold eN;rw[if_neg l,if_neg m,if_neg t,if_neg B,if_neg E,if_neg I,if_pos L];exact h.go (aBw _ _) (by rw[←e];exact aDq hx h.abs _) (fun p p0 z=>by
   have:upM (jB x (cI o.x (2*c.f+1))) p=upM x p:=by unfold jB;split<;>rfl
   rw[this]at z;exact z) (h.room.start hx _)
 by_cases D:o.kind=8
 ·have P:eN c x a d o=jX x (cI o.x c.clients):=by
   unfold eN;rw[if_neg l,if_neg m,if_neg t,if_neg B,if_neg E,if_neg I,if_neg L,if_pos D]
  have j:fK c x a d o=if jO x (cI o.x c.clients)=0 then iD a (cI o.x c.clients)else a:=by unfold fK;simp[D]
  have g:fH c x d o=if jO x (cI o.x c.clients)=0 then(fun p=>if p=cI o.x c.clients then true else d p)else d:=by unfold fH;simp[D]
  rw[P,j,g];generalize cI o.x c.clients=i at*;obtain⟨s',u,v,F⟩:=aFB (gd:=true) hx h.abs i;rw[e]at u;have r:jO x i=0↔(dD i x.cls.length=true∧(clM x i).up=true):=by
   unfold jO;rw[if_pos A];unfold aC2;cases hu:(clM x i).up with
   |true=>simp[A]
   |false=>simp
  refine⟨s',(aCD x i).trans e,v,MiS.reach h.rch u,fun p q p0 p1 q0 q1 hn=>?_,fun p p0 p1 z=>?_,h.room.lose i⟩
  ·rw[F];by_cases b:jO x i=0
   ·rw[if_pos (r.1 b),if_pos b];unfold iD;split
    ·rfl
    ·exact h.ah p q p0 p1 q0 q1 hn
   ·rw[if_neg (show¬(dD i x.cls.length=true∧(clM x i).up=true)from fun z=>b (r.2 z)),if_neg b];exact h.ah p q p0 p1 q0 q1 hn
  ·obtain⟨V,T⟩:=aEP p0 z;have K:=h.dn p p0 p1 V;by_cases b:jO x i=0
   ·rw[if_pos b];show(if p=i then true else d p)=false;rw[if_neg (T A)];exact K
   ·rw[if_neg b];exact K
 by_cases H:o.kind=9
 ·have P:eN c x a d o=gR x (cI o.x c.clients):=by
   unfold eN;rw[if_neg l,if_neg m,if_neg t,if_neg B,if_neg E,if_neg I,if_neg L,if_neg D,if_pos H]
  have j:fK c x a d o=if gD x (cI o.x c.clients)=0 then iD a (cI o.x c.clients)else a:=by unfold fK;simp[H]
  have g:fH c x d o=if gD x (cI o.x c.clients)=0 then(fun p=>if p=cI o.x c.clients then false else d p)else d:=by unfold fH;simp[H]
  rw[P,j,g];generalize cI o.x c.clients=i at*;obtain⟨s',u,v,F⟩:=aCd (gd:=true) hx h.abs i;rw[e]at u;have r:gD x i=0↔(dD i x.cls.length=true∧eM (clM x i)=0):=by
   unfold gD;rw[if_pos A];simp[A]
  refine⟨s',(yZ x i).trans e,v,MiS.reach h.rch u,fun p q p0 p1 q0 q1 hn=>?_,fun p p0 p1 z=>?_,h.room.ret i⟩
  ·rw[F];by_cases b:gD x i=0
   ·rw[if_pos (r.1 b),if_pos b];unfold iD;split
    ·rfl
    ·exact h.ah p q p0 p1 q0 q1 hn
   ·rw[if_neg (show¬(dD i x.cls.length=true∧eM (clM x i)=0)from fun z=>b (r.2 z)),if_neg b];exact h.ah p q p0 p1 q0 q1 hn
  ·by_cases b:gD x i=0
   ·rw[if_pos b];show(if p=i then false else d p)=false;split
    ·rfl
    ·rename_i Q;rcases xA p0 z with z|z
     ·exact absurd z.1 Q
     ·exact h.dn p p0 p1 z
   ·rw[if_neg b];rcases xA p0 z with z|z
    ·exact absurd (r.2 ⟨z.2.1,z.2.2⟩) b
    ·exact h.dn p p0 p1 z
 obtain⟨j,g⟩:=w m D H;rw[j,g];unfold eN;rw[if_neg l,if_neg m,if_neg t,if_neg B,if_neg E,if_neg I,if_neg L,if_neg D,if_neg H];by_cases J:o.kind=10
 ·rw[if_pos J];exact uX 300 hx h
 ·rw[if_neg J];exact⟨s,h⟩
end
end Go.Proofs.YtbbdgokdfhdpiaaGreatDoor
