/- A part of the proof: SimMo, PMor4, PMor6. -/
import Derived.Test.YtbbdgokdfhdpiaaGreatDoorA8
import Derived.Test.YtbbdgokdfhdpiaaGreatDoorA33
namespace Go.Proofs.YtbbdgokdfhdpiaaGreatDoor
set_option linter.all false
set_option maxRecDepth 100000
set_option maxHeartbeats 40000000
open Go.Proofs.Tryz Go.RowKit
structure RhOk(r:Rc):Prop where
 h3:r.heard.length≤3
 hv:∀m ∈ r.heard,lI m.val
 b3:r.back.length≤3
 a0:0≤r.at_
 a1:r.at_≤r.clock
theorem RhOk.of{r r':Rc}(h:RhOk r)(e1:r'.heard=r.heard)(e2:r'.back=r.back)(e3:r'.at_=r.at_)(e4:r.clock≤r'.clock):RhOk r':=
 ⟨by rw[e1];exact h.h3,by rw[e1];exact h.hv,by rw[e2];exact h.b3,by rw[e3];exact h.a0,by rw[e3];exact Int.le_trans h.a1 e4⟩
theorem aFU(r:Rc)(a b:Int):(fP r a b).heard=r.heard∧(fP r a b).back=r.back∧(fP r a b).at_=r.at_∧(fP r a b).clock=r.clock:=by
 unfold fP wG;dsimp only
 repeat' split
 all_goals exact⟨rfl,rfl,rfl,rfl⟩
theorem aAB{r:Rc}(h:RhOk r)(a b:Int):RhOk (fP r a b):=by
 obtain⟨f,d,e,c⟩:=aFU r a b;exact h.of f d e (by rw[c];exact aL _)
theorem aEd{r:Rc}(h:RhOk r):RhOk (mM r):=by
 unfold mM;split
 ·exact aAB h _ _
 ·exact⟨aI _,fun m hm=>(by cases hm),aI _,Int.le_trans h.a0 h.a1,aL _⟩
section
variable {g:Cf} {r:Rc}
theorem aGL(h:RhOk r):RhOk (tS g r):=by
 unfold tS;split
 ·exact aEd h
 ·exact aAB h _ _
theorem aGo(h:RhOk r):RhOk (kV g r):=by
 unfold kV;dsimp only;split
 ·exact aAB h _ _
 ·exact h.of rfl rfl rfl (aL _)
theorem aJh(h:RhOk r){m:Mg}(hm:lI m.val)(hl:r.busy=true→r.asked=false→r.heard.length≤2)(hl2:r.busy=true→r.back.length≤2):RhOk (fZ g r m):=by
 unfold fZ;split
 ·exact h
 ·rename_i f;have c:r.busy=true:=by
   cases c:r.busy with
   |true=>rfl
   |false=>exact absurd (show iO r m=true by unfold iO;rw[c];simp) f
  split
  ·exact aGL (h.of rfl rfl rfl (aL _))
  ·split
   ·split
    ·exact h
    ·split
     ·exact h
     ·rename_i d;have e:=hl c (by simpa using d);have b:RhOk {r with heard:=r.heard++[m]}:=⟨by show(r.heard++[m]).length≤3;rw[aD,aK];omega,fun x a=>by
       rcases aO.1 (show x ∈ r.heard++[m]from a)with a|a
       ·exact h.hv x a
       ·rw[List.mem_singleton]at a;subst a;exact hm,h.b3,h.a0,h.a1⟩
      split
      ·exact aGo b
      ·exact b
   ·split
    ·split
     ·exact h
     ·have e:=hl2 c;have b:RhOk {r with back:=r.back++[m.src]}:=⟨h.h3,h.hv,by show(r.back++[m.src]).length≤3;rw[aD,aK];omega,h.a0,h.a1⟩;split
      ·exact aAB b _ _
      ·exact b
    ·exact h
end
theorem aIH{r:Rc}(h:RhOk r)(k l t:Int):RhOk (rY r k l t):=by
 unfold rY;split
 ·exact h
 ·exact aEd (h.of rfl rfl rfl (aL _))
theorem aJ8{g:Cf}{r:Rc}(h:RhOk r):RhOk (vZ g r):=by
 unfold vZ;split
 ·exact h
 ·dsimp only;have a:RhOk {r with clock:=r.clock+1}:=h.of rfl rfl rfl (by show r.clock≤r.clock+1;omega);split
  ·exact aGL a
  ·exact a
theorem aGn(i inc:Int)(up:Bool):RhOk (gP i inc up):=⟨aI _,fun m hm=>(by cases hm),aI _,aL _,aL _⟩
theorem aJR{r:Rc}(h:RhOk r):RhOk (wV r):=by
 unfold wV;split
 ·exact h
 ·exact aGn _ _ _
theorem aG7{r:Rc}(h:RhOk r):RhOk (oA r):=by
 unfold oA;split
 ·exact h
 ·exact aGn _ _ _
theorem pD(a:Ra):(stepR a).keep=a.keep:=(kP a).2.2.2
theorem zM(room:Int)(s:List Int):∀(n:Nat) (a:Ra),(kG room s n a).keep=a.keep
 |0,a=>rfl
 |n+1,a=>by
  rw[wK];split
  ·rfl
  ·split
   ·exact pD a
   ·rw[zM room s n,pD]
theorem wE(room:Int)(a:Ra)(r:Rw):(dR room a r).1.keep=a.keep:=by
 unfold dR;dsimp only;split
 ·rfl
 ·split
  ·exact pD a
  ·split
   ·exact pD a
   ·show(stepR (stepR a)).keep=a.keep;rw[pD,pD]
section
variable (g:Cf) (a:Ra)
theorem aIl(m:Mg):(gO g a m).keep=a.keep:=by
 unfold gO;split
 ·rfl
 ·split
  ·rfl
  ·split
   ·exact wE _ _ _
   ·split
    ·unfold gX;rw[zM,wE]
    ·exact wE _ _ _
theorem aEo:(jF g a).keep=a.keep:=by
 unfold jF;dsimp only;split
 ·unfold gX;rw[zM]
 ·rfl
theorem aFv:(oT g a).keep=a.keep:=by
 unfold oT;split
 ·rfl
 ·split<;>rw[aEo]<;>rfl
end
theorem aH0{a:Ra}(h:0≤a.keep){n q:Int}(hq:0≤q):0≤(uG a n q).keep:=by
 unfold uG;split
 ·exact h
 ·split<;>exact hq
theorem aAT{c:Ct}(h:c.up=true):wD c:=fun e=>by rw[h]at e;cases e
theorem aCW(c:Ct)(o:On)(res tok:Int)(v:Vl):(gW c o res tok v).up=c.up:=by
 unfold gW kZ oK nP;dsimp only
 repeat' split
 all_goals rfl
theorem aBr(c:Ct)(o:On):(gE c o).up=c.up:=by
 unfold gE;split
 ·exact aCW _ _ _ _ _
 ·rfl
theorem aEw(g:Cf)(c:Ct)(o:On):(lA g c o).up=c.up:=by
 unfold lA;split
 ·exact aBr _ _
 ·exact aCW _ _ _ _ _
theorem aKI(c:Ct)(k l t:Int):(eI c k l t).up=c.up:=by
 unfold eI;split
 ·rfl
 ·split<;>rfl
theorem aJg(c:Ct)(k l t:Int):(gU c k l t).up=c.up:=by
 unfold gU;split
 ·rfl
 ·rw[aBr,aKI]
section
variable (g:Cf) (c:Ct)
theorem aKf:(lU g c).up=c.up:=by
 unfold lU;split
 ·rfl
 ·dsimp only;cases hd:c.doing with
  |none=>rfl
  |some o=>
   dsimp only;split
   ·exact aEw _ _ _
   ·rfl
theorem aFo(o:On):(iJ g c o).up=c.up:=by
 unfold iJ;dsimp only;split
 ·exact aCW _ _ _ _ _
 ·rfl
theorem aIK(o:On)(m:Mg):(jT g c o m).up=c.up:=by
 unfold jT;split
 ·rfl
 ·dsimp only;split
  ·rfl
  ·split
   ·exact aFo _ _ _
   ·exact aCW _ _ _ _ _
theorem aKl(m:Mg):(gQ g c m).up=c.up:=by
 unfold gQ;split
 ·rfl
 ·cases hd:c.doing with
  |none=>rfl
  |some o=>
   dsimp only;split
   ·rfl
   ·split
    ·exact aEw _ _ _
    ·split
     ·exact aIK _ _ _ _
     ·rfl
end
theorem aFY{c:Ct}(h:wD c)(k l t:Int):wD (gU c k l t):=fun e=>by
 have hu:c.up=false:=by rw[←aJg c k l t];exact e
 have:gU c k l t=c:=by unfold gU;rw[if_pos (by unfold jH;rw[if_pos hu];decide)]
 rw[this];exact h hu
theorem aHx{g:Cf}{c:Ct}(h:wD c):wD (lU g c):=fun e=>by
 have hu:c.up=false:=by rw[←aKf g c];exact e
 have:lU g c=c:=by unfold lU;rw[if_pos hu]
 rw[this];exact h hu
theorem aHG{g:Cf}{c:Ct}(h:wD c)(m:Mg):wD (gQ g c m):=fun e=>by
 have hu:c.up=false:=by rw[←aKl g c m];exact e
 have:gQ g c m=c:=by unfold gQ;rw[if_pos hu]
 rw[this];exact h hu
theorem aGU{c:Ct}(h:wD c):wD (uB c):=by
 unfold uB;split
 ·exact h
 ·exact fun _=>⟨rfl,rfl,rfl,rfl,rfl,rfl⟩
theorem aES{c:Ct}(h:wD c):wD (mT c):=by
 unfold mT;split
 ·exact h
 ·exact aAT rfl
def aKr(x:Mo):Prop:=∀i (h:i<x.cls.length) o,x.cls[i].doing=some o→o.att.awaited≠4→∀m ∈ x.net,m.kind=4→m.bal≠o.att.bal
structure MSim(x:Mo)(y:Rm):Prop where
 cf:y.cf=x.cf
 net:y.net=x.net
 tr:y.tr=x.tr
 na:y.acs.length=x.acs.length
 nc:y.cls.length=x.cls.length
 acs:∀i (h:i<x.acs.length) (h':i<y.acs.length),aBd x.acs[i] y.acs[i]∧0≤y.acs[i].keep
 cls:∀i (h:i<x.cls.length) (h':i<y.cls.length),tV x.cls[i] y.cls[i]∧wD x.cls[i]∧RhOk y.cls[i]
theorem MSim.ok{N:Int}{x:Mo}{y:Rm}(h:MSim x y)(hx:MoOk N x):tU N y:=by
 have z:=fJ hx.conf;have B:=hx.na;have K:=hx.nc;have M:=h.na;have O:=h.nc;have p:=h.cf;unfold gJ at B;refine⟨fun i hi=>?_,fun i hi=>?_,by omega,by omega,by rw[h.net];exact hx.nl,by rw[h.tr];exact hx.tl,fun m hm=>?_,by rw[p];exact z.1.1,by rw[p];exact z.1.2,by rw[p];exact z.2.2.2.2.1.1,by rw[p];exact z.2.2.2.2.1.2,fun i hi=>?_,fun i hi=>?_⟩
 ·have d:i<x.cls.length:=by omega
  obtain⟨f,A,j⟩:=h.cls i d hi;have b:=hx.cs_ i d;generalize x.cls[i]=c at*;generalize y.cls[i]=r at*;have q:=f.k;refine⟨⟨by rw[q.id,b.core.num];omega,by rw[q.id,b.core.num];omega,by rw[q.inc];exact b.core.i1,by rw[q.inc];exact b.core.i2,by rw[q.clock];exact b.core.c1,by rw[q.clock];exact b.core.c2,by rw[q.round];exact b.core.r1,by rw[q.round];exact b.core.r2,fun l h0 h3=>?_⟩,fun hb=>?_⟩
  ·rcases q.wat l h0 h3 with⟨D,C⟩|⟨D,C,L⟩
   ·rw[D];exact⟨aL _,hx.n0⟩
   ·have:=b.core.w l;rw[C]at this;exact this
  ·have I:c.doing.isSome=true:=by rw[←f.busy];exact hb
   obtain⟨o,E⟩:=Option.isSome_iff_exists.1 I;obtain⟨g,G⟩:=f.on o E;have u:=b.on o E;have F:=u.ans;have s:r.back.length≤3:=by
    rcases G with⟨_,_,t,_⟩|⟨_,_,t,_⟩
    ·rw[t];exact aI _
    ·rw[←t];omega
   refine⟨⟨by rw[g.lock];exact u.l1,by rw[g.lock];exact u.l2,by rw[g.ttl];exact u.t1,by rw[g.ttl];exact u.t2,by rw[g.began];exact u.g1,by rw[g.began];exact u.g2,by rw[g.tries];exact u.r1,by rw[g.tries];exact u.r2,by rw[g.at_];exact u.a1,by rw[g.at_];exact u.a2,by rw[g.mine];exact u.mine,by have:=j.h3;omega,by omega⟩,j.h3,s,j.hv⟩
 ·have d:i<x.acs.length:=by omega
  obtain⟨f,A⟩:=h.acs i d hi;have b:=hx.as_ i d;generalize x.acs[i]=a at*;generalize y.acs[i]=r at*;refine⟨by rw[f.log];have:=b.dk.len;omega,by rw[f.log];exact b.dk.by_,?_,?_,A⟩
  ·rcases f.fl with⟨_,e⟩|⟨n,q,_,e,_,J⟩<;>omega
  ·rcases f.fl with⟨_,e⟩|⟨n,q,H,e,_,J⟩
   ·omega
   ·have:=(b.dk.fail _ H).2.1;dsimp only at this;omega
 ·rw[h.net]at hm;have b:=hx.net m hm;refine⟨b.l1,b.l2,b.e1,b.e2,⟨b.v.t1,b.v.t2,b.v.s1,b.v.s2⟩,b.k1,b.k2,b.d1,fun hA=>?_,fun hA=>?_⟩
  ·have:=(b.toA hA).2;omega
  ·have:=(b.toC hA).2;omega
 ·have d:i<x.cls.length:=by omega
  obtain⟨f,A,j⟩:=h.cls i d hi;have b:=hx.cs_ i d;have:=j.a0;have:=j.a1;have:=j.h3;have:=j.b3;have:=b.core.c2;rw[f.k.clock]at*;omega
 ·have d:i<x.cls.length:=by omega
  obtain⟨f,A,j⟩:=h.cls i d hi;rw[f.k.id,(hx.cs_ i d).core.num]
section
variable {x:Mo}{y:Rm}{N:Int}
theorem MSim.client(h:MSim x y)(i:Nat){c:Ct}{r:Rc}{e:List Ev}(hc:tV c r)(hg:wD c)(hr:RhOk r):MSim (gC x i c e) (dP y i r e):=by
 refine⟨h.cf,by show y.net++_=x.net++_;rw[h.net],by show y.tr++_=x.tr++_;rw[h.tr],h.na,by show(y.cls.set _ _).length=(x.cls.set _ _).length;simp[h.nc],h.acs,fun j hj hj'=>?_⟩;have f:j<x.cls.length:=by simpa[gC]using hj
 have g:j<y.cls.length:=by simpa[dP]using hj'
 by_cases a:j=i
 ·subst a;have b:(gC x (j:Int) c e).cls[j]=c:=by simp[gC]
  have d:(dP y j r e).cls[j]=r:=by simp[dP]
  rw[b,d];exact⟨hc,hg,hr⟩
 ·have b:(gC x (i:Int) c e).cls[j]=x.cls[j]:=by simp[gC,List.getElem_set_ne (Ne.symm a)]
  have d:(dP y i r e).cls[j]=y.cls[j]:=by simp[dP,List.getElem_set_ne (Ne.symm a)]
  rw[b,d];exact h.cls j f g
theorem MSim.acceptor(h:MSim x y)(i:Nat){a:Ac}{r:Ra}{e:List Ev}(hc:aBd a r)(hk:0≤r.keep):MSim (mB x i a e) (gF y i r e):=by
 refine⟨h.cf,by show y.net++_=x.net++_;rw[h.net],by show y.tr++_=x.tr++_;rw[h.tr],by show(y.acs.set _ _).length=(x.acs.set _ _).length;simp[h.na],h.nc,fun j hj hj'=>?_,h.cls⟩;have f:j<x.acs.length:=by simpa[mB]using hj
 have g:j<y.acs.length:=by simpa[gF]using hj'
 by_cases b:j=i
 ·subst b;have c:(mB x (j:Int) a e).acs[j]=a:=by simp[mB]
  have d:(gF y j r e).acs[j]=r:=by simp[gF]
  rw[c,d];exact⟨hc,hk⟩
 ·have c:(mB x (i:Int) a e).acs[j]=x.acs[j]:=by simp[mB,List.getElem_set_ne (Ne.symm b)]
  have d:(gF y i r e).acs[j]=y.acs[j]:=by simp[gF,List.getElem_set_ne (Ne.symm b)]
  rw[c,d];exact h.acs j f g
theorem MSim.cl(h:MSim x y){i:Int}(hi:dT i x.cls.length=true):∃k:Nat,i=(k:Int)∧k<x.cls.length∧k<y.cls.length∧tV (clM x i) (nZ y i)∧wD (clM x i)∧RhOk (nZ y i):=by
 obtain⟨d,e⟩:=(dY _ _).1 hi;obtain⟨k,rfl⟩:∃k:Nat,i=(k:Int):=⟨i.toNat,by omega⟩;have b:k<x.cls.length:=by omega
 have a:k<y.cls.length:=by rw[h.nc];exact b
 obtain⟨_,c⟩:=mL hi;rw[c,oG a];exact⟨k,rfl,b,a,h.cls k b a⟩
theorem MSim.ac(h:MSim x y){i:Int}(hi:dT i x.acs.length=true):∃k:Nat,i=(k:Int)∧k<x.acs.length∧k<y.acs.length∧aBd (acM x i) (tJ y i)∧0≤(tJ y i).keep:=by
 obtain⟨d,e⟩:=(dY _ _).1 hi;obtain⟨k,rfl⟩:∃k:Nat,i=(k:Int):=⟨i.toNat,by omega⟩;have b:k<x.acs.length:=by omega
 have a:k<y.acs.length:=by rw[h.na];exact b
 obtain⟨_,c⟩:=qQ hi;rw[c,qC a];exact⟨k,rfl,b,a,h.acs k b a⟩
def mH(x:Rm)(i k l t:Int):Bool:= !(dT i x.cls.length)|| !(decide (1≤k∧k≤4))|| !(decide (0≤l∧l≤3))||(decide (k≤2)&& !(decide (1≤t∧t≤1000)))
def uR(x:Rm)(i k l t:Int):Int:=if mH x i k l t=true then 1 else kL (nZ x i)
def uV(x:Rm)(i k l t:Int):Rm:=if mH x i k l t=true then x else dP x i.toNat (rY (nZ x i) k l (qW k t)) (xY x.acs.length (nZ x i) k l (qW k t))
def nH(x:Rm)(i:Int):Mg:=x.net.getD i.toNat zMg
def kO(x:Rm)(i:Int):Int:=if dT i x.net.length=true then(if hU (nH x i)=true then mS x.cf (tJ x (nH x i).dst) (nH x i)else 0)else 1
def kT(x:Rm)(i:Int):Rm:=if dT i x.net.length=true then
 (if hU (nH x i)=true then gF (oU x i) (nH x i).dst.toNat (gO x.cf (tJ x (nH x i).dst) (nH x i)) (nD x.cf (tJ x (nH x i).dst) (nH x i))
  else dP (oU x i) (nH x i).dst.toNat (fZ x.cf (nZ x (nH x i).dst) (nH x i)) (fL x.cf x.acs.length (nZ x (nH x i).dst) (nH x i)))else x
def vP(f:Cf):Rm:=⟨f,(List.range (gJ f)).map (fun _=>oM),(List.range f.clients.toNat).map (fun (i:Nat)=>gP i 0 true),[],[]⟩
theorem aJr(f:Cf):MSim (mC f) (vP f):=by
 refine⟨rfl,rfl,rfl,by simp[mC,vP],by simp[mC,vP],fun i hi hi'=>?_,fun i hi hi'=>?_⟩
 ·have b:(mC f).acs[i]=yH f i:=by simp[mC]
  have a:(vP f).acs[i]=oM:=by simp[vP]
  rw[b,a];exact⟨⟨rfl,rfl,rfl,Or.inl ⟨rfl,rfl⟩⟩,aL _⟩
 ·have b:(mC f).cls[i]=yC i:=by simp[mC]
  have a:(vP f).cls[i]=gP i 0 true:=by simp[vP]
  rw[b,a];exact⟨aDa _ _ _,aAT rfl,aGn _ _ _⟩
theorem aJQ(hx:MoOk N x){i:Int}(hi:dT i x.cls.length=true):∀o,(clM x i).doing=some o→0≤o.lock∧o.lock≤3:=fun o ho=>by
 have:=(hx.cl hi).1.on o ho;exact⟨this.l1,this.l2⟩
theorem aAU(hx:MoOk N x)(h:MSim x y):y.acs.length=gJ x.cf:=h.na.trans hx.na
theorem aF5(h:MSim x y)(hx:MoOk N x)(i k l t:Int):uR y i k l t=yK x i k l t∧MSim (oW x i k l t) (uV y i k l t):=by
 have c:mH y i k l t=lT x i k l t:=by unfold mH lT;rw[h.nc]
 unfold uR yK uV oW;rw[c,aAU hx h];by_cases b:lT x i k l t=true
 ·rw[if_pos b,if_pos b,if_pos b,if_pos b];exact⟨rfl,h⟩
 ·rw[if_neg b,if_neg b,if_neg b,if_neg b];have a:dT i x.cls.length=true∧(1≤k∧k≤4)∧(0≤l∧l≤3)∧(k≤2→1≤t∧t≤1000):=by
   simp only[lT,Bool.or_eq_true,Bool.not_eq_true',aR,aM,decide_eq_false_iff_not,not_or,not_and,Bool.not_eq_false]at b;obtain⟨⟨⟨v,j⟩,o⟩,m⟩:=b;refine⟨v,?_,?_,fun hk=>?_⟩
   ·exact aH fun hh=>j (by omega)
   ·exact aH fun hh=>o (by omega)
   ·exact aH fun hh=>m hk (by omega)
  have n:=(hx.cl a.1).1.core.c1;obtain⟨q,rfl,z,w,r,s,u⟩:=h.cl a.1;have p:0≤qW k t:=by
   unfold qW;split
   ·have:=a.2.2.2 (by assumption);omega
   ·omega
  obtain⟨d,f,e⟩:=aHq (g:=x.cf) r n a.2.1 a.2.2.1 p (fun h=>by unfold qW;rw[if_neg (by omega)]);rw[e];exact⟨d,h.client q f (aFY s _ _ _) (aIH u _ _ _)⟩
theorem aHa(h:MSim x y)(hx:MoOk N x)(i:Int):xG y i=aAN x i∧MSim (sZ x i) (yB y i):=by
 unfold xG aAN yB sZ;rw[h.nc,aAU hx h];by_cases a:dT i x.cls.length=true
 ·rw[if_pos a,if_pos a,if_pos a,if_pos a];have f:=aJQ hx a;obtain⟨q,rfl,m,l,d,e,j⟩:=h.cl a;obtain⟨b,c,k⟩:=aJm (g:=x.cf) d f;rw[h.cf,k];exact⟨b,h.client q c (aHx e) (aJ8 j)⟩
 ·rw[if_neg a,if_neg a,if_neg a,if_neg a];exact⟨rfl,h⟩
theorem aH8(h:MSim x y)(hx:MoOk N x)(i:Int):xJ y i=aAS x i∧MSim (sX x i) (xR y i):=by
 unfold xJ aAS xR sX;rw[h.nc];by_cases a:dT i x.cls.length=true
 ·rw[if_pos a,if_pos a,if_pos a,if_pos a];have e:=(hx.cl a).1.core.num;obtain⟨q,rfl,l,k,f,g,j⟩:=h.cl a;obtain⟨c,d,b⟩:=aJb f;rw[e]at b;rw[show((q:Int).toNat:Nat)=q from bB q]at b⊢;rw[b];exact⟨c,h.client q d (aGU g) (aJR j)⟩
 ·rw[if_neg a,if_neg a,if_neg a,if_neg a];exact⟨rfl,h⟩
theorem aDT(h:MSim x y)(hx:MoOk N x)(i:Int):rG y i=tY x i∧MSim (mP x i) (rI y i):=by
 unfold rG tY rI mP;rw[h.nc];by_cases a:dT i x.cls.length=true
 ·rw[if_pos a,if_pos a,if_pos a,if_pos a];have f:=(hx.cl a).1.core.num;have c:=(hx.cl a).1.core.i2;obtain⟨q,rfl,m,l,g,d,k⟩:=h.cl a;obtain⟨e,j,b⟩:=aFn g d c;rw[f]at b;rw[show((q:Int).toNat:Nat)=q from bB q]at b⊢;rw[b];exact⟨e,h.client q j (aES d) (aG7 k)⟩
 ·rw[if_neg a,if_neg a,if_neg a,if_neg a];exact⟨rfl,h⟩
theorem zK(h:MSim x y)(i:Int):qO y i=uN x i∧MSim (iR x i) (oU y i):=by
 unfold qO uN oU iR;rw[h.net];by_cases a:dT i x.net.length=true
 ·simp only[if_pos a];exact⟨trivial,h.cf,rfl,h.tr,h.na,h.nc,h.acs,h.cls⟩
 ·simp only[if_neg a];exact⟨trivial,h⟩
theorem aH6(h:MSim x y)(i:Int):MSim (sM x i) (xK y i):=by
 unfold xK sM jK;rw[h.net];by_cases a:dT i x.net.length=true
 ·rw[if_pos a,if_pos a];exact⟨h.cf,rfl,h.tr,h.na,h.nc,h.acs,h.cls⟩
 ·rw[if_neg a,if_neg a];exact h
theorem aId(h:MSim x y)(hx:MoOk N x)(i n q:Int):tH y i n q=aBo x i n q∧MSim (sL x i n q) (sU y i n q):=by
 have c:pP y i n q=qN x i n q:=by unfold pP qN;rw[h.na]
 unfold tH aBo sU sL;rw[c];by_cases b:qN x i n q=true
 ·rw[if_pos b,if_pos b,if_pos b,if_pos b];exact⟨rfl,h⟩
 ·rw[if_neg b,if_neg b,if_neg b,if_neg b];have a:dT i x.acs.length=true∧0≤n∧0≤q:=by
   simp only[qN,Bool.or_eq_true,Bool.not_eq_true',aM,not_or,Bool.not_eq_false]at b;exact⟨b.1.1,by omega,by omega⟩
  have e:=(hx.ac a.1).1;obtain⟨k,rfl,o,m,j,l⟩:=h.ac a.1;obtain⟨f,g,d⟩:=aJw e j a.2.1 a.2.2;rw[e.num]at d;rw[show((k:Int).toNat:Nat)=k from bB k]at d⊢;rw[d];exact⟨f,h.acceptor k g (aH0 l a.2.2)⟩
theorem aF1(h:MSim x y)(hx:MoOk N x)(i:Int):uC y i=xW x i∧MSim (oR x i) (uK y i):=by
 unfold uC xW uK oR;rw[h.na,h.cf];by_cases a:dT i x.acs.length=true
 ·rw[if_pos a,if_pos a,if_pos a,if_pos a];have c:=(hx.ac a).1;obtain⟨k,rfl,l,j,f,g⟩:=h.ac a;obtain⟨d,e,b⟩:=aGS c f;rw[c.num]at b;rw[show((k:Int).toNat:Nat)=k from bB k]at b⊢;rw[b];exact⟨d,h.acceptor k e (by rw[aFv];exact g)⟩
 ·rw[if_neg a,if_neg a,if_neg a,if_neg a];exact⟨rfl,h⟩
theorem aCH(h:MSim x y)(hx:MoOk N x)(he:aKr x)(i:Int):kO y i=rF x i∧MSim (lH x i) (kT y i):=by
 have L:=fJ hx.conf;have s:=zK h i;have K:nH y i=jK x i:=by unfold nH jK;rw[h.net]
 unfold kO rF kT lH;rw[K,h.net,h.cf,aAU hx h];by_cases f:dT i x.net.length=true
 ·rw[if_pos f,if_pos f,if_pos f,if_pos f];have a:=hx.msg f;have p:jK x i ∈ x.net:=by
   obtain⟨C,e⟩:=rR f;rw[e];exact bF C
  generalize jK x i=m at a p;by_cases j:hU m=true
  ·rw[if_pos j,if_pos j,if_pos j,if_pos j];have l:m.kind=1∨m.kind=3:=by simpa[hU]using j
   have w:=a.toA l;have b:dT m.dst x.acs.length=true:=(dY _ _).2 ⟨a.d1,by rw[hx.na];unfold gJ;omega⟩;have A:=(hx.ac b).1;obtain⟨k,r,J,G,q,E⟩:=h.ac b;obtain⟨I,D,B⟩:=aIh A q a l (by rw[A.num];omega);rw[B];have z:m.dst.toNat=k:=by omega
   rw[z];have d:=s.2.acceptor k (e:=mV (acM x m.dst) m) D (by rw[aIl];exact E);rw[←r]at d;exact⟨I,d⟩
  ·rw[if_neg j,if_neg j,if_neg j,if_neg j];have l:¬(m.kind=1∨m.kind=3):=by simpa[hU]using j
   have w:=a.toC l;have b:dT m.dst x.cls.length=true:=(dY _ _).2 ⟨a.d1,by rw[hx.nc];omega⟩;have n:=(hx.cl b).1;have F:m.kind=4→∀o,(clM x m.dst).doing=some o→m.bal=o.att.bal→o.att.awaited=4:=fun h4 o c hb=>by
    obtain⟨C,e⟩:=mL b;rw[e]at c;exact aH fun hn=>he _ C o c hn m p h4 hb
   obtain⟨k,r,J,G,q,E,M⟩:=h.cl b;obtain⟨D,B⟩:=aIe (g:=x.cf) q (m:=m) L.1.1 (fun o c=>by
    have u:=n.on o c;exact⟨⟨u.l1,u.l2⟩,⟨u.k1,u.k2⟩,u.v.s2,u.ans⟩) a.v.s2 (by have:=a.k1;omega) a.k4 (fun o c=>(n.on o c).e1) F
   rw[B];have z:m.dst.toNat=k:=by omega
   rw[z];have H:RhOk (fZ x.cf (nZ y m.dst) m):=aJh M ⟨a.v.t1,a.v.t2,a.v.s1,a.v.s2⟩ (fun hb A=>by
    have s:(clM x m.dst).doing.isSome=true:=by rw[←q.busy];exact hb
    obtain⟨o,c⟩:=Option.isSome_iff_exists.1 s;have u:=(n.on o c).ans;rcases(q.on o c).2 with⟨_,_,_,t,_⟩|⟨_,t,_⟩
    ·have:(nZ y m.dst).heard.length=o.att.ans.length:=by rw[t,bO]
     omega
    ·rw[A]at t;cases t) (fun hb=>by
    have s:(clM x m.dst).doing.isSome=true:=by rw[←q.busy];exact hb
    obtain⟨o,c⟩:=Option.isSome_iff_exists.1 s;have u:=(n.on o c).ans;rcases(q.on o c).2 with⟨_,_,t,_⟩|⟨_,_,t,_⟩
    ·rw[t];exact aI _
    ·rw[←t];omega)
   have d:=s.2.client k (e:=iA x.cf (clM x m.dst) m) D (aHG E m) H;rw[←r]at d;exact⟨rfl,d⟩
 ·rw[if_neg f,if_neg f,if_neg f,if_neg f];exact⟨rfl,h⟩
theorem aGc(h:MSim x y)(hx:MoOk N x)(i l:Int):aAJ y i l=aC9 x i l:=by
 unfold aAJ aC9;rw[h.nc];by_cases c:dT i x.cls.length=true
 ·rw[c];have q:=(hx.cl c).1.core.c1;obtain⟨k,m,r,j,b,n,o⟩:=h.cl c;simp only[Bool.true_and];unfold aDl aDs;rw[b.k.up,b.k.clock];by_cases d:dT l 4=true
  ·rw[d,Bool.true_and];obtain⟨g,p⟩:=(dY _ _).1 d;have f:=b.k.til l g (by omega)
   congr 1
   unfold qU at f;rw[decide_eq_decide];omega
  ·have a:dT l 4=false:=by simpa using d
   rw[a,Bool.false_and];have e:¬(0≤l∧l≤3):=by have:=(sO l 4).1 a;omega
   rw[b.k.out l e];have:decide ((clM x i).clock<0)=false:=by simp;omega
   rw[this,Bool.and_false]
 ·have:dT i x.cls.length=false:=by simpa using c
  rw[this,Bool.false_and,Bool.false_and]
theorem aG0(h:MSim x y)(i:Int):aDv y i=aGw x i:=by
 unfold aDv aGw;rw[h.nc];by_cases a:dT i x.cls.length=true
 ·rw[a];obtain⟨k,d,g,c,b,e,f⟩:=h.cl a;unfold aE5 aGA;rw[b.k.up,b.busy]
 ·have:dT i x.cls.length=false:=by simpa using a
  rw[this,Bool.false_and,Bool.false_and]
theorem aIT(h:MSim x y)(i:Int):aGC y i=aJ3 x i∧aGE y i=aKa x i:=by
 unfold aGC aJ3 aGE aKa;rw[h.na];by_cases a:dT i x.acs.length=true
 ·simp only[if_pos a];obtain⟨k,d,f,c,b,e⟩:=h.ac a;exact⟨trivial,b.log⟩
 ·simp only[if_neg a];exact⟨trivial,trivial⟩
theorem aFa(h:MSim x y)(hx:MoOk N x)(i:Int):vG y i=tB x i∧yE y i=oH x i:=by
 have j:vG y i=tB x i:=by
  unfold vG tB;rw[h.na];by_cases a:dT i x.acs.length=true
  ·rw[if_pos a,if_pos a];obtain⟨k,f,n,e,d,m⟩:=h.ac a;rw[d.up];by_cases c:(acM x i).st=2
   ·rw[if_pos c,if_pos (by simp[c])]
   ·rw[if_neg c,if_neg (by simp[c])]
  ·rw[if_neg a,if_neg a]
 refine⟨j,?_⟩;unfold yE oH;rw[j];by_cases b:tB x i=0
 ·rw[if_pos b,if_pos b];have a:dT i x.acs.length=true:=by
   unfold tB at b;split at b
   ·assumption
   ·omega
  have g:(acM x i).st≠2:=by
   unfold tB at b;rw[if_pos a]at b;split at b
   ·omega
   ·assumption
  have l:=(hx.ac a).1;obtain⟨k,f,n,e,d,m⟩:=h.ac a;rw[d.log];exact(aBK (fun k=>(l.tab g k).symm) 4)
 ·rw[if_neg b,if_neg b]
end
theorem NtAt.newNet{W':World}{G:Nat→Prop}{g:Nat}{av cv tv nv':Value}{net':List Mg}{tr:List Ev}(hb:W'.heap[g]?=some (.cells #[av,cv,nv',tv] 100 (0,0)))(hg:G g)(hn:W'.ownsRow 0 66 10 nv' net'.length (cZ mgL net'))(ht:W'.ownsRow 0 70 19 tv tr.length (cZ evL tr))(hno:∀k,nv'.ownBlock=some k→G k)(hto:∀k,tv.ownBlock=some k→G k)(hlt:∀k,G k→k<W'.heap.size):NtAt W' G g av cv net' tr:=
 ⟨nv',tv,hb,hg,hn,ht,hno,hto,hlt⟩
section
variable (W:World) (own:Nat→Nat) (g:Nat) (x:Mo)
theorem aBb(N:Int)(i:Nat)(h:Moor W own g x)(hok:MoOk N x)(hN:N≤90000000000)(hi:i<x.net.length):
 Calls prog 84 #[.pointer (some ⟨g,0,none⟩),.int .i64 i] W fun r W'=>r= .returned (.tuple #[])∧MoTo W own g {x with net:=x.net.eraseIdx i} W':=by
 obtain⟨av,cv,bA,bC,h⟩:=h;obtain⟨nv,tv,hb,hnv,htv,hnb,htb,hg1⟩:=h.cells;have c2:W.cell? ⟨g,2,none⟩=some nv:=cO hb 2 _ rfl;have hnl:=hok.nl;have w1:IntKind.i64.wrap ((i:Int)+1)=(i:Int)+1:=fX (by omega) (by omega);have HD:=cN (aF7 W nv x.net i hi (by omega) hnv);have H:=cN h;have HB:=cN (aLo hb htv hnb htb hg1);have hgn:=fN hnv hb (by decide);have hnt:=nT htv hnv (by decide);have HGN:=cN (aLl hgn hnt);clear hb hnv htv hnb htb hg1 h hok hgn hnt;go_enter func84,ntmps84;go_wp2_with (go_at_call 126;refine HD.out.mono ?_;rintro e W1 ⟨v,rfl,hv,hvb,hc1⟩;have HV:=cN (aLm hv hvb hc1);clear hv hvb hc1;refine cQ ?_);refine cN ?_;obtain⟨p',cap',rfl⟩:=vD HV.out.1;have hb1:=HV.out.2.2.kept HB.out.1 (fun e=>HGN.out.1 g e.symm rfl);have d2:=cO hb1 2 _ rfl;have z2:=cX hb1 2;have hb2:=dD hb1 2 (.slice p' (x.net.eraseIdx i).length cap');have hc2:=cY W1 g 2 (.slice p' (x.net.eraseIdx i).length cap');generalize hX2:W1.setCell ⟨g,2,none⟩ (.slice p' (x.net.eraseIdx i).length cap')=W2 at*;have HX2:=cN hX2;have hc:=(HV.out.2.2.mono (T:=fun k=>some k=nv.ownBlock∨k=g) (fun _ _ h=>Or.inl h)).trans hc2 (fun _ _ h=>Or.inr h);have hv2:=hc2.row HV.out.1 (fun k hk e=>by
  rw[HV.out.2.1]at hk;exact HGN.out.1 k hk e)
 have ht2:=hc.row HB.out.2.1 (fun k hk e=>by
  rcases e with e|e
  ·exact HGN.out.2 k hk e.symm
  ·exact fN HB.out.2.1 HB.out.1 (by decide) k hk e)
 have hnt2:NtAt W2 (fun k=>own k=1) g av cv (x.net.eraseIdx i) x.tr:=NtAt.newNet (by simpa using hb2) HB.out.2.2.2.2 hv2 ht2 (fun k hk=>HB.out.2.2.1 k (HV.out.2.1▸hk)) HB.out.2.2.2.1 (fun k hk=>aG (H.out.lt k (by simp only[hk];decide)) hc.size);have hto:=H.out.netTo hnt2 (hc.mono (fun k _ hk=>by
  rcases hk with hk|hk
  ·exact HB.out.2.2.1 k hk.symm
  ·rw[hk];exact HB.out.2.2.2.2)) (fun k hk=>Or.inl hk)
 have HTO:=cN hto;clear hb1 hb2 hc2 hc hv2 ht2 hnt2 hto hX2 c2;go_wp2_with (rw[HX2.out]);first|go_end0|skip
 exact⟨rfl,HTO.out⟩
theorem aHe(N i:Int)(h:Moor W own g x)(hok:MoOk N x)(hN:N≤90000000000):
 Calls prog 40 #[.pointer (some ⟨g,0,none⟩),.int .i64 i] W fun r W'=>r= .returned (.int .i64 (uN x i))∧MoTo W own g (iR x i) W':=by
 have H:=cN h;have m:=cN hok;obtain⟨v,A,y,u,h⟩:=h;obtain⟨z,C,k,b,_⟩:=h.cells;obtain⟨p,d,rfl⟩:=vD b;have l:W.cell? ⟨g,2,none⟩=some (.slice p x.net.length d):=cO k 2 _ rfl;have f:=cN (qB W g i p x.net.length d (by have:=hok.nl;omega) l);unfold uN iR;by_cases a:dT i x.net.length=true
 ·rw[if_pos a,if_pos a];rw[a]at f;obtain⟨w,B⟩:=(dY _ _).1 a;obtain⟨j,rfl⟩:∃j:Nat,i=j:=⟨i.toNat,by omega⟩;have s:=cN (aBb W own g x N j H.out m.out hN (by omega));clear k b h hok a l;go_enter func40,ntmps40;go_wp2_with (first|(go_at_call 83;refine f.out.mono ?_;rintro e n ⟨rfl,rfl⟩)|(go_at_call 84;refine s.out.mono ?_;rintro e t ⟨rfl,o⟩));go_ret;refine⟨rfl,?_⟩;have q:((j:Int).toNat)=j:=by omega
  rw[q];exact o
 ·rw[if_neg a,if_neg a];have c:dT i x.net.length=false:=by simpa using a
  rw[c]at f;clear k b h hok a c l;go_enter func40,ntmps40;go_wp2_with (go_at_call 83;refine f.out.mono ?_;rintro e n ⟨rfl,rfl⟩);go_ret;exact⟨rfl,MoTo.of H.out⟩
end
theorem aIw{W:World}{k cap:Nat}{net:List Mg}{i:Nat}(hi:i<net.length)(h:W.ownsRow 0 66 10 (.slice (some ⟨k,0,none⟩) net.length cap) net.length (cZ mgL net)):∀j u,(mgL net[i])[j]?=some u→W.cell? ((⟨k,i*10,none⟩:Addr).add j)=some u:=fun j u hj=>by
 have hj10:j<10:=(aF.1 hj).1;rw[Addr.add_lit];have e:=lY mgL (k:=10) (fun _=>rfl) net i hi j hj10;rw[h.cellAt _ (by omega),e];exact hj
theorem aH2(W:World)(own:Nat→Nat)(g:Nat)(x:Mo)(N i:Int)(h:Moor W own g x)(hok:MoOk N x)(hN:N≤90000000000):
 Calls prog 41 #[.pointer (some ⟨g,0,none⟩),.int .i64 i] W fun r W'=>r= .returned (.int .i64 (uN x i))∧MoTo W own g (sM x i) W':=by
 have HM:=cN h;have c6:=cN hok;obtain⟨i1,ji,b0,b6,b4⟩:=info_parts nA;obtain⟨av,cv,bA,bC,h⟩:=h;obtain⟨nv,tv,Q,c,A,L,K,J⟩:=h.cells;obtain⟨p,n,rfl⟩:=vD c;have c2:W.cell? ⟨g,2,none⟩=some (.slice p x.net.length n):=cO Q 2 _ rfl;have a8:=hok.nl;have HI:=cN (qB W g i p x.net.length n (by omega) c2);unfold uN sM;by_cases u:dT i x.net.length=true
 ·rw[if_pos u,if_pos u];rw[u]at HI;obtain⟨h0,h1⟩:=(dY _ _).1 u;obtain⟨z,em⟩:=rR u;obtain⟨j,rfl⟩:∃j:Nat,i=j:=⟨i.toNat,by omega⟩;have R:j<x.net.length:=by omega
  have a3:jK x (j:Int)=x.net[j]'R:=em;rw[a3];have E:=c;rcases c.2 with⟨e,e0⟩|⟨k,c0,c1,e,hr⟩
  ·omega
  ·cases e;have a7:=aIw R E;generalize hm:x.net[j]'R=m at*;have HC:=cN a7;have t:=cN (aLp Q c A L K J);have H:=cN h;have c5:=cN R;have a6:=fN c Q (by decide);have a4:=nT A c (by decide);have V:=cN (aLl a6 a4);have a5:=cN a8;clear a7 Q c A L K J h hok u z hr E em a3 hm a6 a4 a8 R;go_enter func41,ntmps41;go_wp2_with (go_at_call 83;refine HI.out.mono ?_;rintro e w' ⟨rfl,hW⟩;have b8:=hW.symm;subst b8;clear hW);refine rlx [0,0,0,0,1,0,0,0,1,0,0,1,2] (fun w'=>w'.cell? ⟨g,2,none⟩=some (.slice (some ⟨k,0,none⟩) x.net.length n)∧∀q y,(mgL m)[q]?=some y→w'.cell? ((⟨k,j*10,none⟩:Addr).add q)=some y) (by kernel_rfl) (fun _ _ _ _=>rfl) ?_ ?_
   ·exact⟨c2,HC.out⟩
   simp only[dC,dB];iterate 11 (apply sB rfl rfl;·(intro x h;(try have h:=h rfl);(try dsimp only at h);go_simp;with_reducible rfl))
   try simp only[pA]
   refine dA (v:=mgV m) rfl (fun x hx=>cU 66 _ rfl ⟨k,j*10,none⟩ rfl (mgL m) _ hx.2 underlying66 rfl (by kernel_rfl)) ?_;(try simp only[pA]);refine dI rfl (fun C hC=>?_);go_simp;have X:=t.out.1;have b3:=H.out.lt k (by rw[t.out.2.2.2.1 k rfl];decide);have M:=dM (.cells (mgL m).toArray 66) X;have Y:∀q y,(mgL m)[q]?=some y→(W.alloc (.cells (mgL m).toArray 66)).cell? ((⟨k,j*10,none⟩:Addr).add q)=some y:=fun q y a=>by
    have e:=HC.out q y a;rw[Addr.add_lit]at e⊢;exact(aW (Below.heap_alloc W _ k b3)).trans e
   refine hC _ _ ⟨cO (W:=(W.alloc _).drew) M 2 _ rfl,Y⟩ ?_;clear hC C Y X;refine cP ?_;have B:=aA W (.cells (mgL m).toArray 66);have b1:(W.alloc (.cells (mgL m).toArray 66)).heap.size=W.heap.size+1:=by simp
   have s:Chg NoS W (W.alloc (.cells (mgL m).toArray 66)):=(Chg.refl NoS W).alloc _;have Z:=s.row t.out.2.1 (fun _ _ h=>h);have U:=s.row t.out.2.2.1 (fun _ _ h=>h);have b2:=H.out.kept s (fun _ _ h=>h);generalize b5:W.alloc (.cells (mgL m).toArray 66)=W1 at*;refine wpList_append_lies _ rfl _ _ 88 rfl 0 66 i1 _ 10 80 underlying88 ji b0 b6 b4 rfl (by decide) (.slice (some ⟨k,0,none⟩) x.net.length n) x.net.length (cZ mgL x.net) rfl Z.drew ⟨W.heap.size,0,none⟩ 1 1 (mgL m) rfl rfl (cR (W:=W1.drew) B) (oS m) (by decide) (by have:=a5.out;unfold maxLen;omega) (by have:=a5.out;omega) (aI _) (W.heap.size+1) b1 ?_;intro G f W2 d b F a9;have w:Chg (fun q=>some q=(Value.slice (some ⟨k,0,none⟩) x.net.length n).ownBlock) W1 W2:=Chg.of_grown ⟨b.os,b.tape,b.output,b.size,b.block⟩;have l:=w.kept M (fun e=>V.out.1 g e.symm rfl);have P:=w.row U (fun q a e=>V.out.2 q a e.symm);have d2:=cO l 2 _ rfl;have z2:=cX l 2;have a0:=dD l 2 (.slice (some ⟨G,0,none⟩) (x.net.length+1) f);have o:=cY W2 g 2 (.slice (some ⟨G,0,none⟩) (x.net.length+1) f);have c3:=fN d l (by decide) G rfl;have c4:=dG t.out.1;generalize a2:W2.setCell ⟨g,2,none⟩ (.slice (some ⟨G,0,none⟩) (x.net.length+1) f)=W3 at*;have b7:=cN a2;have I:=o.row d (fun q a e=>by
    have:q=G:=by simpa[Value.ownBlock]using a.symm
    omega)
   have a1:=o.row P (fun q a e=>fN P l (by decide) q a e);have e1:=(kW mgL x.net m).symm;rw[e1]at I;have O:=((s.mono (T:=fun q=>own q=1) (fun _ _ h=>h.elim)).trans w (fun q a e=>t.out.2.2.2.1 q e.symm)).trans o (fun q a e=>by rw[e];exact t.out.2.2.2.2.2);have D:NtAt W3 (fun q=>own q=1∨q=G) g av cv (x.net++[m]) x.tr:=NtAt.newNet (nv':=.slice (some ⟨G,0,none⟩) (x.net.length+1) f) (tv:=tv) (by simpa using a0) (Or.inl t.out.2.2.2.2.2) (by rw[aD,aK];exact I) a1 (fun q a=>Or.inr (by simpa[Value.ownBlock]using a.symm)) (fun q a=>Or.inl (t.out.2.2.2.2.1 q a)) (fun q a=>by
    rcases a with a|a
    ·exact aG (H.out.lt q (by rw[a];decide)) O.size
    ·have:=o.size;omega)
   have S:=H.out.netTo D O (fun q a=>by
    rcases a with a|a
    ·exact Or.inl a
    ·rcases F with h|h
     ·exact Or.inl (t.out.2.2.2.1 q (by rw[a];exact h))
     ·right;omega)
   have b9:=cN S;clear M l a0 s w o I U P a1 D O S b5 a2 d b F a9 B Z b2 e1 c2;(try simp only[pA]);go_wp2_with (rw[b7.out]);go_ret;refine⟨rfl,?_⟩;exact b9.out
 ·rw[if_neg u,if_neg u];have z:dT i x.net.length=false:=by simpa using u
  rw[z]at HI;clear Q c A L K J h hok u z;go_enter func41,ntmps41;go_wp2_with (go_at_call 83;refine HI.out.mono ?_;rintro e w' ⟨rfl,rfl⟩);go_ret;exact⟨rfl,MoTo.of HM.out⟩
end Go.Proofs.YtbbdgokdfhdpiaaGreatDoor
