/- A part. -/
import Derived.Test.YtbbdgokdfhdpiaaGreatDoorA8
import Derived.Test.YtbbdgokdfhdpiaaGreatDoorA35
namespace Go.Proofs.YtbbdgokdfhdpiaaGreatDoor
set_option linter.all false
set_option maxRecDepth 100000
set_option maxHeartbeats 0
open Go.Proofs.Tryz Go.RowKit
structure RhOk(r:Rc):Prop where
 h3:r.heard.length≤3
 hv:∀m ∈ r.heard,lG m.val
 b3:r.back.length≤3
 a0:0≤r.at_
 a1:r.at_≤r.clock
theorem RhOk.of{r r':Rc}(h:RhOk r)(e1:r'.heard=r.heard)(e2:r'.back=r.back)(e3:r'.at_=r.at_)(e4:r.clock≤r'.clock):RhOk r':=
 ⟨by rw[e1];exact h.h3,by rw[e1];exact h.hv,by rw[e2];exact h.b3,by rw[e3];exact h.a0,by rw[e3];exact Int.le_trans h.a1 e4⟩
theorem aFk(r:Rc)(a b:Int):(fP r a b).heard=r.heard∧(fP r a b).back=r.back∧(fP r a b).at_=r.at_∧(fP r a b).clock=r.clock:=by
 unfold fP wM;dsimp only
 repeat' split
 all_goals exact⟨rfl,rfl,rfl,rfl⟩
theorem aAK{r:Rc}(h:RhOk r)(a b:Int):RhOk (fP r a b):=by
 obtain⟨f,d,c,e⟩:=aFk r a b;exact h.of f d c (by rw[e];exact aL _)
theorem aDA{r:Rc}(h:RhOk r):RhOk (mW r):=by
 unfold mW;split
 ·exact aAK h _ _
 ·exact⟨aI _,fun m hm=>(by cases hm),aI _,Int.le_trans h.a0 h.a1,aL _⟩
section
variable {g:Cf} {r:Rc}
theorem aGR(h:RhOk r):RhOk (tQ g r):=by
 unfold tQ;split
 ·exact aDA h
 ·exact aAK h _ _
theorem aGn(h:RhOk r):RhOk (kU g r):=by
 unfold kU;dsimp only;split
 ·exact aAK h _ _
 ·exact h.of rfl rfl rfl (aL _)
theorem aIy(h:RhOk r){m:Mg}(hm:lG m.val)(hl:r.busy=true→r.asked=false→r.heard.length≤2)(hl2:r.busy=true→r.back.length≤2):RhOk (fY g r m):=by
 unfold fY;split
 ·exact h
 ·rename_i d;have c:r.busy=true:=by
   cases c:r.busy with
   |true=>rfl
   |false=>exact absurd (show iO r m=true by unfold iO;rw[c];simp) d
  split
  ·exact aGR (h.of rfl rfl rfl (aL _))
  ·split
   ·split
    ·exact h
    ·split
     ·exact h
     ·rename_i e;have f:=hl c (by simpa using e);have b:RhOk {r with heard:=r.heard++[m]}:=⟨by show(r.heard++[m]).length≤3;rw[aD,aK];omega,fun x a=>by
       rcases aO.1 (show x ∈ r.heard++[m]from a)with a|a
       ·exact h.hv x a
       ·rw[List.mem_singleton]at a;subst a;exact hm,h.b3,h.a0,h.a1⟩
      split
      ·exact aGn b
      ·exact b
   ·split
    ·split
     ·exact h
     ·have f:=hl2 c;have b:RhOk {r with back:=r.back++[m.src]}:=⟨h.h3,h.hv,by show(r.back++[m.src]).length≤3;rw[aD,aK];omega,h.a0,h.a1⟩;split
      ·exact aAK b _ _
      ·exact b
    ·exact h
end
theorem aJC{r:Rc}(h:RhOk r)(k l t:Int):RhOk (tC r k l t):=by
 unfold tC;split
 ·exact h
 ·exact aDA (h.of rfl rfl rfl (aL _))
theorem aJZ{g:Cf}{r:Rc}(h:RhOk r):RhOk (wG g r):=by
 unfold wG;split
 ·exact h
 ·dsimp only;have a:RhOk {r with clock:=r.clock+1}:=h.of rfl rfl rfl (by show r.clock≤r.clock+1;omega);split
  ·exact aGR a
  ·exact a
theorem aF5(i inc:Int)(up:Bool):RhOk (gM i inc up):=⟨aI _,fun m hm=>(by cases hm),aI _,aL _,aL _⟩
theorem aJT{r:Rc}(h:RhOk r):RhOk (wV r):=by
 unfold wV;split
 ·exact h
 ·exact aF5 _ _ _
theorem aIl{r:Rc}(h:RhOk r):RhOk (nZ r):=by
 unfold nZ;split
 ·exact h
 ·exact aF5 _ _ _
theorem pD(a:Ra):(stepR a).keep=a.keep:=(kW a).2.2.2
theorem zK(room:Int)(s:List Int):∀(n:Nat) (a:Ra),(kF room s n a).keep=a.keep
 |0,a=>rfl
 |n+1,a=>by
  rw[wB];split
  ·rfl
  ·split
   ·exact pD a
   ·rw[zK room s n,pD]
theorem wC(room:Int)(a:Ra)(r:Rw):(dR room a r).1.keep=a.keep:=by
 unfold dR;dsimp only;split
 ·rfl
 ·split
  ·exact pD a
  ·split
   ·exact pD a
   ·show(stepR (stepR a)).keep=a.keep;rw[pD,pD]
section
variable (g:Cf) (a:Ra)
theorem aHW(m:Mg):(gQ g a m).keep=a.keep:=by
 unfold gQ;split
 ·rfl
 ·split
  ·rfl
  ·split
   ·exact wC _ _ _
   ·split
    ·unfold gY;rw[zK,wC]
    ·exact wC _ _ _
theorem aEs:(jF g a).keep=a.keep:=by
 unfold jF;dsimp only;split
 ·unfold gY;rw[zK]
 ·rfl
theorem aFD:(oR g a).keep=a.keep:=by
 unfold oR;split
 ·rfl
 ·split<;>rw[aEs]<;>rfl
end
theorem aGT{a:Ra}(h:0≤a.keep){n q:Int}(hq:0≤q):0≤(uF a n q).keep:=by
 unfold uF;split
 ·exact h
 ·split<;>exact hq
theorem aA9{c:Ct}(h:c.up=true):wQ c:=fun e=>by rw[h]at e;cases e
theorem aC9(c:Ct)(o:On)(res tok:Int)(v:Vl):(gW c o res tok v).up=c.up:=by
 unfold gW kP oI nM;dsimp only
 repeat' split
 all_goals rfl
theorem aA2(c:Ct)(o:On):(gD c o).up=c.up:=by
 unfold gD;split
 ·exact aC9 _ _ _ _ _
 ·rfl
theorem aEo(g:Cf)(c:Ct)(o:On):(kX g c o).up=c.up:=by
 unfold kX;split
 ·exact aA2 _ _
 ·exact aC9 _ _ _ _ _
theorem aKL(c:Ct)(k l t:Int):(eI c k l t).up=c.up:=by
 unfold eI;split
 ·rfl
 ·split<;>rfl
theorem aIw(c:Ct)(k l t:Int):(gU c k l t).up=c.up:=by
 unfold gU;split
 ·rfl
 ·rw[aA2,aKL]
section
variable (g:Cf) (c:Ct)
theorem aJJ:(lP g c).up=c.up:=by
 unfold lP;split
 ·rfl
 ·dsimp only;cases hd:c.doing with
  |none=>rfl
  |some o=>
   dsimp only;split
   ·exact aEo _ _ _
   ·rfl
theorem aFo(o:On):(iG g c o).up=c.up:=by
 unfold iG;dsimp only;split
 ·exact aC9 _ _ _ _ _
 ·rfl
theorem aIt(o:On)(m:Mg):(jT g c o m).up=c.up:=by
 unfold jT;split
 ·rfl
 ·dsimp only;split
  ·rfl
  ·split
   ·exact aFo _ _ _
   ·exact aC9 _ _ _ _ _
theorem aJ6(m:Mg):(gO g c m).up=c.up:=by
 unfold gO;split
 ·rfl
 ·cases hd:c.doing with
  |none=>rfl
  |some o=>
   dsimp only;split
   ·rfl
   ·split
    ·exact aEo _ _ _
    ·split
     ·exact aIt _ _ _ _
     ·rfl
end
theorem aFH{c:Ct}(h:wQ c)(k l t:Int):wQ (gU c k l t):=fun e=>by
 have hu:c.up=false:=by rw[←aIw c k l t];exact e
 have:gU c k l t=c:=by unfold gU;rw[if_pos (by unfold jO;rw[if_pos hu];decide)]
 rw[this];exact h hu
theorem aG3{g:Cf}{c:Ct}(h:wQ c):wQ (lP g c):=fun e=>by
 have hu:c.up=false:=by rw[←aJJ g c];exact e
 have:lP g c=c:=by unfold lP;rw[if_pos hu]
 rw[this];exact h hu
theorem aH0{g:Cf}{c:Ct}(h:wQ c)(m:Mg):wQ (gO g c m):=fun e=>by
 have hu:c.up=false:=by rw[←aJ6 g c m];exact e
 have:gO g c m=c:=by unfold gO;rw[if_pos hu]
 rw[this];exact h hu
theorem aHf{c:Ct}(h:wQ c):wQ (uD c):=by
 unfold uD;split
 ·exact h
 ·exact fun _=>⟨rfl,rfl,rfl,rfl,rfl,rfl⟩
theorem aDE{c:Ct}(h:wQ c):wQ (mT c):=by
 unfold mT;split
 ·exact h
 ·exact aA9 rfl
def aKu(x:Mo):Prop:=∀i (h:i<x.cls.length) o,x.cls[i].doing=some o→o.att.awaited≠4→∀m ∈ x.net,m.kind=4→m.bal≠o.att.bal
structure MSim(x:Mo)(y:Rm):Prop where
 cf:y.cf=x.cf
 net:y.net=x.net
 tr:y.tr=x.tr
 na:y.acs.length=x.acs.length
 nc:y.cls.length=x.cls.length
 acs:∀i (h:i<x.acs.length) (h':i<y.acs.length),aBN x.acs[i] y.acs[i]∧0≤y.acs[i].keep
 cls:∀i (h:i<x.cls.length) (h':i<y.cls.length),tU x.cls[i] y.cls[i]∧wQ x.cls[i]∧RhOk y.cls[i]
theorem MSim.ok{N:Int}{x:Mo}{y:Rm}(h:MSim x y)(hx:MoOk N x):tS N y:=by
 have A:=fL hx.conf;have B:=hx.na;have K:=hx.nc;have O:=h.na;have M:=h.nc;have p:=h.cf;unfold gJ at B;refine⟨fun i hi=>?_,fun i hi=>?_,by omega,by omega,by rw[h.net];exact hx.nl,by rw[h.tr];exact hx.tl,fun m hm=>?_,by rw[p];exact A.1.1,by rw[p];exact A.1.2,by rw[p];exact A.2.2.2.2.1.1,by rw[p];exact A.2.2.2.2.1.2,fun i hi=>?_,fun i hi=>?_⟩
 ·have d:i<x.cls.length:=by omega
  obtain⟨f,z,j⟩:=h.cls i d hi;have b:=hx.cs_ i d;generalize x.cls[i]=c at*;generalize y.cls[i]=r at*;have q:=f.k;refine⟨⟨by rw[q.id,b.core.num];omega,by rw[q.id,b.core.num];omega,by rw[q.inc];exact b.core.i1,by rw[q.inc];exact b.core.i2,by rw[q.clock];exact b.core.c1,by rw[q.clock];exact b.core.c2,by rw[q.round];exact b.core.r1,by rw[q.round];exact b.core.r2,fun l h0 h3=>?_⟩,fun hb=>?_⟩
  ·rcases q.wat l h0 h3 with⟨C,E⟩|⟨C,E,L⟩
   ·rw[C];exact⟨aL _,hx.n0⟩
   ·have:=b.core.w l;rw[E]at this;exact this
  ·have G:c.doing.isSome=true:=by rw[←f.busy];exact hb
   obtain⟨o,D⟩:=Option.isSome_iff_exists.1 G;obtain⟨g,H⟩:=f.on o D;have u:=b.on o D;have F:=u.ans;have s:r.back.length≤3:=by
    rcases H with⟨_,_,t,_⟩|⟨_,_,t,_⟩
    ·rw[t];exact aI _
    ·rw[←t];omega
   refine⟨⟨by rw[g.lock];exact u.l1,by rw[g.lock];exact u.l2,by rw[g.ttl];exact u.t1,by rw[g.ttl];exact u.t2,by rw[g.began];exact u.g1,by rw[g.began];exact u.g2,by rw[g.tries];exact u.r1,by rw[g.tries];exact u.r2,by rw[g.at_];exact u.a1,by rw[g.at_];exact u.a2,by rw[g.mine];exact u.mine,by have:=j.h3;omega,by omega⟩,j.h3,s,j.hv⟩
 ·have d:i<x.acs.length:=by omega
  obtain⟨f,z⟩:=h.acs i d hi;have b:=hx.as_ i d;generalize x.acs[i]=a at*;generalize y.acs[i]=r at*;refine⟨by rw[f.log];have:=b.dk.len;omega,by rw[f.log];exact b.dk.by_,?_,?_,z⟩
  ·rcases f.fl with⟨_,e⟩|⟨n,q,_,e,_,I⟩<;>omega
  ·rcases f.fl with⟨_,e⟩|⟨n,q,J,e,_,I⟩
   ·omega
   ·have:=(b.dk.fail _ J).2.1;dsimp only at this;omega
 ·rw[h.net]at hm;have b:=hx.net m hm;refine⟨b.l1,b.l2,b.e1,b.e2,⟨b.v.t1,b.v.t2,b.v.s1,b.v.s2⟩,b.k1,b.k2,b.d1,fun hA=>?_,fun hA=>?_⟩
  ·have:=(b.toA hA).2;omega
  ·have:=(b.toC hA).2;omega
 ·have d:i<x.cls.length:=by omega
  obtain⟨f,z,j⟩:=h.cls i d hi;have b:=hx.cs_ i d;have:=j.a0;have:=j.a1;have:=j.h3;have:=j.b3;have:=b.core.c2;rw[f.k.clock]at*;omega
 ·have d:i<x.cls.length:=by omega
  obtain⟨f,z,j⟩:=h.cls i d hi;rw[f.k.id,(hx.cs_ i d).core.num]
section
variable {x:Mo}{y:Rm}{N:Int}
theorem MSim.client(h:MSim x y)(i:Nat){c:Ct}{r:Rc}{e:List Ev}(hc:tU c r)(hg:wQ c)(hr:RhOk r):MSim (gB x i c e) (dP y i r e):=by
 refine⟨h.cf,by show y.net++_=x.net++_;rw[h.net],by show y.tr++_=x.tr++_;rw[h.tr],h.na,by show(y.cls.set _ _).length=(x.cls.set _ _).length;simp[h.nc],h.acs,fun j hj hj'=>?_⟩;have g:j<x.cls.length:=by simpa[gB]using hj
 have f:j<y.cls.length:=by simpa[dP]using hj'
 by_cases a:j=i
 ·subst a;have b:(gB x (j:Int) c e).cls[j]=c:=by simp[gB]
  have d:(dP y j r e).cls[j]=r:=by simp[dP]
  rw[b,d];exact⟨hc,hg,hr⟩
 ·have b:(gB x (i:Int) c e).cls[j]=x.cls[j]:=by simp[gB,List.getElem_set_ne (Ne.symm a)]
  have d:(dP y i r e).cls[j]=y.cls[j]:=by simp[dP,List.getElem_set_ne (Ne.symm a)]
  rw[b,d];exact h.cls j g f
theorem MSim.acceptor(h:MSim x y)(i:Nat){a:Ac}{r:Ra}{e:List Ev}(hc:aBN a r)(hk:0≤r.keep):MSim (mF x i a e) (gF y i r e):=by
 refine⟨h.cf,by show y.net++_=x.net++_;rw[h.net],by show y.tr++_=x.tr++_;rw[h.tr],by show(y.acs.set _ _).length=(x.acs.set _ _).length;simp[h.na],h.nc,fun j hj hj'=>?_,h.cls⟩;have g:j<x.acs.length:=by simpa[mF]using hj
 have f:j<y.acs.length:=by simpa[gF]using hj'
 by_cases b:j=i
 ·subst b;have c:(mF x (j:Int) a e).acs[j]=a:=by simp[mF]
  have d:(gF y j r e).acs[j]=r:=by simp[gF]
  rw[c,d];exact⟨hc,hk⟩
 ·have c:(mF x (i:Int) a e).acs[j]=x.acs[j]:=by simp[mF,List.getElem_set_ne (Ne.symm b)]
  have d:(gF y i r e).acs[j]=y.acs[j]:=by simp[gF,List.getElem_set_ne (Ne.symm b)]
  rw[c,d];exact h.acs j g f
theorem MSim.cl(h:MSim x y){i:Int}(hi:dT i x.cls.length=true):∃k:Nat,i=(k:Int)∧k<x.cls.length∧k<y.cls.length∧tU (clM x i) (oB y i)∧wQ (clM x i)∧RhOk (oB y i):=by
 obtain⟨e,d⟩:=(dY _ _).1 hi;obtain⟨k,rfl⟩:∃k:Nat,i=(k:Int):=⟨i.toNat,by omega⟩;have b:k<x.cls.length:=by omega
 have a:k<y.cls.length:=by rw[h.nc];exact b
 obtain⟨_,c⟩:=mQ hi;rw[c,oA a];exact⟨k,rfl,b,a,h.cls k b a⟩
theorem MSim.ac(h:MSim x y){i:Int}(hi:dT i x.acs.length=true):∃k:Nat,i=(k:Int)∧k<x.acs.length∧k<y.acs.length∧aBN (acM x i) (tB y i)∧0≤(tB y i).keep:=by
 obtain⟨e,d⟩:=(dY _ _).1 hi;obtain⟨k,rfl⟩:∃k:Nat,i=(k:Int):=⟨i.toNat,by omega⟩;have b:k<x.acs.length:=by omega
 have a:k<y.acs.length:=by rw[h.na];exact b
 obtain⟨_,c⟩:=qK hi;rw[c,pP a];exact⟨k,rfl,b,a,h.acs k b a⟩
def lZ(x:Rm)(i k l t:Int):Bool:= !(dT i x.cls.length)|| !(decide (1≤k∧k≤4))|| !(decide (0≤l∧l≤3))||(decide (k≤2)&& !(decide (1≤t∧t≤1000)))
def uG(x:Rm)(i k l t:Int):Int:=if lZ x i k l t=true then 1 else kK (oB x i)
def uK(x:Rm)(i k l t:Int):Rm:=if lZ x i k l t=true then x else dP x i.toNat (tC (oB x i) k l (qV k t)) (yE x.acs.length (oB x i) k l (qV k t))
def nG(x:Rm)(i:Int):Mg:=x.net.getD i.toNat zMg
def kV(x:Rm)(i:Int):Int:=if dT i x.net.length=true then(if hO (nG x i)=true then mX x.cf (tB x (nG x i).dst) (nG x i)else 0)else 1
def kY(x:Rm)(i:Int):Rm:=if dT i x.net.length=true then
 (if hO (nG x i)=true then gF (oV x i) (nG x i).dst.toNat (gQ x.cf (tB x (nG x i).dst) (nG x i)) (mP x.cf (tB x (nG x i).dst) (nG x i))
  else dP (oV x i) (nG x i).dst.toNat (fY x.cf (oB x (nG x i).dst) (nG x i)) (fI x.cf x.acs.length (oB x (nG x i).dst) (nG x i)))else x
def vS(f:Cf):Rm:=⟨f,(List.range (gJ f)).map (fun _=>oL),(List.range f.clients.toNat).map (fun (i:Nat)=>gM i 0 true),[],[]⟩
theorem aJw(f:Cf):MSim (mC f) (vS f):=by
 refine⟨rfl,rfl,rfl,by simp[mC,vS],by simp[mC,vS],fun i hi hi'=>?_,fun i hi hi'=>?_⟩
 ·have b:(mC f).acs[i]=xN f i:=by simp[mC]
  have a:(vS f).acs[i]=oL:=by simp[vS]
  rw[b,a];exact⟨⟨rfl,rfl,rfl,Or.inl ⟨rfl,rfl⟩⟩,aL _⟩
 ·have b:(mC f).cls[i]=yC i:=by simp[mC]
  have a:(vS f).cls[i]=gM i 0 true:=by simp[vS]
  rw[b,a];exact⟨aDj _ _ _,aA9 rfl,aF5 _ _ _⟩
theorem aJ9(hx:MoOk N x){i:Int}(hi:dT i x.cls.length=true):∀o,(clM x i).doing=some o→0≤o.lock∧o.lock≤3:=fun o ho=>by
 have:=(hx.cl hi).1.on o ho;exact⟨this.l1,this.l2⟩
theorem aA4(hx:MoOk N x)(h:MSim x y):y.acs.length=gJ x.cf:=h.na.trans hx.na
theorem aFV(h:MSim x y)(hx:MoOk N x)(i k l t:Int):uG y i k l t=yQ x i k l t∧MSim (oS x i k l t) (uK y i k l t):=by
 have c:lZ y i k l t=lT x i k l t:=by unfold lZ lT;rw[h.nc]
 unfold uG yQ uK oS;rw[c,aA4 hx h];by_cases b:lT x i k l t=true
 ·rw[if_pos b,if_pos b,if_pos b,if_pos b];exact⟨rfl,h⟩
 ·rw[if_neg b,if_neg b,if_neg b,if_neg b];have a:dT i x.cls.length=true∧(1≤k∧k≤4)∧(0≤l∧l≤3)∧(k≤2→1≤t∧t≤1000):=by
   simp only[lT,Bool.or_eq_true,Bool.not_eq_true',aR,aM,decide_eq_false_iff_not,not_or,not_and,Bool.not_eq_false]at b;obtain⟨⟨⟨p,f⟩,u⟩,o⟩:=b;refine⟨p,?_,?_,fun hk=>?_⟩
   ·exact aH fun hh=>f (by omega)
   ·exact aH fun hh=>u (by omega)
   ·exact aH fun hh=>o hk (by omega)
  have j:=(hx.cl a.1).1.core.c1;obtain⟨q,rfl,z,w,s,n,v⟩:=h.cl a.1;have m:0≤qV k t:=by
   unfold qV;split
   ·have:=a.2.2.2 (by assumption);omega
   ·omega
  obtain⟨r,d,e⟩:=aHX (g:=x.cf) s j a.2.1 a.2.2.1 m (fun h=>by unfold qV;rw[if_neg (by omega)]);rw[e];exact⟨r,h.client q d (aFH n _ _ _) (aJC v _ _ _)⟩
theorem aHo(h:MSim x y)(hx:MoOk N x)(i:Int):yK y i=aBC x i∧MSim (tF x i) (xY y i):=by
 unfold yK aBC xY tF;rw[h.nc,aA4 hx h];by_cases a:dT i x.cls.length=true
 ·rw[if_pos a,if_pos a,if_pos a,if_pos a];have f:=aJ9 hx a;obtain⟨q,rfl,m,l,k,e,d⟩:=h.cl a;obtain⟨j,b,c⟩:=aIU (g:=x.cf) k f;rw[h.cf,c];exact⟨j,h.client q b (aG3 e) (aJZ d)⟩
 ·rw[if_neg a,if_neg a,if_neg a,if_neg a];exact⟨rfl,h⟩
theorem aHg(h:MSim x y)(hx:MoOk N x)(i:Int):yR y i=aBf x i∧MSim (rW x i) (xK y i):=by
 unfold yR aBf xK rW;rw[h.nc];by_cases a:dT i x.cls.length=true
 ·rw[if_pos a,if_pos a,if_pos a,if_pos a];have j:=(hx.cl a).1.core.num;obtain⟨q,rfl,l,k,g,e,d⟩:=h.cl a;obtain⟨f,c,b⟩:=aIT g;rw[j]at b;rw[show((q:Int).toNat:Nat)=q from bB q]at b⊢;rw[b];exact⟨f,h.client q c (aHf e) (aJT d)⟩
 ·rw[if_neg a,if_neg a,if_neg a,if_neg a];exact⟨rfl,h⟩
theorem aEp(h:MSim x y)(hx:MoOk N x)(i:Int):rP y i=uE x i∧MSim (nC x i) (rD y i):=by
 unfold rP uE rD nC;rw[h.nc];by_cases a:dT i x.cls.length=true
 ·rw[if_pos a,if_pos a,if_pos a,if_pos a];have k:=(hx.cl a).1.core.num;have c:=(hx.cl a).1.core.i2;obtain⟨q,rfl,m,l,j,d,f⟩:=h.cl a;obtain⟨g,e,b⟩:=aFl j d c;rw[k]at b;rw[show((q:Int).toNat:Nat)=q from bB q]at b⊢;rw[b];exact⟨g,h.client q e (aDE d) (aIl f)⟩
 ·rw[if_neg a,if_neg a,if_neg a,if_neg a];exact⟨rfl,h⟩
theorem yS(h:MSim x y)(i:Int):qF y i=uR x i∧MSim (iS x i) (oV y i):=by
 unfold qF uR oV iS;rw[h.net];by_cases a:dT i x.net.length=true
 ·simp only[if_pos a];exact⟨trivial,h.cf,rfl,h.tr,h.na,h.nc,h.acs,h.cls⟩
 ·simp only[if_neg a];exact⟨trivial,h⟩
theorem aHP(h:MSim x y)(i:Int):MSim (sE x i) (xQ y i):=by
 unfold xQ sE jG;rw[h.net];by_cases a:dT i x.net.length=true
 ·rw[if_pos a,if_pos a];exact⟨h.cf,rfl,h.tr,h.na,h.nc,h.acs,h.cls⟩
 ·rw[if_neg a,if_neg a];exact h
theorem aHi(h:MSim x y)(hx:MoOk N x)(i n q:Int):sT y i n q=aBF x i n q∧MSim (tJ x i n q) (rZ y i n q):=by
 have c:qB y i n q=qO x i n q:=by unfold qB qO;rw[h.na]
 unfold sT aBF rZ tJ;rw[c];by_cases b:qO x i n q=true
 ·rw[if_pos b,if_pos b,if_pos b,if_pos b];exact⟨rfl,h⟩
 ·rw[if_neg b,if_neg b,if_neg b,if_neg b];have a:dT i x.acs.length=true∧0≤n∧0≤q:=by
   simp only[qO,Bool.or_eq_true,Bool.not_eq_true',aM,not_or,Bool.not_eq_false]at b;exact⟨b.1.1,by omega,by omega⟩
  have e:=(hx.ac a.1).1;obtain⟨k,rfl,o,m,l,g⟩:=h.ac a.1;obtain⟨j,f,d⟩:=aIV e l a.2.1 a.2.2;rw[e.num]at d;rw[show((k:Int).toNat:Nat)=k from bB k]at d⊢;rw[d];exact⟨j,h.acceptor k f (aGT g a.2.2)⟩
theorem aF1(h:MSim x y)(hx:MoOk N x)(i:Int):uB y i=xX x i∧MSim (oQ x i) (tZ y i):=by
 unfold uB xX tZ oQ;rw[h.na,h.cf];by_cases a:dT i x.acs.length=true
 ·rw[if_pos a,if_pos a,if_pos a,if_pos a];have c:=(hx.ac a).1;obtain⟨k,rfl,l,j,g,f⟩:=h.ac a;obtain⟨e,d,b⟩:=aG5 c g;rw[c.num]at b;rw[show((k:Int).toNat:Nat)=k from bB k]at b⊢;rw[b];exact⟨e,h.acceptor k d (by rw[aFD];exact f)⟩
 ·rw[if_neg a,if_neg a,if_neg a,if_neg a];exact⟨rfl,h⟩
theorem aCY(h:MSim x y)(hx:MoOk N x)(he:aKu x)(i:Int):kV y i=rL x i∧MSim (kZ x i) (kY y i):=by
 have M:=fL hx.conf;have s:=yS h i;have J:nG y i=jG x i:=by unfold nG jG;rw[h.net]
 unfold kV rL kY kZ;rw[J,h.net,h.cf,aA4 hx h];by_cases j:dT i x.net.length=true
 ·rw[if_pos j,if_pos j,if_pos j,if_pos j];have a:=hx.msg j;have p:jG x i ∈ x.net:=by
   obtain⟨D,e⟩:=rI j;rw[e];exact bF D
  generalize jG x i=m at a p;by_cases f:hO m=true
  ·rw[if_pos f,if_pos f,if_pos f,if_pos f];have l:m.kind=1∨m.kind=3:=by simpa[hO]using f
   have w:=a.toA l;have b:dT m.dst x.acs.length=true:=(dY _ _).2 ⟨a.d1,by rw[hx.na];unfold gJ;omega⟩;have A:=(hx.ac b).1;obtain⟨k,r,I,G,q,E⟩:=h.ac b;obtain⟨K,B,C⟩:=aIa A q a l (by rw[A.num];omega);rw[C];have z:m.dst.toNat=k:=by omega
   rw[z];have d:=s.2.acceptor k (e:=mZ (acM x m.dst) m) B (by rw[aHW];exact E);rw[←r]at d;exact⟨K,d⟩
  ·rw[if_neg f,if_neg f,if_neg f,if_neg f];have l:¬(m.kind=1∨m.kind=3):=by simpa[hO]using f
   have w:=a.toC l;have b:dT m.dst x.cls.length=true:=(dY _ _).2 ⟨a.d1,by rw[hx.nc];omega⟩;have n:=(hx.cl b).1;have F:m.kind=4→∀o,(clM x m.dst).doing=some o→m.bal=o.att.bal→o.att.awaited=4:=fun h4 o c hb=>by
    obtain⟨D,e⟩:=mQ b;rw[e]at c;exact aH fun hn=>he _ D o c hn m p h4 hb
   obtain⟨k,r,I,G,q,E,L⟩:=h.cl b;obtain⟨B,C⟩:=aGX (g:=x.cf) q (m:=m) M.1.1 (fun o c=>by
    have u:=n.on o c;exact⟨⟨u.l1,u.l2⟩,⟨u.k1,u.k2⟩,u.v.s2,u.ans⟩) a.v.s2 (by have:=a.k1;omega) a.k4 (fun o c=>(n.on o c).e1) F
   rw[C];have z:m.dst.toNat=k:=by omega
   rw[z];have H:RhOk (fY x.cf (oB y m.dst) m):=aIy L ⟨a.v.t1,a.v.t2,a.v.s1,a.v.s2⟩ (fun hb A=>by
    have s:(clM x m.dst).doing.isSome=true:=by rw[←q.busy];exact hb
    obtain⟨o,c⟩:=Option.isSome_iff_exists.1 s;have u:=(n.on o c).ans;rcases(q.on o c).2 with⟨_,_,_,t,_⟩|⟨_,t,_⟩
    ·have:(oB y m.dst).heard.length=o.att.ans.length:=by rw[t,bO]
     omega
    ·rw[A]at t;cases t) (fun hb=>by
    have s:(clM x m.dst).doing.isSome=true:=by rw[←q.busy];exact hb
    obtain⟨o,c⟩:=Option.isSome_iff_exists.1 s;have u:=(n.on o c).ans;rcases(q.on o c).2 with⟨_,_,t,_⟩|⟨_,_,t,_⟩
    ·rw[t];exact aI _
    ·rw[←t];omega)
   have d:=s.2.client k (e:=iB x.cf (clM x m.dst) m) B (aH0 E m) H;rw[←r]at d;exact⟨rfl,d⟩
 ·rw[if_neg j,if_neg j,if_neg j,if_neg j];exact⟨rfl,h⟩
theorem aGj(h:MSim x y)(hx:MoOk N x)(i l:Int):aAE y i l=aCO x i l:=by
 unfold aAE aCO;rw[h.nc];by_cases c:dT i x.cls.length=true
 ·rw[c];have r:=(hx.cl c).1.core.c1;obtain⟨k,m,n,j,b,p,o⟩:=h.cl c;simp only[Bool.true_and];unfold aDm aDt;rw[b.k.up,b.k.clock];by_cases d:dT l 4=true
  ·rw[d,Bool.true_and];obtain⟨f,q⟩:=(dY _ _).1 d;have g:=b.k.til l f (by omega)
   congr 1
   unfold qU at g;rw[decide_eq_decide];omega
  ·have a:dT l 4=false:=by simpa using d
   rw[a,Bool.false_and];have e:¬(0≤l∧l≤3):=by have:=(tH l 4).1 a;omega
   rw[b.k.out l e];have:decide ((clM x i).clock<0)=false:=by simp;omega
   rw[this,Bool.and_false]
 ·have:dT i x.cls.length=false:=by simpa using c
  rw[this,Bool.false_and,Bool.false_and]
theorem aIh(h:MSim x y)(i:Int):aC7 y i=aGu x i:=by
 unfold aC7 aGu;rw[h.nc];by_cases a:dT i x.cls.length=true
 ·rw[a];obtain⟨k,d,e,c,b,g,f⟩:=h.cl a;unfold aFA aGz;rw[b.k.up,b.busy]
 ·have:dT i x.cls.length=false:=by simpa using a
  rw[this,Bool.false_and,Bool.false_and]
theorem aIQ(h:MSim x y)(i:Int):aGS y i=aJN x i∧aGw y i=aKb x i:=by
 unfold aGS aJN aGw aKb;rw[h.na];by_cases a:dT i x.acs.length=true
 ·simp only[if_pos a];obtain⟨k,d,e,c,b,f⟩:=h.ac a;exact⟨trivial,b.log⟩
 ·simp only[if_neg a];exact⟨trivial,trivial⟩
theorem aFO(h:MSim x y)(hx:MoOk N x)(i:Int):vG y i=sS x i∧yM y i=oG x i:=by
 have j:vG y i=sS x i:=by
  unfold vG sS;rw[h.na];by_cases b:dT i x.acs.length=true
  ·rw[if_pos b,if_pos b];obtain⟨k,g,l,f,d,m⟩:=h.ac b;rw[d.up];by_cases c:(acM x i).st=2
   ·rw[if_pos c,if_pos (by simp[c])]
   ·rw[if_neg c,if_neg (by simp[c])]
  ·rw[if_neg b,if_neg b]
 refine⟨j,?_⟩;unfold yM oG;rw[j];by_cases a:sS x i=0
 ·rw[if_pos a,if_pos a];have b:dT i x.acs.length=true:=by
   unfold sS at a;split at a
   ·assumption
   ·omega
  have e:(acM x i).st≠2:=by
   unfold sS at a;rw[if_pos b]at a;split at a
   ·omega
   ·assumption
  have n:=(hx.ac b).1;obtain⟨k,g,l,f,d,m⟩:=h.ac b;rw[d.log];exact(aBG (fun k=>(n.tab e k).symm) 4)
 ·rw[if_neg a,if_neg a]
end
end Go.Proofs.YtbbdgokdfhdpiaaGreatDoor
