/- A part of the proof: LivD. -/
import Derived.Test.YtbbdgokdfhdpiaaGreatDoorE20
import Derived.Test.YtbbdgokdfhdpiaaGreatDoorE28
import Derived.Test.YtbbdgokdfhdpiaaGreatDoorE31
namespace Go.Proofs.YtbbdgokdfhdpiaaGreatDoor
set_option linter.all false
set_option maxRecDepth 100000
set_option maxHeartbeats 40000000
open Go.Proofs.Tryz Go.RowKit
structure LS(c:Cf)(x:Mo):Prop where
 cf:x.cf=c
 room:MoRoom x
 sim:∃s,MiR c true s∧Abs x s
section
variable {N:Int}{x:Mo}{c:Cf}
theorem LS.go(h:LS c x){y:Mo}(hcf:y.cf=x.cf)(hr:MoRoom y)(hg:∀s,MiR x.cf true s→Abs x s→∃s',MiS x.cf true s s'∧Abs y s'):LS c y:=by
 obtain⟨s,a,d⟩:=h.sim;have e:=h.cf;obtain⟨s',b,f⟩:=hg s (by rw[e];exact a) d;rw[e]at b;exact⟨hcf.trans e,hr,s',MiS.reach a b,f⟩
theorem LS.start(hx:MoOk N x)(h:LS c x)(i:Int):LS c (eN x i):=h.go (pZ x i) (h.room.start hx i) fun s _ k=>by
 obtain⟨s',h1,h2,_⟩:=zZ (gd:=true) hx k i;exact⟨s',h1,h2⟩
theorem LS.fail(hx:MoOk N x)(h:LS c x)(i n q:Int):LS c (iO x i n q):=h.go (vY x i n q) (h.room.fail hx i n q) fun s _ k=>by
 obtain⟨s',h1,h2,_⟩:=aBf (gd:=true) hx k i n q;exact⟨s',h1,h2⟩
theorem LS.lose(hx:MoOk N x)(h:LS c x)(i:Int):LS c (iR x i):=h.go (vU x i) (h.room.lose i) fun s _ k=>by
 obtain⟨s',h1,h2,_⟩:=aB5 (gd:=true) hx k i;exact⟨s',h1,h2⟩
theorem LS.deliver(hx:MoOk N x)(h:LS c x)(i:Int):LS c (cZ x i):=h.go (kJ x i) (h.room.deliver hx i) fun s r k=>by
 have hcf:=dE hx.conf;obtain⟨s',h1,h2,_⟩:=pY (gd:=true) hx (r.inv (by omega) (by omega)).1 k i;exact⟨s',h1,h2⟩
def aCH(x:Mo)(m:Nat):Prop:=∀j (h:j<x.acs.length),j<m→CalmA 1099511627776 x.acs[j]
theorem aEK(hx:MoOk N x)(h:LS c x){m:Nat}(hm:m<x.acs.length)(hc:aCH x m):yE (eN x m) m 1099511627776 0=0∧aCH (iO (eN x m) m 1099511627776 0) (m+1):=by
 have d:dH (m:Int) x.acs.length=true:=(cV _ _).2 ⟨by omega,by omega⟩;have n:=(hx.ac d).1;have g:=(wH h.room.rich n (h.room.all _ (qT d))).2;have f:eN x m=iX x m (eQ (acM x m)) (nI (acM x m)):=by unfold eN;rw[if_pos d]
 have o:(eN x m).acs.length=x.acs.length:=by rw[f];simp[iX]
 have i:dH (m:Int) (eN x m).acs.length=true:=by rw[o];exact d
 have l:acM (eN x m) m=eQ (acM x m):=by
  rw[aDq (x:=x) (y:=eN x m) (j:=m) (a:=eQ (acM x m)) (by rw[f];rfl) (pZ x m) d m (by omega),if_pos rfl]
 have b:lK (eN x m) m 1099511627776 0=false:=by unfold lK;rw[i];rfl
 have q:iO (eN x m) m 1099511627776 0=iX (eN x m) m {eQ (acM x m)with dk:={(eQ (acM x m)).dk with fail:=some (1099511627776,0)}} []:=by
  unfold iO;rw[b,if_neg (by decide),l];unfold oO oF;rw[if_neg (by omega),if_neg (by decide),if_neg (by omega),if_neg (by decide)]
 refine⟨?_,fun j hj hjm=>?_⟩
 ·unfold yE;rw[b,if_neg (by decide),l];unfold aAb;rw[if_neg (by omega)]
 ·have k:(iO (eN x m) m 1099511627776 0).acs=(x.acs.set m (eQ (acM x m))).set m {eQ (acM x m)with dk:={(eQ (acM x m)).dk with fail:=some (1099511627776,0)}}:=by
   rw[q];show(eN x m).acs.set (m:Int).toNat _=_;rw[f]
   rfl
  have p:(iO (eN x m) m 1099511627776 0).acs[j]=if m=j then{eQ (acM x m)with dk:={(eQ (acM x m)).dk with fail:=some (1099511627776,0)}}else x.acs[j]'(by rw[k]at hj;simpa using hj):=by
   simp only[k];rw[List.getElem_set];split
   ·rfl
   ·rename_i e;rw[List.getElem_set,if_neg e]
  rw[p];split
  ·exact⟨g,_,_,rfl,aL _⟩
  ·rename_i e;exact hc j _ (by omega)
def aCn(x:Mo)(m:Nat):Prop:=∀j:Int,0≤j→j<m→upM x j=false
theorem aEH{m:Nat}(hm:m<x.cls.length)(h:aCn x m):aCn (iR x m) (m+1):=fun j j0 j1=>by
 cases hu:upM (iR x m) j with
 |false=>rfl
 |true=>
  exfalso;obtain⟨z1,z2⟩:=aBy j0 hu;by_cases e:j<m
  ·rw[h j j0 e]at z1;cases z1
  ·exact z2 ((cV _ _).2 ⟨by omega,by omega⟩) (by omega)
structure vS(x:Mo)(B:Int):Prop where
 calm:∀a ∈ x.acs,CalmA B a
 down:∀j:Int,0≤j→j<x.cls.length→upM x j=false
theorem aCV{B:Int}(hx:MoOk N x)(h:vS x B)(hr:MoRoom x)(hB:7≤B){m:Mg}{rest:List Mg}(hnet:x.net=m::rest):vS (cZ x 0) (B-7)∧jZ (cZ x 0).net+1≤jZ x.net:=by
 have o:∀j:Int,0≤j→upM (cZ x 0) j=true→upM x j=true:=fun j j0 z=>pM hx j0 z;have b:(cZ x 0).cls.length=x.cls.length→∀j:Int,0≤j→j<(cZ x 0).cls.length→upM (cZ x 0) j=false:=fun hl j j0 j1=>by
  cases n:upM (cZ x 0) j with
  |false=>rfl
  |true=>have:=h.down j j0 (by rw[←hl];exact j1);rw[o j j0 n]at this;cases this
 have c:MOk x.cf m:=hx.net m (by rw[hnet];exact bQ ..);have v:=dE hx.conf;rw[oX hnet]at b⊢;by_cases e:m.kind=1∨m.kind=3
 ·have l:gF m=true:=by simpa[gF]using e
  rw[if_pos l]at b⊢;have k:=c.toA e;have i:=c.d1;have g:dH m.dst x.acs.length=true:=(cV _ _).2 ⟨c.d1,by rw[hx.na];unfold dI;omega⟩;have u:=(hx.ac g).1;have d:=qT g;obtain⟨t,s,w,C⟩:=aAg hr.rich u (hr.all _ d) c e (h.calm _ d) hB;obtain⟨r,f⟩:=aIf (jK (acM x m.dst) (decMsg m (gH (acM x m.dst) m.lock)) m);obtain⟨A,G,y,E,F,D⟩:=aFN e r f;rw[s,f]at b⊢;refine⟨⟨fun a ha'=>?_,b rfl⟩,?_⟩
  ·rcases List.mem_or_eq_of_mem_set (show a ∈ x.acs.set m.dst.toNat _ from ha')with q|q
   ·exact(h.calm a q).mono (by omega)
   ·rw[q];exact t
  ·show jZ (rest++[r])+1≤_;rw[hnet,qE,iY,iY,xZ];have H:wM m=2:=if_pos e;have p:wM r=1:=if_neg (by omega);omega
 ·have l:¬gF m=true:=by simpa[gF]using e
  rw[if_neg l]at b⊢;have k:=c.toC e;have i:=c.d1;have n:(clM x m.dst).up=false:=h.down m.dst i (by rw[hx.nc];omega);have p:fE x.cf (clM x m.dst) m=[]:=by unfold fE;rw[if_pos n]
  rw[p]at b⊢;refine⟨⟨fun a ha'=>(h.calm a ha').mono (by omega),b (by simp[fW])⟩,?_⟩;show jZ (rest++[])+1≤_;rw[hnet,iY,aC];have:=(aAR m).1;omega
theorem aB8{B:Int}(hx:MoOk N x)(h:LS c x)(hs:vS x B)(hn:x.net=[]){i:Int}(hi:dH i x.cls.length=true):
 fN x i=5∨(fN x i=0∧aFf (eM x i) i B (dI c)):=by
 obtain⟨G,R⟩:=(cV _ _).1 hi;have I:=dE hx.conf;have k:=h.cf;have H:=hx.cl hi;have l:(clM x i).up=false:=hs.down i G R;obtain⟨s,T,r⟩:=h.sim;rw[k]at I;have b:=MiR.all (by omega) (by omega) T;have o:s.cl i=clM x i:=r.clAt hi;have v:i<c.clients:=by have:=hx.nc;rw[k]at this;omega
 have J:=b.i0.gone i G v;rw[o]at J;obtain⟨Z,X,U,Y,g5,O⟩:=J l;have D:=b.i0.num i G v;rw[o]at D;by_cases w:(clM x i).inc=63
 ·left;unfold fN eK;rw[if_pos hi,if_neg (by rw[l];decide),if_pos w]
 ·right;have m:eK (clM x i)=0:=by unfold eK;rw[if_neg (by rw[l];decide),if_neg w]
  refine⟨by unfold fN;rw[if_pos hi];exact m,?_⟩;have p:=h.room.ret i;have F:eM x i=fW x i {clM x i with inc:=(clM x i).inc+1,up:=true} [nX (-1-(clM x i).num)]:=by
   unfold eM iQ iE;rw[if_pos hi,if_neg (by rw[m];decide),if_neg (by rw[m];decide)]
  have d:clM (eM x i) i={clM x i with inc:=(clM x i).inc+1,up:=true}:=vV (x:=x) (by rw[F];rfl) hi;have g:(eM x i).acs=x.acs:=by rw[F];rfl
  have y:(eM x i).net=[]:=by rw[F];show x.net++[]=[];rw[hn];rfl
  have M:=H.1.core.i1;refine⟨p,fun a ha=>hs.calm a (by rw[←g];exact ha),by rw[F];simpa[fW]using hi,by rw[d],by rw[d];show 1≤(clM x i).inc+1;omega,fun a ha=>?_,y,by rw[d];exact O,by rw[d];show(clM x i).toks 1=0;rw[U],?_⟩
  ·rw[g]at ha;rw[d];obtain⟨j,L,rfl⟩:=List.getElem_of_mem ha;have V:=(hs.calm _ ha).1;have C:gH x.acs[j] 1=s.tb j 1:=by rw[aBF (hx.as_ j L) (by omega) 1,r.tb j L 1 (by decide)]
   have q:=b.i2.av j 1;intro E f;unfold sP at f;dsimp only at f;rw[show aAr (gH x.acs[j] 1)=aHu (s.tb j 1) by rw[C];rfl,q.1]at E f;have K:∀z:Int,z=0→¬(z / 4 % 64=(clM x i).inc+1):=fun z e=>by rw[e];omega
   unfold valB at E f;by_cases n:(s.tb j 1).acc=0
   ·rw[if_pos n]at f;exact K _ rfl f.2
   ·rw[if_neg n]at E f;have A:=(q.2 n).1;by_cases t:(s.bl (s.tb j 1).acc).val.seq=0
    ·exact K _ t f.2
    ·obtain⟨_,S,_⟩:=aDK b _ A E t;have u:=b.i1.ask _ S;have W:=b.i0.fr0 _ u;have P:=b.i0.fr1 _ u;have Q:(s.bl (s.bl (s.tb j 1).acc).val.seq).cl=i:=by omega
     rw[Q,o]at P;omega
  ·have:=aHU (eM x i) (lbC (clM (eM x i) i)+256);rw[qF,k]at this;exact this
end
end Go.Proofs.YtbbdgokdfhdpiaaGreatDoor
