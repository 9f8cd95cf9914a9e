/- A part of the proof: LivE, LivW. -/
import Derived.Test.YtbbdgokdfhdpiaaGreatDoorE32
import Derived.Test.YtbbdgokdfhdpiaaGreatDoorE33
namespace Go.Proofs.YtbbdgokdfhdpiaaGreatDoor
set_option linter.all false
set_option maxRecDepth 100000
set_option maxHeartbeats 40000000
open Go.Proofs.Tryz Go.RowKit
theorem aAE(W:World)(B:Nat)(eb:Addr)(own:Nat→Nat)(g:Nat)(x:Mo)(N:Int)(most p:Nat)(mi Q:Int)(c:Cf)(h:KW W B eb own g x N)(hl:LS c x)(hs:vS x Q)(hp:jZ x.net≤p)(hQ:7*(p:Int)≤Q)(hm:p≤most)(hmi:mi=(most:Int))(hm2:(most:Int)≤9000000000000000000)(hN:N+6*p≤80000000000):
 Calls prog 46 #[.pointer (some ⟨g,0,none⟩),.int .i64 mi] W fun r W'=>r= .returned (.tuple #[])∧∃y,KTo W B eb own g y (N+6*p) W'∧LS c y∧vS y (Q-7*p)∧y.net=[]:=by
 subst hmi;have H:=cA (aH5 h hl hs hp);have b:∀(y:Mo) (A A':Int),vS y A→A'≤A→vS y A':=fun y A A' k ha=>⟨fun a ha'=>(k.calm a ha').mono ha,k.down⟩;have j:=cA b;clear h hl hs hp b;go_enter func46,ntmps46;go_wp2_with fail;go_loopw [4] (fun i wr=>∃k:Nat,k≤most∧k≤p∧i= .int .i64 k∧Hid (∃y,KTo W B eb own g y (N+6*k) wr∧LS c y∧vS y (Q-7*k)∧jZ y.net+k≤p)) (fun i _=>most-(intOf i).toNat)
 case atStart=>exact⟨0,aI _,aI _,rfl,x,KTo.mono (.refl H.out.1) (by omega),H.out.2.1,j.out _ _ _ H.out.2.2.1 (by omega),by have:=H.out.2.2.2;omega⟩
 case round=>
  obtain⟨k,S,R,rfl,w⟩:=hrel;obtain⟨y,⟨F,f,t,s⟩,hl,hs,o⟩:=w.out;by_cases O:k<most
  ·have C:(k:Int)<(most:Int):=by omega
   have G:=cA (oW wr F g B eb y (N+6*k) 0 f.mo f.gl f.ow f.ok (by omega));have d:=cA (aH4 f t s);cases hn:y.net with
   |nil=>
    have q:y.net.length=0:=by rw[hn];rfl
    have J:(jI y 0==1)=true:=by simp[sZ q]
    have M:=cA (show cZ y 0=y by unfold cZ;rw[if_neg (by rw[cV];omega)]);have n:=cA (aH4 hl (j.out _ _ _ hs (show Q-7*(p:Int)≤Q-7*k by omega)) hn);clear f t s hl hs hn q o w;go_wp2_with (go_at_call 39;refine G.out.mono ?_;rintro e L ⟨rfl,l⟩;have z:=cA l;clear l)
    (first|go_end0|((try simp only[Exit.inBlock,Exit.then]);refine bodyPost_ret (results_none rfl _ _ _) rfl ?_))
    have l:=z.out;rw[M.out]at l;exact⟨rfl,y,KTo.mono (KTo.step d.out.1 d.out.2.1 d.out.2.2 l d.out.1.ok) (by omega),n.out.1,n.out.2.1,n.out.2.2⟩
   |cons m rest=>
    have q:y.net.length≠0:=by rw[hn];simp
    have J:(jI y 0==1)=false:=by simp[tJ q]
    have D:1≤jZ y.net:=by rw[hn,iY];have:=(aAR m).1;omega
    obtain⟨E,K⟩:=aCV f.ok hs hl.room (by omega) hn;have n:=cA (aH4 (hl.deliver f.ok 0) (j.out _ _ _ E (show Q-7*((k+1:Nat):Int)≤Q-7*k-7 by omega)) (show jZ (cZ y 0).net+(k+1)≤p by omega));have I:k+1≤p:=by omega
    clear f t s hl hs hn q o w E K D;go_wp2_with (go_at_call 39;refine G.out.mono ?_;rintro e L ⟨rfl,l⟩;have z:=cA l;clear l);go_roundw
    case rel=>
     refine⟨k+1,by omega,by omega,by go_num,cZ y 0,?_,n.out.1,n.out.2.1,n.out.2.2⟩;exact KTo.mono (KTo.step d.out.1 d.out.2.1 d.out.2.2 z.out (d.out.1.ok.deliver 0)) (by omega)
    case measure=>simp[intOf]<;>omega
  ·have P:k=most:=by omega
   have v:k=p:=by omega
   have C:¬(k:Int)<(most:Int):=by omega
   have u:y.net=[]:=aDD (by omega);have d:=cA (aH5 (show KTo W B eb own g y (N+6*p) wr from KTo.mono ⟨F,f,t,s⟩ (by omega)) hl (j.out _ _ _ hs (show Q-7*(p:Int)≤Q-7*k by omega)) u);clear f t s hl hs o w v u;go_wp2_with fail
   (first|go_end0|((try simp only[Exit.inBlock,Exit.then]);refine bodyPost_ret (results_none rfl _ _ _) rfl ?_))
   exact⟨rfl,y,d.out.1,d.out.2.1,d.out.2.2.1,d.out.2.2.2⟩
def CAt(W0 wr:World)(eb:Addr)(b g:Nat)(c:Cf)(N:Int)(x:Mo):Prop:=∃own a d M,KF wr W0.heap.size eb b own g c x a d N M∧Below W0.heap.size W0 wr
section
variable {W0 wr W':World}{eb:Addr}{b g:Nat}{c:Cf}{N N':Int}{x x':Mo}
theorem CAt.to{own:Nat→Nat}{a:Int→Int→Int}{d:Int→Bool}{M:Int}(h1:KF wr W0.heap.size eb b own g c x a d N M)(h3:Below W0.heap.size W0 wr)(hk:KFTo wr W0.heap.size eb b own g c x' a d N' M W'):CAt W0 W' eb b g c N' x':=by
 obtain⟨i,f,h,j⟩:=hk;refine⟨i,a,d,M,f,h3.trans (h.below (fun k hk=>?_) h3.size)⟩;rcases hk with e|e
 ·rw[e];exact h1.bB
 ·exact h1.kw.ow k e
theorem CAt.bel(h:CAt W0 wr eb b g c N x):Below W0.heap.size W0 wr:=by
 obtain⟨own,a,d,M,_,h⟩:=h;exact h
theorem CAt.ok(h:CAt W0 wr eb b g c N x):MoOk N x:=by
 obtain⟨own,a,d,M,h,_⟩:=h;exact h.kw.ok
theorem CAt.cf(h:CAt W0 wr eb b g c N x):x.cf=c:=by
 obtain⟨own,a,d,M,h,_⟩:=h;exact h.cf
theorem CAt.mono(h:CAt W0 wr eb b g c N x)(hN:N≤N'):CAt W0 wr eb b g c N' x:=by
 obtain⟨own,a,d,M,e,f⟩:=h;exact⟨own,a,d,M,{e with kw:={e.kw with ok:=e.kw.ok.mono hN}},f⟩
theorem CAt.chg0(h:CAt W0 wr eb b g c N x)(hc:Chg NoS wr W'):CAt W0 W' eb b g c N x:=by
 obtain⟨own,a,d,M,i,f⟩:=h;exact⟨own,a,d,M,i.chg0 hc,f.trans (hc.below (fun _ e=>e.elim) f.size)⟩
theorem CAt.cell0(h:CAt W0 wr eb b g c N x):wr.cell? ⟨b,0,none⟩=some (.int .i64 c.f):=by
 obtain⟨own,a,d,M,e,i⟩:=h;exact cB e.fl 0 _ rfl
theorem CAt.cell1(h:CAt W0 wr eb b g c N x):wr.cell? ⟨b,1,none⟩=some (.int .i64 c.clients):=by
 obtain⟨own,a,d,M,e,f⟩:=h;exact cB e.fl 1 _ rfl
theorem CAt.cell7(h:CAt W0 wr eb b g c N x):wr.cell? ⟨b,7,none⟩=some (.pointer (some ⟨g,0,none⟩)):=by
 obtain⟨own,a,d,M,e,f⟩:=h;exact cB e.fl 7 _ rfl
theorem CAt.start(h:CAt W0 wr eb b g c N x)(hN:N≤70000000000)(i:Int):Calls prog 43 #[.pointer (some ⟨g,0,none⟩),.int .i64 i] wr fun r W'=>r= .returned (.int .i64 (aAI x i))∧CAt W0 W' eb b g c (N+6) (eN x i):=by
 obtain⟨own,a,d,M,e,k⟩:=h;refine(yQ wr own g W0.heap.size eb x N i e.kw.mo e.kw.gl e.kw.ow e.kw.ok (by omega)).mono ?_;rintro r W' ⟨j,f⟩;exact⟨j,CAt.to e k (e.go f (e.kw.ok.start i) (pZ x i))⟩
theorem CAt.fail(h:CAt W0 wr eb b g c N x)(hN:N≤70000000000)(i n q:Int)(hn:n≤9223372036854775807):Calls prog 42 #[.pointer (some ⟨g,0,none⟩),.int .i64 i,.int .i64 n,.int .i64 q] wr fun r W'=>r= .returned (.int .i64 (yE x i n q))∧CAt W0 W' eb b g c (N+6) (iO x i n q):=by
 obtain⟨own,a,d,M,e,k⟩:=h;refine(zY wr own g x N i n q e.kw.mo e.kw.ok (by omega)).mono ?_;rintro r W' ⟨j,f⟩;exact⟨j,CAt.to e k (e.go f (e.kw.ok.fail i n q hn) (vY x i n q))⟩
theorem CAt.lose(h:CAt W0 wr eb b g c N x)(hN:N≤70000000000)(i:Int):Calls prog 44 #[.pointer (some ⟨g,0,none⟩),.int .i64 i] wr fun r W'=>r= .returned (.int .i64 (jQ x i))∧CAt W0 W' eb b g c (N+6) (iR x i):=by
 obtain⟨own,a,d,M,e,k⟩:=h;refine(aAa wr own g x N i e.kw.mo e.kw.ok (by omega)).mono ?_;rintro r W' ⟨j,f⟩;exact⟨j,CAt.to e k (e.go f (e.kw.ok.lose i) (vU x i))⟩
theorem CAt.ret(h:CAt W0 wr eb b g c N x)(hN:N≤70000000000)(i:Int):Calls prog 26 #[.pointer (some ⟨g,0,none⟩),.int .i64 i] wr fun r W'=>r= .returned (.int .i64 (fN x i))∧CAt W0 W' eb b g c (N+6) (eM x i):=by
 obtain⟨own,a,d,M,e,k⟩:=h;refine(vH wr own g x N i e.kw.mo e.kw.ok (by omega)).mono ?_;rintro r W' ⟨j,f⟩;exact⟨j,CAt.to e k (e.go f (e.kw.ok.return i) (qF x i))⟩
theorem CAt.netL(h:CAt W0 wr eb b g c N x)(hN:N≤70000000000)(n:Nat)(hn:x.net.length=n):Calls prog 36 #[.pointer (some ⟨g,0,none⟩)] wr fun r W'=>∃p cap,r= .returned (.slice p n cap)∧CAt W0 W' eb b g c N x:=by
 obtain⟨own,a,d,M,e,k⟩:=h;refine(tW wr own g x N e.kw.mo e.kw.ok (by omega)).mono ?_;rintro r W' ⟨v,i,j,l⟩;obtain⟨p,cap,rfl,_,_⟩:=LsAt.of_owns (f:=mgL) (sz:=10) (fun _=>rfl) j rfl;rw[hn]at i;exact⟨p,cap,i,CAt.chg0 ⟨own,a,d,M,e,k⟩ (Chg.below' l)⟩
theorem CAt.settle(h:CAt W0 wr eb b g c N x){Q:Int}(hl:LS c x)(hs:vS x Q){most p:Nat}{mi:Int}(hp:jZ x.net≤p)(hQ:7*(p:Int)≤Q)(hm:p≤most)(hmi:mi=(most:Int))(hm2:(most:Int)≤9000000000000000000)(hN:N+6*p≤80000000000):
 Calls prog 46 #[.pointer (some ⟨g,0,none⟩),.int .i64 mi] wr fun r W'=>r= .returned (.tuple #[])∧∃y,CAt W0 W' eb b g c (N+6*p) y∧LS c y∧vS y (Q-7*p)∧y.net=[]:=by
 obtain⟨own,a,d,M,e,l⟩:=h;refine(aAE wr W0.heap.size eb own g x N most p mi Q c e.kw hl hs hp hQ hm hmi hm2 hN).mono ?_;rintro r W' ⟨k,y,i,f,j,m⟩;exact⟨k,y,CAt.to e l (e.goK i (f.cf.trans e.cf.symm)),f,j,m⟩
theorem aGy{x:Mo}(hx:MoOk N x)(i k l t:Int):(kY x i k l t).cf=x.cf:=by
 have a:∀(n:Nat) (y:Mo),(fV n y).cf=y.cf:=fun n=>by
  induction n with
  |zero=>intro y;rfl
  |succ n ih=>
   intro y;unfold fV;split
   ·rfl
   ·rw[ih,kJ]
 unfold kY;split
 ·exact sU x i k l t
 ·rw[a,sU]
theorem CAt.does(h:CAt W0 wr eb b g c N x)(hN:N≤70000000000)(i k l t:Int):Calls prog 27 #[.pointer (some ⟨g,0,none⟩),.int .i64 i,.int .i64 k,.int .i64 l,.int .i64 t] wr fun r W'=>r= .returned (evV (iC x i k l t))∧CAt W0 W' eb b g c (N+1206) (kY x i k l t):=by
 obtain⟨own,a,d,M,e,m⟩:=h;refine(nJ wr W0.heap.size eb own g x N i k l t e.kw hN).mono ?_;rintro r W' ⟨j,f⟩;exact⟨j,CAt.to e m (e.goK f (aGy e.kw.ok i k l t))⟩
theorem RunAt.cat{n:Nat}(h:RunAt W0 wr eb b g c n x):CAt W0 wr eb b g c (1800*n) x∧LS c x:=by
 obtain⟨own,a,d,s,f,e,i⟩:=h;exact⟨⟨own,a,d,_,f,i⟩,e.cf,e.room,s,e.rch,e.abs⟩
end
theorem aFt(W0 W:World)(eb:Addr)(b g:Nat)(c:Cf)(N:Int)(x:Mo)(h:CAt W0 W eb b g c N x)(hl:LS c x)(hN:N≤3000000000):
 Calls prog 25 #[.pointer (some ⟨b,0,none⟩)] W fun r W'=>r= .returned (.bool true)∧∃y,CAt W0 W' eb b g c 40000000000 y∧LS c y∧vS y 1000000∧y.net=[]:=by
 have G:=dE h.ok.conf;rw[h.cf]at G;obtain⟨o,M⟩:∃n:Nat,c.f=n:=⟨c.f.toNat,by omega⟩;obtain⟨t,D⟩:∃n:Nat,c.clients=n:=⟨c.clients.toNat,by omega⟩;have c2:1≤o∧o≤2:=by omega
 have c3:1≤t∧t≤4:=by omega
 have q:=cA (aH3 M D);have H:=cA (aH3 h hl);have b6:IntKind.i64.wrap (2*(o:Int))=2*(o:Int):=eI (by omega) (by omega);have b9:IntKind.i64.wrap (2*(o:Int)+1)=2*(o:Int)+1:=eI (by omega) (by omega);have b3:=h.ok.n0;clear h hl G M D;go_enter func25,ntmps25;go_wp2_with fail;go_loopw [3] (fun i wr=>∃m:Nat,m≤2*o+1∧i= .int .i64 m∧Hid (∃y,CAt W0 wr eb b g c (N+12*m) y∧LS c y∧aCH y m)) (fun i _=>2*o+1-(intOf i).toNat)
 case atStart=>exact⟨0,aI _,rfl,x,H.out.1.mono (by omega),H.out.2,fun j _ X=>absurd X (Nat.not_lt_zero _)⟩
 case round=>
  obtain⟨m,hm,rfl,HY⟩:=hrel;obtain⟨y,U,P,R⟩:=HY.out;have Y:=U.cell0;rw[q.out.1]at Y;have u:=U.cell7;have d:=cA (aH4 U P R);clear U P R;by_cases b4:m<2*o+1
  ·have a8:(m:Int)<2*(o:Int)+1:=by omega
   have Z:=cA (d.out.1.start (by omega) m);have v:m<y.acs.length:=by rw[d.out.1.ok.na,d.out.1.cf];unfold dI;rw[q.out.1];omega
   have J:=cA (aEK d.out.1.ok d.out.2.1 v d.out.2.2);clear v;go_wp2_with (go_at_call 43;refine Z.out.mono ?_;rintro e W3 ⟨rfl,l⟩;have s:=cA l;clear l;refine cD ?_);clear Y u;have u:=s.out.cell7;have B:=s.out.fail (by omega) m 1099511627776 0 (by decide);rw[J.out.1]at B;have a5:=cA B;clear B;refine cA ?_;go_wp2_with (go_at_call 42;refine a5.out.mono ?_;rintro e W4 ⟨rfl,l⟩;have b0:=cA l;clear l;refine cD ?_);refine cA ?_;go_wp2_with fail;go_roundw
   case rel=>exact⟨m+1,by omega,by go_num,_,b0.out.mono (by omega),(d.out.2.1.start d.out.1.ok m).fail s.out.ok m 1099511627776 0,J.out.2⟩
   case measure=>simp[intOf]<;>omega
  ·have a8:¬(m:Int)<2*(o:Int)+1:=by omega
   have w:∀a ∈ y.acs,CalmA 1099511627776 a:=fun a ha=>by
    obtain⟨j,X,rfl⟩:=List.getElem_of_mem ha;refine d.out.2.2 j X ?_;have:=d.out.1.ok.na;rw[d.out.1.cf]at this;unfold dI at this;rw[q.out.1]at this;omega
   have a7:=cA w;have a1:m=2*o+1:=by omega
   subst a1;clear w;go_wp2_with fail;go_loopw [5] (fun i wr=>∃m:Nat,m≤t∧i= .int .i64 m∧Hid (∃z,CAt W0 wr eb b g c (N+60+6*m) z∧LS c z∧z.acs=y.acs∧aCn z m)) (fun i _=>t-(intOf i).toNat)
   case atStart=>exact⟨0,aI _,rfl,y,d.out.1.mono (by omega),d.out.2.1,rfl,fun j j0 j1=>by omega⟩
   case round=>
    clear Y u;obtain⟨m,hm,rfl,HZ⟩:=hrel;obtain⟨z,C,F,L,O⟩:=HZ.out;have c1:=C.cell1;rw[q.out.2]at c1;have u:=C.cell7;have k:=cA (aH5 C F L O);have S:z.cls.length=t:=by have:=C.ok.nc;rw[C.cf,q.out.2]at this;omega
    clear C F L O;by_cases b1:m<t
    ·have T:(m:Int)<(t:Int):=by omega
     have a6:=cA (k.out.1.lose (by omega) m);have a2:=cA (aEH (x:=z) (m:=m) (by omega) k.out.2.2.2);clear S;go_wp2_with (go_at_call 44;refine a6.out.mono ?_;rintro e W5 ⟨rfl,l⟩;have s:=cA l;clear l;refine cD ?_);refine cA ?_;go_wp2_with fail;go_roundw
     case rel=>exact⟨m+1,by omega,by go_num,_,s.out.mono (by omega),k.out.2.1.lose k.out.1.ok m,(by unfold iR;split<;>exact k.out.2.2.1),a2.out⟩
     case measure=>simp[intOf]<;>omega
    ·have T:¬(m:Int)<(t:Int):=by omega
     have K:vS z 1099511627776:=⟨fun a ha=>a7.out a (by rw[←k.out.2.2.1];exact ha),fun j j0 j1=>k.out.2.2.2 j j0 (by omega)⟩;have Q:=k.out.1.ok.nl;obtain⟨n,V⟩:=aIf (z.net.length);rw[V]at Q;have a0:=cA (k.out.1.netL (by omega) n V);have I:jZ z.net≤2*n:=by rw[←V];exact aGf _
     have E:=cA (aH3 K I);have b8:n≤3000000100:=by omega
     have b7:IntKind.i64.wrap (100*(n:Int))=100*(n:Int):=eI (by omega) (by omega);have b5:IntKind.i64.wrap (1000+100*(n:Int))=1000+100*(n:Int):=eI (by omega) (by omega);clear K Q V I S;go_wp2_with (go_at_call 36;refine a0.out.mono ?_;rintro e W5 ⟨p5,c5,rfl,l⟩;have s:=cA l;clear l;refine cD ?_);clear u;have u:=s.out.cell7;have a9:=cA (s.out.settle k.out.2.1 E.out.1 (most:=1000+100*n) (p:=2*n) (mi:=1000+100*(n:Int)) E.out.2 (by omega) (by omega) (by omega) (by omega) (by omega));refine cA ?_;go_wp2_with (go_at_call 46;refine a9.out.mono ?_;rintro e W6 ⟨rfl,yy,k1,k2,k3,k4⟩;have A:=cA (aH5 k1 k2 k3 k4);clear k1 k2 k3 k4;refine cD ?_);clear u;have u:=A.out.1.cell7;have a3:=cA (A.out.1.netL (by omega) 0 (by rw[A.out.2.2.2];rfl));refine cA ?_;go_wp2_with (go_at_call 36;refine a3.out.mono ?_;rintro e W7 ⟨p7,b2,rfl,l⟩;have a4:=cA l;clear l;refine cD ?_);refine cA ?_;go_wp2_with fail;go_ret;exact⟨rfl,yy,a4.out.mono (by omega),A.out.2.1,⟨fun a ha=>(A.out.2.2.1.calm a ha).mono (by omega),A.out.2.2.1.down⟩,A.out.2.2.2⟩
theorem aDM(W:World)(k:Int)(e:Ev)(h:aAF k e.res∨e.res=6):
 Calls prog 28 #[.int .i64 k,evV e] W fun r W'=>r= .returned (.bool true)∧Chg NoS W W':=by
 have b:=aA W (.cells (evL e).toArray 70);have c:Chg NoS W (W.alloc (.cells (evL e).toArray 70)):=(Chg.refl _ _).alloc _;obtain⟨q,y,⟨w,z,A,s,v,t,⟨x,u,m,d⟩⟩,o,l,g,a,j,n,i⟩:=e;have h:aAF k a∨a=6:=h;generalize f:W.alloc (.cells (evL ⟨q,y,⟨w,z,A,s,v,t,⟨x,u,m,d⟩⟩,o,l,g,a,j,n,i⟩).toArray 70)=W1 at b c;have p:Hid (W.alloc (.cells #[.int .i64 q,.int .i64 y,.int .i64 w,.int .i64 z,.int .i64 A,.int .i64 s,.int .i64 v,.int .i64 t,.int .i64 x,.int .i64 u,.int .i64 m,.int .i64 d,.int .i64 o,.int .i64 l,.int .i64 g,.int .i64 a,.int .i64 j,.int .i64 n,.int .i64 i] 70)=W1):=f;have D:W1.cell? ⟨W.heap.size,15,none⟩=some (.int .i64 a):=cB b 15 _ rfl;have C:=cA c;clear b f c;have B:a=6∨(k=1∧a=1)∨(k=1∧a=2)∨(k=2∧a=3)∨(k=3∧a=3)∨(k=4∧a=4):=by unfold aAF at h;omega
 clear h;go_enter func28,ntmps28;rcases B with e|⟨rfl,e⟩|⟨rfl,e⟩|⟨rfl,e⟩|⟨rfl,e⟩|⟨rfl,e⟩<;>subst e<;>(go_wp2_with (first|rw[p.out]))<;>go_ret<;>exact⟨rfl,C.out⟩
theorem aDa(W:World)(eb:Addr)(hgl:GlAt W W.heap.size eb)(p q:Option Addr)(ll lc len cap:Nat)(l:Nat→Int)(o:Nat→St)(wh:Int)(hw1: -9223372036854775808≤wh)(hw2:wh≤9223372036854775807)(kd:Int)(hk1: -9223372036854775808≤kd)(hk2:kd≤9223372036854775807)(hl:RawAt W p ll l)(hll:ll≤9223372036854775807)(hs:ScAt W q len o)(hlen:len≤1100000):
 Calls prog 10 #[.slice p ll lc,.slice q len cap,.int .i64 wh,.int .i64 kd] W fun r W'=>r= .returned (.bool true)∧Below W.heap.size W W':=by
 have h:∀g f,q=some ⟨g,f,none⟩→0<len→g<W.heap.size:=fun g f e h0=>by
  obtain⟨b,f',e',hb,_⟩:=hs 0 h0;rw[e]at e';cases e';exact hb
 have HC:=cA (aCR W p ll lc l hl hll);have HS:=cA hs;have HQ:=cA h;have HG:=cA hgl;have d:=aBA ll l;have J:=aF6 ll l;have C:aAH (kG ll l):=⟨d.2.2.2.2.2.2,d.2.2.2.2.2.1.1⟩;generalize kG ll l=c at*;have d9:=d.1.1;have c9:=d.1.2;have e3:=d.2.1.1;have c6:=d.2.1.2;obtain⟨s,a5⟩:∃n:Nat,c.f=n:=⟨c.f.toNat,by omega⟩;have f2:1≤s∧s≤2:=by omega
 have a2:=cA (fun w=>dW wh c.clients w hw1 hw2 (by omega) (by omega));have a3:=dP (c:=wh) (n:=c.clients) (by omega);generalize cI wh c.clients=ci at*;have d2:=cA (fun w=>dW kd 4 w hk1 hk2 (by decide) (by decide));have X:=dP (c:=kd) (n:=4) (by decide);generalize cI kd 4=kk at*;have wk:IntKind.i64.wrap (1+kk)=1+kk:=eI (by omega) (by omega);have e7:IntKind.i64.wrap (2*(s:Int))=2*(s:Int):=eI (by omega) (by omega);have f3:IntKind.i64.wrap (2*(s:Int)+2)=2*(s:Int)+2:=eI (by omega) (by omega);have a:=cA (aH6 J C a3 X a5);clear hs h hgl hl d J C a3 X a5 d9 c9 e3 c6;go_enter func10,ntmps10;go_wp2_with (go_at_call 14;refine HC.out.mono ?_;rintro e W1 ⟨rfl,hc⟩;have a0:=cA hc;clear hc;refine cD ?_);have HM:=cA (aCk W1 W.heap.size eb (HG.out.kept a0.out (fun _ e=>e.elim)) c a.out.1);refine cA ?_;go_wp2_with (go_at_call 13;refine HM.out.mono ?_;rintro e W2 ⟨b,own,g,rfl,h1,h2,h3,h4⟩;have HR:=cA (aEc HG.out a.out.1 a.out.2.1 a0.out h1 h2 h3 h4);clear h1 h2 h3 h4;refine cD ?_);refine cA ?_;go_wp2_with fail;go_loopw [10] (fun i wr=>∃n:Nat,n≤len∧i= .int .i64 n∧Hid (∃x,RunAt W wr eb b g c n x)) (fun i _=>len-(intOf i).toNat)
 case atStart=>exact⟨0,aI _,rfl,_,HR.out⟩
 case round=>
  clear HR;obtain⟨n,hn,rfl,HX⟩:=hrel;by_cases Z:n<len
  ·obtain⟨x,K⟩:=HX.out;obtain⟨sb,sf,rfl,f1,b5,a8⟩:=HS.out n Z;have d5:(n:Int)<(len:Int):=by omega
   have b3:=HQ.out sb sf rfl (by omega);obtain⟨ob,e4,eo,_,a9,b7⟩:=(HS.out.bel K.bel (fun g' f' e=>by cases e;exact b3)) n Z;cases eo;have e0:=cA (K.step (by omega) (o n) a8);have b6:=cA a9;clear K b5 a9 a8 b7;go_wp2_with (first|(go_at_call 15;refine e0.out.mono ?_;rintro e W3 ⟨rfl,hy⟩;have HY:=cA hy;clear hy;refine cD ?_)|(refine cJ rfl 34 _ rfl ⟨sb,sf+n*4,none⟩ rfl (stL (o n)) _ b6.out underlying34 rfl (by kernel_rfl) ?_));refine cA ?_;go_wp2_with fail;go_roundw
   case rel=>exact⟨n+1,by omega,by go_num,HY.out⟩
   case measure=>simp[intOf]<;>omega
  ·have d5:¬(n:Int)<(len:Int):=by omega
   obtain⟨x,K⟩:=HX.out;have c4:=cA (aFt W wr eb b g c _ x K.cat.1 K.cat.2 (by omega));clear K HX;go_wp2_with (go_at_call 25;refine c4.out.mono ?_;rintro e W3 ⟨rfl,y,k1,k2,k3,k4⟩;have F:=cA (aH5 k1 k2 k3 k4);clear k1 k2 k3 k4;refine cD ?_);have c1:=F.out.1.cell1;have c7:=F.out.1.cell7;have t:=F.out.1.ret (by omega) ci;have v:dH ci y.cls.length=true:=(cV _ _).2 ⟨a.out.2.2.1.1,by have:=a.out.2.2.1.2;have h9:=F.out.1.ok.nc;rw[F.out.1.cf]at h9;omega⟩;rcases aB8 F.out.1.ok F.out.2.1 F.out.2.2.1 F.out.2.2.2 v with h5|⟨h0,a6⟩
   ·rw[h5]at t;have S:=cA t;clear t h5 v;refine cA ?_;go_wp2_with (first|(go_at_call 19;refine(a2.out _).mono ?_;rintro e w ⟨rfl,H⟩;rw[H];clear H w)|(go_at_call 26;refine S.out.mono ?_;rintro e W4 ⟨rfl,h⟩;have R:=cA h.bel;clear h;refine cD ?_));refine cA ?_;go_wp2_with fail;go_ret;exact⟨rfl,R.out⟩
   ·rw[h0]at t;have S:=cA t;have b8:=cA a6;clear t h0 v a6;refine cA ?_;go_wp2_with (first|(go_at_call 19;refine(a2.out _).mono ?_;rintro e w ⟨rfl,H⟩;rw[H];clear H w)|(go_at_call 26;refine S.out.mono ?_;rintro e W4 ⟨rfl,h⟩;have R:=cA h;clear h;refine cD ?_));clear c1 c7;refine cA ?_;go_wp2_with (go_at_call 19;refine(d2.out _).mono ?_;rintro e w ⟨rfl,H⟩;rw[H];clear H w);go_loopw [15] (fun i wr=>∃m:Nat,m≤2*s+1∧i= .int .i64 m∧Hid (∃z,CAt W wr eb b g c (41000000000+1206*m) z∧aFf z ci (1000000-1400*m) (2*s+1-m))) (fun i _=>2*s+2-(intOf i).toNat)
    case atStart=>
     refine⟨0,aI _,rfl,eM y ci,R.out.mono (by omega),?_⟩;have E:=b8.out;have e5:dI c=2*s+1-0:=by unfold dI;rw[a.out.2.2.2.2];omega
     rw[←e5];exact E
    case round=>
     obtain⟨m,hm,rfl,HZ⟩:=hrel;obtain⟨z,E,a4⟩:=HZ.out;have c0:=E.cell0;rw[a.out.2.2.2.2]at c0;have c7:=E.cell7;have e9:(m:Int)<2*(s:Int)+2:=by omega
     have P:=E.does (by omega) ci (1+kk) 1 5;have M:=aD1 (k:=1+kk) E.ok a4 (by omega) (by have:=a.out.2.2.2.1;omega) (by have:=a.out.2.2.2.1;omega);obtain⟨L,b0⟩:=aIf (iC z ci (1+kk) 1 5);obtain⟨zz,a7⟩:=aIf (kY z ci (1+kk) 1 5);rw[b0,a7]at P M;have d0:=cA P;have b2:=cA M;clear E a4 P M b0 a7 HZ;go_wp2_with (go_at_call 27;refine d0.out.mono ?_;rintro e D ⟨rfl,h⟩;have c5:=cA h;clear h;refine cD ?_);have N:=aA D (.cells #[.int .i64 0,.int .i64 0,.int .i64 0,.int .i64 0,.int .i64 0,.int .i64 0,.int .i64 0,.int .i64 0,.int .i64 0,.int .i64 0,.int .i64 0,.int .i64 0,.int .i64 0,.int .i64 0,.int .i64 0,.int .i64 0,.int .i64 0,.int .i64 0,.int .i64 0] 70);have O:Chg NoS D (D.alloc (.cells #[.int .i64 0,.int .i64 0,.int .i64 0,.int .i64 0,.int .i64 0,.int .i64 0,.int .i64 0,.int .i64 0,.int .i64 0,.int .i64 0,.int .i64 0,.int .i64 0,.int .i64 0,.int .i64 0,.int .i64 0,.int .i64 0,.int .i64 0,.int .i64 0,.int .i64 0] 70)):=(Chg.refl _ _).alloc _;generalize V:D.alloc (.cells #[.int .i64 0,.int .i64 0,.int .i64 0,.int .i64 0,.int .i64 0,.int .i64 0,.int .i64 0,.int .i64 0,.int .i64 0,.int .i64 0,.int .i64 0,.int .i64 0,.int .i64 0,.int .i64 0,.int .i64 0,.int .i64 0,.int .i64 0,.int .i64 0,.int .i64 0] 70)=W6 at N O;have d1:=cA V;have b9:Hid (W6.heap[D.heap.size]?=some (.cells (evL zEv).toArray 70 (0,0))):=N;have c2:=cA O;clear N O V c0 c7;refine cA ?_
     go_wp2_with (first|rw[d1.out]|(refine cG rfl 70 _ _ rfl D.heap.size 0 70 _ _ (evL L) rfl rfl b9.out (by kernel_rfl) (by simp[Value.oneCell']) (by simp) rfl ?_;intro W7 U d4 Y;have b4:=cA U;have Q:=cA Y;clear U d4 Y;refine cD ?_));have c0:W7.cell? ⟨D.heap.size,0,none⟩=some (.int .i64 L.kind):=cB Q.out 0 _ rfl;have d8:W7.cell? ⟨D.heap.size,15,none⟩=some (.int .i64 L.res):=cB Q.out 15 _ rfl;have d6:Hid (∀j u,(evL L)[j]?=some u→W7.cell? ((⟨D.heap.size,0,none⟩:Addr).add j)=some u):=cE Q.out;have a1:=cA (c5.out.chg0 (c2.out.fresh b4.out (aE _)));rw[b2.out.1]at c0;have I:=b2.out.2;obtain⟨T,G⟩:=aIf (L.res);rw[G]at d8 I;rcases I with A|⟨h5,b1,B⟩
     ·have hb:1≤T∧T≤6∧T≠5:=by unfold aAF at A;omega
      have e6:decide (T<1)=false:=by simp;omega
      have e8:decide (6<T)=false:=by simp;omega
      have f0:(T !=5)=true:=by simp;omega
      have d3:=cA (aDM W7 (1+kk) L (by rw[G];exact A));clear A hb G;refine cA ?_;go_wp2_with (first|(go_at_call 28;refine d3.out.mono ?_;rintro e W8 ⟨rfl,h⟩;have c3:=cA h;clear h;refine cD ?_)|(refine cJ rfl 70 _ rfl ⟨D.heap.size,0,none⟩ rfl (evL L) _ d6.out underlying70 rfl (by kernel_rfl) ?_));refine cA ?_;go_wp2_with fail;go_ret;exact⟨rfl,(a1.out.chg0 c3.out).bel⟩
     ·subst h5;have c8:=cA (aH3 b1 B);have d7:m+1≤2*s+1:=by omega
      clear b1 B G;refine cA ?_;go_wp2_with fail;go_roundw
      case rel=>
       refine⟨m+1,d7,by go_num,zz,a1.out.mono (by omega),?_⟩;have E:=c8.out.2;have e1:2*s+1-m-1=2*s+1-(m+1):=by omega
       have e2:(1000000:Int)-1400*(m:Int)-1400=1000000-1400*((m+1:Nat):Int):=by omega
       rw[←e1,←e2];exact E
      case measure=>simp[intOf]<;>omega
end Go.Proofs.YtbbdgokdfhdpiaaGreatDoor
