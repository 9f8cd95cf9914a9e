/- A part. -/
import Derived.Test.YtbbdgokdfhdpiaaGreatDoorA29
namespace Go.Proofs.YtbbdgokdfhdpiaaGreatDoor
set_option linter.all false
set_option maxRecDepth 100000
set_option maxHeartbeats 0
open Go.Proofs.Tryz Go.RowKit
section
variable {f:Cf}{i:Nat}{a:Ac}
theorem AOk.acOk(h:AOk f i a)(hi:i≤4)(hc1:2≤f.compact)(hc2:f.compact≤16)(hr:f.room≤2000):yA a:=by
 have c:=h.num;have d:=h.comp;have e:=h.dk.len;refine⟨by omega,by omega,by omega,by omega,fun r hr=>⟨(h.rows r hr).l1,(h.rows r hr).l2⟩,fun p hp=>?_,by omega⟩;have b:=h.dk.fail p hp;exact⟨b.1,b.2.1⟩
theorem AOk.crOk(h:AOk f i a)(hr:f.room≤2000):aH8 a.dk:=by
 have b:=h.dk.syn;have c:=h.dk.len;have e:fB a.dk=(a.dk.log,a.dk.lsyn):=by unfold fB;rw[h.dk.old]
 refine⟨?_,?_,?_⟩<;>rw[e]<;>dsimp only<;>omega
theorem AOk.stOk(h:AOk f i a)(hi:i≤4)(hc1:2≤f.compact)(hc2:f.compact≤16)(hr:f.room≤2000):aK0 a:=
 ⟨h.acOk hi hc1 hc2 hr,h.dk.by_,h.crOk hr,fun h2=>⟨h.nofail h2,h.new (by omega),h.dk.old⟩,fun _=>h.dk.old⟩
end
theorem aFz(a:Ac)(n:Int):dJ (tN a n)=[]:=by
 unfold tN;split
 ·rfl
 ·split
  ·exact fE _ (show(4:Int)≠1 by decide)
  ·rfl
theorem aEe(a:Ac):dJ (nP a)=[]:=by
 unfold nP;split
 ·rfl
 ·split
  ·rfl
  ·exact fE _ (show(5:Int)≠1 by decide)
section
variable (W:World) (own:Nat→Nat)
theorem aGk(g B:Nat)(eb:Addr)(x:Mo)(N i:Int)(h:Moor W own g x)(hgl:GlAt W B eb)(hB:∀k,own k≠0→B≤k)(hok:MoOk N x)(hN:N≤90000000000):
 Calls prog 43 #[.pointer (some ⟨g,0,none⟩),.int .i64 i] W fun r W'=>r= .returned (.int .i64 (xX x i))∧MoTo W own g (oQ x i) W':=by
 obtain⟨R,L,E,D,h⟩:=h;have u:=hok.na;have n:=fL hok.conf;have z:x.acs.length≤5:=by rw[u];unfold gJ;omega
 obtain⟨Q,M,w,_⟩:=h.cells;obtain⟨p,o,rfl,f⟩:=fK h.rav;have F:W.cell? ⟨g,0,none⟩=some (.slice p x.acs.length o):=cO w 0 _ rfl;have s:=cN (mS W g i p x.acs.length o (by omega) F);have H:=cN h;have I:=cN f;clear w f;unfold xX oQ;by_cases b:dT i x.acs.length=true
 ·rw[if_pos b,if_pos b];rw[b]at s;obtain⟨K,O⟩:=(dY _ _).1 b;obtain⟨c,v,m⟩:=hok.ac b;obtain⟨d,l⟩:=qK b;obtain⟨j,rfl⟩:∃j:Nat,i=j:=⟨i.toNat,by omega⟩;have t:j<x.acs.length:=by omega
  obtain⟨k,rfl,P⟩:=I.out j t;have a:=h.asys j t;have y:((j:Int).toNat)=j:=by omega
  simp only[y]at l c m;rw[←l]at a;have J:=cN (aHz W _ _ B eb _ g _ _ (acM x j) x.net x.tr a hgl (fun q hq=>hB q (by omega)) (fun q hq=>hB q (by omega)) (c.stOk m n.2.2.2.2.2.1.1 n.2.2.2.2.2.1.2 n.2.2.2.2.2.2.2) c.st (by have:=hok.nl;omega) (by have:=hok.tl;omega));clear c v l a d h hok m;go_enter func43,ntmps43;go_wp2_with (first|(go_at_call 58;refine s.out.mono ?_;rintro e C ⟨rfl,rfl⟩)|(go_at_call 88;refine J.out.mono ?_;rintro r S ⟨rfl,A⟩));go_ret;refine⟨rfl,?_⟩;have:=H.out.acceptorTo j t A;unfold mF;simp only[y];have G:=aEe (acM x j);rw[G,aC];exact this
 ·rw[if_neg b,if_neg b];have d:dT i x.acs.length=false:=by simpa using b
  rw[d]at s;clear h hok b d;go_enter func43,ntmps43;go_wp2_with (go_at_call 58;refine s.out.mono ?_;rintro e C ⟨rfl,rfl⟩);go_ret;exact⟨rfl,MoTo.of ⟨_,_,E,D,H.out⟩⟩
theorem aHq(g:Nat)(x:Mo)(N i n q:Int)(h:Moor W own g x)(hok:MoOk N x)(hN:N≤90000000000):
 Calls prog 42 #[.pointer (some ⟨g,0,none⟩),.int .i64 i,.int .i64 n,.int .i64 q] W fun r W'=>r= .returned (.int .i64 (aBF x i n q))∧MoTo W own g (tJ x i n q) W':=by
 obtain⟨T,O,v,u,h⟩:=h;have y:=hok.na;have A:=fL hok.conf;have F:x.acs.length≤5:=by rw[y];unfold gJ;omega
 obtain⟨S,P,B,_⟩:=h.cells;obtain⟨p,o,rfl,f⟩:=fK h.rav;have I:W.cell? ⟨g,0,none⟩=some (.slice p x.acs.length o):=cO B 0 _ rfl;have d:=cN (mS W g i p x.acs.length o (by omega) I);have H:=cN h;have K:=cN f;clear B f;unfold aBF tJ qO;by_cases a:dT i x.acs.length=true
 ·rw[a];by_cases E:n<0
  ·have e:(!true||decide (n<0)||decide (q<0))=true:=by simp[E]
   rw[if_pos e,if_pos e];rw[a]at d;clear h hok a e;go_enter func42,ntmps42;go_wp2_with (go_at_call 58;refine d.out.mono ?_;rintro e t ⟨rfl,rfl⟩);go_ret;exact⟨rfl,MoTo.of ⟨_,_,v,u,H.out⟩⟩
  ·by_cases C:q<0
   ·have e:(!true||decide (n<0)||decide (q<0))=true:=by simp[C]
    rw[if_pos e,if_pos e];rw[a]at d;clear h hok a e;go_enter func42,ntmps42;go_wp2_with (go_at_call 58;refine d.out.mono ?_;rintro e t ⟨rfl,rfl⟩);go_ret;exact⟨rfl,MoTo.of ⟨_,_,v,u,H.out⟩⟩
   ·have e:¬(!true||decide (n<0)||decide (q<0))=true:=by simp[E,C]
    rw[if_neg e,if_neg e];clear e;rw[a]at d;obtain⟨M,Q⟩:=(dY _ _).1 a;obtain⟨l,z,s⟩:=hok.ac a;obtain⟨c,m⟩:=qK a;obtain⟨j,rfl⟩:∃j:Nat,i=j:=⟨i.toNat,by omega⟩;have w:j<x.acs.length:=by omega
    obtain⟨k,rfl,R⟩:=K.out j w;have b:=h.asys j w;have D:((j:Int).toNat)=j:=by omega
    simp only[D]at m l s;rw[←m]at b;have L:=cN (aHk W _ _ _ g _ _ (acM x j) x.net x.tr n q b (l.crOk A.2.2.2.2.2.2.2) (by omega) (by have:=hok.nl;omega) (by have:=hok.tl;omega));clear l z m b c h hok s;go_enter func42,ntmps42;go_wp2_with (first|(go_at_call 58;refine d.out.mono ?_;rintro e t ⟨rfl,rfl⟩)|(go_at_call 87;refine L.out.mono ?_;rintro r U ⟨rfl,G⟩));go_ret;refine⟨rfl,?_⟩;have:=H.out.acceptorTo j w G;unfold mF;simp only[D];have J:=aFz (acM x j) n;rw[J,aC];exact this
 ·have e:(!dT i x.acs.length||decide (n<0)||decide (q<0))=true:=by simp[a]
  rw[if_pos e,if_pos e];clear e;have c:dT i x.acs.length=false:=by simpa using a
  rw[c]at d;clear h hok a c;go_enter func42,ntmps42;go_wp2_with (go_at_call 58;refine d.out.mono ?_;rintro e t ⟨rfl,rfl⟩);go_ret;exact⟨rfl,MoTo.of ⟨_,_,v,u,H.out⟩⟩
theorem aJv(g:Nat)(x:Mo)(N i:Int)(h:Moor W own g x)(hok:MoOk N x):
 Calls prog 21 #[.pointer (some ⟨g,0,none⟩),.int .i64 i] W fun r W'=>r= .returned (.tuple #[.string (strOfNums (aKb x i)),.int .i64 (aJN x i)])∧W'=W:=by
 obtain⟨M,F,G,E,h⟩:=h;have q:=hok.na;have C:=fL hok.conf;have v:x.acs.length≤5:=by rw[q];unfold gJ;omega
 obtain⟨L,I,t,_⟩:=h.cells;obtain⟨p,m,rfl,d⟩:=fK h.rav;have y:W.cell? ⟨g,0,none⟩=some (.slice p x.acs.length m):=cO t 0 _ rfl;have o:=cN (mS W g i p x.acs.length m (by omega) y);have H:=cN h;have A:=cN d;clear t d;unfold aJN aKb;by_cases b:dT i x.acs.length=true
 ·rw[if_pos b,if_pos b];rw[b]at o;obtain⟨D,J⟩:=(dY _ _).1 b;obtain⟨l,s,n⟩:=hok.ac b;obtain⟨c,f⟩:=qK b;obtain⟨j,rfl⟩:∃j:Nat,i=j:=⟨i.toNat,by omega⟩;have u:j<x.acs.length:=by omega
  obtain⟨k,rfl,K⟩:=A.out j u;have a:=h.asys j u;have z:((j:Int).toNat)=j:=by omega
  simp only[z]at f l n;rw[←f]at a;have B:=cN (aBD W _ _ g (acM x j) a.acc);clear l s f a c h hok n;go_enter func21,ntmps21;go_wp2_with (first|(go_at_call 58;refine o.out.mono ?_;rintro e w ⟨rfl,rfl⟩)|(go_at_call 60;refine B.out.mono ?_;rintro r O ⟨rfl,rfl⟩))
  go_ret2
  exact⟨rfl,rfl⟩
 ·rw[if_neg b,if_neg b];have c:dT i x.acs.length=false:=by simpa using b
  rw[c]at o;clear h hok b c;go_enter func21,ntmps21;go_wp2_with (go_at_call 58;refine o.out.mono ?_;rintro e w ⟨rfl,rfl⟩)
  go_ret2
  exact⟨rfl,rfl⟩
theorem aFf(g:Nat)(x:Mo)(N i:Int)(h:Moor W own g x)(hok:MoOk N x):
 Calls prog 20 #[.pointer (some ⟨g,0,none⟩),.int .i64 i] W fun r W'=>∃v,r= .returned (.tuple #[v,.int .i64 (sS x i)])∧W'.ownsRow W.heap.size 58 7 v (oG x i).length (cellsOf (oG x i))∧Below W.heap.size W W':=by
 obtain⟨T,M,O,L,h⟩:=h;have A:=hok.na;have o:=fL hok.conf;have E:x.acs.length≤5:=by rw[A];unfold gJ;omega
 obtain⟨S,P,C,_⟩:=h.cells;obtain⟨p,u,rfl,n⟩:=fK h.rav;have F:W.cell? ⟨g,0,none⟩=some (.slice p x.acs.length u):=cO C 0 _ rfl;have s:=cN (mS W g i p x.acs.length u (by omega) F);have H:=cN h;have J:=cN n;clear C n;unfold oG sS;by_cases m:dT i x.acs.length=true
 ·rw[if_pos m];rw[m]at s;obtain⟨K,Q⟩:=(dY _ _).1 m;obtain⟨d,t,l⟩:=hok.ac m;obtain⟨c,f⟩:=qK m;obtain⟨j,rfl⟩:∃j:Nat,i=j:=⟨i.toNat,by omega⟩;have D:j<x.acs.length:=by omega
  obtain⟨k,rfl,R⟩:=J.out j D;have a:=h.asys j D;have G:((j:Int).toNat)=j:=by omega
  simp only[G]at f d l;rw[←f]at a;have q:=aFP W _ _ g (acM x j) a.acc (d.acOk l o.2.2.2.2.2.1.1 o.2.2.2.2.2.1.2 o.2.2.2.2.2.2.2);by_cases b:(acM x j).st=2
  ·rw[if_pos b,if_neg (by decide)];simp only[if_pos b]at q;have z:=cN q;clear d t f a c h hok l q b;go_enter func20,ntmps20;go_wp2_with (first|(go_at_call 58;refine s.out.mono ?_;rintro e B ⟨rfl,rfl⟩)|(go_at_call 59;refine z.out.mono ?_;rintro r I ⟨rfl,rfl⟩))
   go_ret2
   exact⟨_,rfl,⟨rfl,Or.inl ⟨rfl,rfl⟩⟩,aJ _ _⟩
  ·rw[if_neg b,if_pos rfl];simp only[if_neg b]at q;have z:=cN q;clear d t f a c h hok l q b;go_enter func20,ntmps20;go_wp2_with (first|(go_at_call 58;refine s.out.mono ?_;rintro e B ⟨rfl,rfl⟩)|(go_at_call 59;refine z.out.mono ?_;rintro r I ⟨v,rfl,w,y⟩))
   go_ret2
   exact⟨v,rfl,w,y⟩
 ·rw[if_neg m,if_neg (by decide)];have c:dT i x.acs.length=false:=by simpa using m
  rw[c]at s;clear h hok m c;go_enter func20,ntmps20;go_wp2_with (go_at_call 58;refine s.out.mono ?_;rintro e B ⟨rfl,rfl⟩)
  go_ret2
  exact⟨_,rfl,⟨rfl,Or.inl ⟨rfl,rfl⟩⟩,aJ _ _⟩
end
section
variable (W:World) (own:Nat→Nat) (g:Nat) (x:Mo) (N i:Int)
theorem aFI(l:Int)(h:Moor W own g x)(hok:MoOk N x):
 Calls prog 16 #[.pointer (some ⟨g,0,none⟩),.int .i64 i,.int .i64 l] W fun r W'=>r= .returned (.bool (aCO x i l))∧Below W.heap.size W W':=by
 obtain⟨Q,J,K,I,h⟩:=h;have E:=hok.nc;have F:=fL hok.conf;obtain⟨P,L,s,_⟩:=h.cells;obtain⟨p,m,rfl,c⟩:=fK h.rcv;have A:W.cell? ⟨g,1,none⟩=some (.slice p x.cls.length m):=cO s 1 _ rfl;have o:=cN (lD W g i p x.cls.length m (by omega) A);have H:=cN h;have C:=cN c;clear s c;unfold aCO;by_cases d:dT i x.cls.length=true
 ·rw[d,Bool.true_and];rw[d]at o;obtain⟨G,M⟩:=(dY _ _).1 d;obtain⟨n,q⟩:=hok.cl d;obtain⟨a,f⟩:=mQ d;obtain⟨j,rfl⟩:∃j:Nat,i=j:=⟨i.toNat,by omega⟩;have t:j<x.cls.length:=by omega
  obtain⟨k,rfl,O⟩:=C.out j t;have B:((j:Int).toNat)=j:=by omega
  simp only[B]at f n;obtain⟨w,z,u,wt,y,b⟩:=h.cls j t;rw[←f]at b;have D:=cN (aHm W _ _ g x.cf (clM x j) w z u wt y l b);clear n q f a h hok b;go_enter func16,ntmps16;go_wp2_with (first|(go_at_call 47;refine o.out.mono ?_;rintro e v ⟨rfl,rfl⟩)|(go_at_call 48;refine D.out.mono ?_;rintro r R ⟨rfl,rfl⟩));all_goals
   go_ret;exact⟨by simp_all,by first|exact aJ _ _|exact(aJ _ _).drew⟩
 ·have a:dT i x.cls.length=false:=by simpa using d
  rw[a,Bool.false_and];rw[a]at o;clear h hok d a;go_enter func16,ntmps16;go_wp2_with (go_at_call 47;refine o.out.mono ?_;rintro e v ⟨rfl,rfl⟩);go_ret;exact⟨rfl,aJ _ _⟩
theorem aHe(h:Moor W own g x)(hok:MoOk N x):
 Calls prog 109 #[.pointer (some ⟨g,0,none⟩),.int .i64 i] W fun r W'=>r= .returned (.bool (aGu x i))∧Below W.heap.size W W':=by
 obtain⟨P,I,J,G,h⟩:=h;have D:=hok.nc;have E:=fL hok.conf;obtain⟨O,K,q,_⟩:=h.cells;obtain⟨p,l,rfl,c⟩:=fK h.rcv;have z:W.cell? ⟨g,1,none⟩=some (.slice p x.cls.length l):=cO q 1 _ rfl;have n:=cN (lD W g i p x.cls.length l (by omega) z);have H:=cN h;have B:=cN c;clear q c;unfold aGu;by_cases d:dT i x.cls.length=true
 ·rw[d,Bool.true_and];rw[d]at n;obtain⟨F,L⟩:=(dY _ _).1 d;obtain⟨m,o⟩:=hok.cl d;obtain⟨a,f⟩:=mQ d;obtain⟨j,rfl⟩:∃j:Nat,i=j:=⟨i.toNat,by omega⟩;have s:j<x.cls.length:=by omega
  obtain⟨k,rfl,M⟩:=B.out j s;have A:((j:Int).toNat)=j:=by omega
  simp only[A]at f m;obtain⟨v,y,t,wt,w,b⟩:=h.cls j s;rw[←f]at b;have C:=cN (aIG W _ _ g x.cf (clM x j) v y t wt w b);clear m o f a h hok b;go_enter func109,ntmps109;go_wp2_with (first|(go_at_call 47;refine n.out.mono ?_;rintro e u ⟨rfl,rfl⟩)|(go_at_call 148;refine C.out.mono ?_;rintro r Q ⟨rfl,rfl⟩));all_goals
   go_ret;exact⟨by simp_all,by first|exact aJ _ _|exact(aJ _ _).drew⟩
 ·have a:dT i x.cls.length=false:=by simpa using d
  rw[a,Bool.false_and];rw[a]at n;clear h hok d a;go_enter func109,ntmps109;go_wp2_with (go_at_call 47;refine n.out.mono ?_;rintro e u ⟨rfl,rfl⟩);go_ret;exact⟨rfl,aJ _ _⟩
end
theorem aBr{x:Mo}{N:Int}(hok:MoOk N x){i:Int}(hi:dT i x.cls.length=true)(hN:N≤90000000000):aAz (clM x i):=by
 have c:=hok.nc;have b:=fL hok.conf;obtain⟨a,d⟩:=hok.cl hi;exact⟨by rw[a.core.num];omega,by rw[a.core.num];omega,a.core.i1,a.core.i2,a.core.c1,by have:=a.core.c2;omega,a.core.r1,a.core.r2⟩
theorem aBW(x:Mo)(i kk l t:Int):lT x i kk l t=(!(dT i x.cls.length)|| !(wiB kk 1 4)|| !(wiB l 0 3)||(decide (kk≤2)&& !(wiB t 1 1000))):=by
 unfold lT wiB;simp only[Bool.decide_and]
theorem aFh(W:World)(own:Nat→Nat)(g:Nat)(x:Mo)(N i kk l t:Int)(h:Moor W own g x)(hok:MoOk N x)(hN:N≤90000000000):
 Calls prog 37 #[.pointer (some ⟨g,0,none⟩),.int .i64 i,.int .i64 kk,.int .i64 l,.int .i64 t] W fun r W'=>r= .returned (.int .i64 (yQ x i kk l t))∧MoTo W own g (oS x i kk l t) W':=by
 obtain⟨av,cv,bA,bC,h⟩:=h;have b0:=hok.nc;have a0:=fL hok.conf;obtain⟨nv,tv,hb,_⟩:=h.cells;obtain⟨p,E,rfl,R⟩:=fK h.rcv;have c1:W.cell? ⟨g,1,none⟩=some (.slice p x.cls.length E):=cO hb 1 _ rfl;have J:=cN (lD W g i p x.cls.length E (by omega) c1);have H:=cN h;have HP:=cN R;have HB:=cN hb;clear hb R;unfold yQ oS;rw[aBW];by_cases A:dT i x.cls.length=true
 ·rw[A]at J⊢;by_cases K:wiB kk 1 4=true
  ·rw[K];by_cases M:wiB l 0 3=true
   ·rw[M];have L:1≤kk∧kk≤4:=by simpa[wiB]using K
    have Y:0≤l∧l≤3:=by simpa[wiB]using M
    obtain⟨h0,h1⟩:=(dY _ _).1 A;obtain⟨a7,O⟩:=mQ A;have a3:=aBr hok A hN;obtain⟨j,rfl⟩:∃j:Nat,i=j:=⟨i.toNat,by omega⟩;have I:j<x.cls.length:=by omega
    obtain⟨k,rfl,ck⟩:=HP.out j I;have T:=h.sys j I;have ej:((j:Int).toNat)=j:=by omega
    simp only[ej]at O;rw[←O]at T;have w:=cN a0;have Z:=cN a3;have Q:clM x (j:Int)=x.cls[j]'I:=O;have U:=cN Q;have EJ:=cN ej;have V:=cN (show(x.net.length:Int)≤90000000000 by have:=hok.nl;omega);have X:=cN (show(x.tr.length:Int)≤90000000000 by have:=hok.tl;omega);clear a0 a3 Q O ej a7 T hok h b0;by_cases o:kk≤2
    ·have u:(decide (kk≤2))=true:=by simpa using o
     rw[u];have z:qV kk t=t:=by unfold qV;rw[if_pos o]
     by_cases ht:wiB t 1 1000=true
     ·have a8:1≤t∧t≤1000:=by simpa[wiB]using ht
      rw[ht];simp only[Bool.not_true,Bool.or_self,Bool.and_false,aU,if_false];rw[z];have HK:=cN L;have G:kk=1∨kk=2:=by omega
      clear u o z A Y L;have P:=cN a8;rcases G with y|y
      ·subst y;go_enter func37,ntmps37;go_wp2_with (first|(go_at_call 47;refine J.out.mono ?_;rintro e s ⟨rfl,b⟩;have a:=b.symm;subst a;clear b)|(go_at_call 80;refine(iI _ _ _ _).mono ?_;rintro e s ⟨rfl,b⟩;have a:=b.symm;subst a;clear b));generalize d:W.alloc (.cells #[.int .i64 1,.int .i64 l,.int .i64 t] 68)=W1;have n:W1.heap[W.heap.size]?=some (.cells #[.int .i64 1,.int .i64 l,.int .i64 t] 68 (0,0)):=by rw[←d];exact aA W _
       have c:Chg (fun q=>W.heap.size≤q) W W1:=by rw[←d];exact(Chg.refl _ _).alloc _
       have m:=H.out.kept c (fun q hq h=>by have:=H.out.lt q hq;omega);have D:=H.out.lt k (by rw[H.out.cvb k rfl];decide);have a2:W1.cell? ⟨g,1,none⟩=some (.slice (some ⟨k,0,none⟩) x.cls.length E):=cO (c.kept HB.out (by have:=dG HB.out;omega)) 1 _ rfl;have a1:=(aW (c.block k D (by omega))).trans ck;have HL:=cN (cR (W:=W1.drew) n);have f:=m.sys j I;rw[←U.out]at f;have HT:=cN (zO W1.drew _ _ _ g x.cf _ _ (clM x j) x.net x.tr 1 l t f.drew w.out.1.1 w.out.1.2 Z.out (by have:=P.out.1;omega) (P.out.2) (by have:=V.out;omega) (by have:=X.out;omega));have F:=cN m;have C:=cN c;clear n c m f d ck c1;refine eD [0,0,0,1,0,0,1,1] (by kernel_rfl) (fun _ _ _ _=>rfl) ?_;simp only[dC,dB];iterate 7 (apply sB rfl rfl;·(intro x h;(try cases h rfl);go_simp;with_reducible rfl))
       try simp only[pA]
       refine dA (v:=opV 1 l t) rfl (fun x hx=>cU 68 _ rfl ⟨W.heap.size,0,none⟩ rfl [.int .i64 1,.int .i64 l,.int .i64 t] _ (by subst hx;exact HL.out) underlying68 rfl (by kernel_rfl)) ?_;refine cP ?_;(try simp only[pA]);go_wp2_with (go_at_call 81;refine HT.out.mono ?_;rintro r W5 ⟨rfl,k1⟩);go_ret;refine⟨rfl,?_⟩;have B:=F.out.clientTo j I (After.drew k1);have e:gB x (j:Int) (gU (clM x j) 1 l t) (iA x.cf (clM x j) 1 l t)={x with cls:=x.cls.set j (gU (clM x j) 1 l t),net:=x.net++dJ (iA x.cf (clM x j) 1 l t),tr:=x.tr++iA x.cf (clM x j) 1 l t}:=by unfold gB;rw[EJ.out]
       rw[e];exact MoTo.trans (own1:=own) (C.out.mono (fun q hq h=>by omega)) (fun q h=>Or.inl h) B
      ·subst y;go_enter func37,ntmps37;go_wp2_with (first|(go_at_call 47;refine J.out.mono ?_;rintro e s ⟨rfl,b⟩;have a:=b.symm;subst a;clear b)|(go_at_call 80;refine(iI _ _ _ _).mono ?_;rintro e s ⟨rfl,b⟩;have a:=b.symm;subst a;clear b));generalize d:W.alloc (.cells #[.int .i64 2,.int .i64 l,.int .i64 t] 68)=W1;have n:W1.heap[W.heap.size]?=some (.cells #[.int .i64 2,.int .i64 l,.int .i64 t] 68 (0,0)):=by rw[←d];exact aA W _
       have c:Chg (fun q=>W.heap.size≤q) W W1:=by rw[←d];exact(Chg.refl _ _).alloc _
       have m:=H.out.kept c (fun q hq h=>by have:=H.out.lt q hq;omega);have D:=H.out.lt k (by rw[H.out.cvb k rfl];decide);have a2:W1.cell? ⟨g,1,none⟩=some (.slice (some ⟨k,0,none⟩) x.cls.length E):=cO (c.kept HB.out (by have:=dG HB.out;omega)) 1 _ rfl;have a1:=(aW (c.block k D (by omega))).trans ck;have HL:=cN (cR (W:=W1.drew) n);have f:=m.sys j I;rw[←U.out]at f;have HT:=cN (zO W1.drew _ _ _ g x.cf _ _ (clM x j) x.net x.tr 2 l t f.drew w.out.1.1 w.out.1.2 Z.out (by have:=P.out.1;omega) (P.out.2) (by have:=V.out;omega) (by have:=X.out;omega));have F:=cN m;have C:=cN c;clear n c m f d ck c1;refine eD [0,0,0,1,0,0,1,1] (by kernel_rfl) (fun _ _ _ _=>rfl) ?_;simp only[dC,dB];iterate 7 (apply sB rfl rfl;·(intro x h;(try cases h rfl);go_simp;with_reducible rfl))
       try simp only[pA]
       refine dA (v:=opV 2 l t) rfl (fun x hx=>cU 68 _ rfl ⟨W.heap.size,0,none⟩ rfl [.int .i64 2,.int .i64 l,.int .i64 t] _ (by subst hx;exact HL.out) underlying68 rfl (by kernel_rfl)) ?_;refine cP ?_;(try simp only[pA]);go_wp2_with (go_at_call 81;refine HT.out.mono ?_;rintro r W5 ⟨rfl,k1⟩);go_ret;refine⟨rfl,?_⟩;have B:=F.out.clientTo j I (After.drew k1);have e:gB x (j:Int) (gU (clM x j) 2 l t) (iA x.cf (clM x j) 2 l t)={x with cls:=x.cls.set j (gU (clM x j) 2 l t),net:=x.net++dJ (iA x.cf (clM x j) 2 l t),tr:=x.tr++iA x.cf (clM x j) 2 l t}:=by unfold gB;rw[EJ.out]
       rw[e];exact MoTo.trans (own1:=own) (C.out.mono (fun q hq h=>by omega)) (fun q h=>Or.inl h) B
     ·have a6:wiB t 1 1000=false:=by simpa using ht
      rw[a6];simp only[Bool.not_true,Bool.not_false,Bool.or_self,Bool.false_or,Bool.and_true,Bool.or_true,if_true];clear u z A Y ht;have G:kk=1∨kk=2:=by omega
      rcases G with y|y;all_goals
       subst y;clear o L;go_enter func37,ntmps37;go_wp2_with (first|(go_at_call 47;refine J.out.mono ?_;rintro e s ⟨rfl,b⟩;have a:=b.symm;subst a;clear b)|(go_at_call 80;refine(iI _ _ _ _).mono ?_;rintro e s ⟨rfl,b⟩;have a:=b.symm;subst a;clear b));go_ret;exact⟨rfl,MoTo.kept (S:=fun q=>W.heap.size≤q) ⟨_,_,bA,bC,H.out⟩ (by first|exact Chg.refl _ _|exact(Chg.refl _ _).alloc _) (fun q hq h=>by have:=H.out.lt q hq;omega) (fun q hq h=>by omega)⟩
    ·have u:(decide (kk≤2))=false:=by simpa using o
     have e1:(kk==1)=false:=by rw[beq_eq_false_iff_ne];omega
     have e2:(kk==2)=false:=by rw[beq_eq_false_iff_ne];omega
     have z:qV kk t=0:=by unfold qV;rw[if_neg o]
     rw[u];simp only[Bool.not_true,Bool.or_self,Bool.false_and,aU,if_false];rw[z];clear u o z A Y L;go_enter func37,ntmps37;go_wp2_with (first|(go_at_call 47;refine J.out.mono ?_;rintro e s ⟨rfl,b⟩;have a:=b.symm;subst a;clear b)|(go_at_call 80;refine(iI _ _ _ _).mono ?_;rintro e s ⟨rfl,b⟩;have a:=b.symm;subst a;clear b));generalize d:W.alloc (.cells #[.int .i64 kk,.int .i64 l,.int .i64 0] 68)=W1;have n:W1.heap[W.heap.size]?=some (.cells #[.int .i64 kk,.int .i64 l,.int .i64 0] 68 (0,0)):=by rw[←d];exact aA W _
     have c:Chg (fun q=>W.heap.size≤q) W W1:=by rw[←d];exact(Chg.refl _ _).alloc _
     have m:=H.out.kept c (fun q hq h=>by have:=H.out.lt q hq;omega);have D:=H.out.lt k (by rw[H.out.cvb k rfl];decide);have a2:W1.cell? ⟨g,1,none⟩=some (.slice (some ⟨k,0,none⟩) x.cls.length E):=cO (c.kept HB.out (by have:=dG HB.out;omega)) 1 _ rfl;have a1:=(aW (c.block k D (by omega))).trans ck;have HL:=cN (cR (W:=W1.drew) n);have f:=m.sys j I;rw[←U.out]at f;have HT:=cN (zO W1.drew _ _ _ g x.cf _ _ (clM x j) x.net x.tr kk l 0 f.drew w.out.1.1 w.out.1.2 Z.out (aL 0) (by decide) (by have:=V.out;omega) (by have:=X.out;omega));have F:=cN m;have C:=cN c;clear n c m f d ck c1;refine eD [0,0,0,1,0,0,1,1] (by kernel_rfl) (fun _ _ _ _=>rfl) ?_;simp only[dC,dB];iterate 7 (apply sB rfl rfl;·(intro x h;(try cases h rfl);go_simp;with_reducible rfl))
     try simp only[pA]
     refine dA (v:=opV kk l 0) rfl (fun x hx=>cU 68 _ rfl ⟨W.heap.size,0,none⟩ rfl [.int .i64 kk,.int .i64 l,.int .i64 0] _ (by subst hx;exact HL.out) underlying68 rfl (by kernel_rfl)) ?_;refine cP ?_;(try simp only[pA]);go_wp2_with (go_at_call 81;refine HT.out.mono ?_;rintro r W5 ⟨rfl,k1⟩);go_ret;refine⟨rfl,?_⟩;have B:=F.out.clientTo j I (After.drew k1);have e:gB x (j:Int) (gU (clM x j) kk l 0) (iA x.cf (clM x j) kk l 0)={x with cls:=x.cls.set j (gU (clM x j) kk l 0),net:=x.net++dJ (iA x.cf (clM x j) kk l 0),tr:=x.tr++iA x.cf (clM x j) kk l 0}:=by unfold gB;rw[EJ.out]
     rw[e];exact MoTo.trans (own1:=own) (C.out.mono (fun q hq h=>by omega)) (fun q h=>Or.inl h) B
   ·have a4:wiB l 0 3=false:=by simpa using M
    rw[a4];simp only[Bool.not_true,Bool.not_false,Bool.or_self,Bool.false_or,Bool.or_true,Bool.true_or,if_true];clear A M hok h;go_enter func37,ntmps37;go_wp2_with (first|(go_at_call 47;refine J.out.mono ?_;rintro e s ⟨rfl,b⟩;have a:=b.symm;subst a;clear b)|(go_at_call 80;refine(iI _ _ _ _).mono ?_;rintro e s ⟨rfl,b⟩;have a:=b.symm;subst a;clear b));go_ret;exact⟨rfl,MoTo.of ⟨_,_,bA,bC,H.out⟩⟩
  ·have a5:wiB kk 1 4=false:=by simpa using K
   rw[a5];simp only[Bool.not_true,Bool.not_false,Bool.or_self,Bool.false_or,Bool.or_true,Bool.true_or,if_true];clear A K hok h;go_enter func37,ntmps37;go_wp2_with (first|(go_at_call 47;refine J.out.mono ?_;rintro e s ⟨rfl,b⟩;have a:=b.symm;subst a;clear b)|(go_at_call 80;refine(iI _ _ _ _).mono ?_;rintro e s ⟨rfl,b⟩;have a:=b.symm;subst a;clear b));go_ret;exact⟨rfl,MoTo.of ⟨_,_,bA,bC,H.out⟩⟩
 ·have a9:dT i x.cls.length=false:=by simpa using A
  rw[a9]at J⊢;simp only[Bool.not_true,Bool.not_false,Bool.or_self,Bool.false_or,Bool.or_true,Bool.true_or,if_true];clear A hok h;go_enter func37,ntmps37;go_wp2_with (first|(go_at_call 47;refine J.out.mono ?_;rintro e s ⟨rfl,b⟩;have a:=b.symm;subst a;clear b)|(go_at_call 80;refine(iI _ _ _ _).mono ?_;rintro e s ⟨rfl,b⟩;have a:=b.symm;subst a;clear b));go_ret;exact⟨rfl,MoTo.of ⟨_,_,bA,bC,H.out⟩⟩
theorem MOk.vl{f:Cf}{m:Mg}(h:MOk f m):aCa m.val:=⟨h.v.t1,h.v.t2,h.v.s1,h.v.s2⟩
theorem aI7(a:Ac)(m:Mg):(jE a m).1.num=a.num:=by
 have b:∀r,(gN a r).1.num=a.num:=fun r=>by unfold gN;split<;>rfl
 unfold jE;dsimp only;split
 ·have h:=b (iR m (qD a m.lock));cases he:gN a (iR m (qD a m.lock))with
  |mk a1 hw=>
   rw[he]at h;cases hw using mM with
   |fine=>
    dsimp only at h⊢;split
    ·exact h
    ·exact h
   |full=>exact h
   |dies q=>exact h
 ·rfl
theorem aET{x:Mo}{N:Int}(hok:MoOk N x)(hN:N≤90000000000){i:Int}(hi:dT i x.cls.length=true){m:Mg}(hm:MOk x.cf m){W:World}{F G:Nat→Prop}{b g:Nat}{av cv:Value}{net:List Mg}(hnl:(net.length:Int)≤90000000000)(hs:Sys W F G b g x.cf av cv (clM x i) net x.tr):
 Calls prog 86 #[.pointer (some ⟨b,0,none⟩),mgV m] W fun r W'=>r= .returned (.tuple #[])∧After W F G b g x.cf av cv (gO x.cf (clM x i) m) (net++dJ (iB x.cf (clM x i) m)) (x.tr++iB x.cf (clM x i) m) W':=by
 have a:=fL hok.conf;obtain⟨c,d⟩:=hok.cl hi;have e:=hok.tl;exact aHA W F G b g x.cf av cv (clM x i) net x.tr m hs a.1.1 a.1.2 a.2.2.2.2.1.1 a.2.2.2.2.1.2 (aBr hok hi hN) hm.vl hm.e1 hm.e2 (by have:=hm.k1;omega)
  (fun o ho=>by
   have q:=c.on o ho;refine⟨⟨q.g1,by have:=q.g2;omega,q.t1,q.t2,q.r1,by have:=q.r2;omega,q.a1,by have:=q.a2;omega⟩,⟨q.v.t1,q.v.t2,q.v.s1,q.v.s2⟩,by have:=q.mine;omega,by have:=q.ans;omega⟩)
  (fun l=>by have:=c.core.w l;omega) (by omega) (by omega)
theorem vO{x:Mo}{N:Int}(hok:MoOk N x)(hN:N≤90000000000){i:Int}(hi:dT i x.acs.length=true){m:Mg}(hm:MOk x.cf m)(hA:m.kind=1∨m.kind=3){W:World}{F G:Nat→Prop}{B:Nat}{eb:Addr}{b g:Nat}{av cv:Value}{net:List Mg}(hnl:(net.length:Int)≤90000000000)(hs:ASys W F G b g av cv (acM x i) net x.tr)(hgl:GlAt W B eb)(hFB:∀k,F k→B≤k)(hGB:∀k,G k→B≤k):
 Calls prog 85 #[.pointer (some ⟨b,0,none⟩),mgV m] W fun e W'=>e= .returned (.int .i64 (wK (acM x i) m))∧AfterA W F G b g av cv (sU (acM x i) m) (net++dJ (mZ (acM x i) m)) (x.tr++mZ (acM x i) m) W':=by
 have c:=fL hok.conf;obtain⟨a,d,j⟩:=hok.ac hi;have s:=hok.tl;have p:=c.2.2.2.2.2.2.2;have l:=a.dk.len;refine aH1 W F G B eb b g av cv (acM x i) net x.tr m hs hgl hFB hGB (a.acOk j c.2.2.2.2.2.1.1 c.2.2.2.2.2.1.2 p) (by omega) (fun h=>a.new (by omega)) a.dk.old (fun hst q hq=>?_) (aI7 _ _) (fun hst=>cA (aC4 a hst d hm hA).2.2 (by decide)) hm.l1 hm.l2 (by omega) (by omega)
 ·have f:=(aC4 a hst d hm hA).1;unfold HowOk at f;dsimp only at f;rw[hq]at f;obtain⟨n,⟨r,o,t⟩,_⟩:=f;exact⟨⟨r,o,by omega⟩,n⟩
end Go.Proofs.YtbbdgokdfhdpiaaGreatDoor
