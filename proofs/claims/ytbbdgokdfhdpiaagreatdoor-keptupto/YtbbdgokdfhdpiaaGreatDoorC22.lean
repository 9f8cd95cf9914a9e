/- A part of the proof: PMor2. -/
import Derived.Test.YtbbdgokdfhdpiaaGreatDoorC17
import Derived.Test.YtbbdgokdfhdpiaaGreatDoorC19
namespace Go.Proofs.YtbbdgokdfhdpiaaGreatDoor
set_option linter.all false
set_option maxRecDepth 100000
set_option maxHeartbeats 40000000
open Go.Proofs.Tryz Go.RowKit
section
variable {f:Cf}{i:Nat}{a:Ac}
theorem AOk.acOk(h:AOk f i a)(hi:i≤4)(hc1:2≤f.compact)(hc2:f.compact≤16)(hr:f.room≤2000):sU a:=by
 have c:=h.num;have d:=h.comp;have e:=h.dk.len;refine⟨by omega,by omega,by omega,by omega,fun r hr=>⟨(h.rows r hr).l1,(h.rows r hr).l2⟩,fun p hp=>?_,by omega⟩;have b:=h.dk.fail p hp;exact⟨b.1,b.2.1⟩
theorem AOk.crOk(h:AOk f i a)(hr:f.room≤2000):aDZ a.dk:=by
 have b:=h.dk.syn;have c:=h.dk.len;have e:eG a.dk=(a.dk.log,a.dk.lsyn):=by unfold eG;rw[h.dk.old]
 refine⟨?_,?_,?_⟩<;>rw[e]<;>dsimp only<;>omega
theorem AOk.stOk(h:AOk f i a)(hi:i≤4)(hc1:2≤f.compact)(hc2:f.compact≤16)(hr:f.room≤2000):aG1 a:=
 ⟨h.acOk hi hc1 hc2 hr,h.dk.by_,h.crOk hr,fun h2=>⟨h.nofail h2,h.new (by omega),h.dk.old⟩,fun _=>h.dk.old⟩
end
theorem aBX(a:Ac)(n:Int):cF (pD a n)=[]:=by
 unfold pD;split
 ·rfl
 ·split
  ·exact fB _ (show(4:Int)≠1 by decide)
  ·rfl
theorem aA0(a:Ac):cF (nU a)=[]:=by
 unfold nU;split
 ·rfl
 ·split
  ·rfl
  ·exact fB _ (show(5:Int)≠1 by decide)
section
variable (W:World) (own:Nat→Nat)
theorem aCr(g B:Nat)(eb:Addr)(x:Mo)(N i:Int)(h:Moor W own g x)(hgl:GlAt W B eb)(hB:∀k,own k≠0→B≤k)(hok:MoOk N x)(hN:N≤90000000000):
 Calls prog 43 #[.pointer (some ⟨g,0,none⟩),.int .i64 i] W fun r W'=>r= .returned (.int .i64 (aCS x i))∧MoTo W own g (jB x i) W':=by
 obtain⟨R,L,E,D,h⟩:=h;have u:=hok.na;have n:=dE hok.conf;have z:x.acs.length≤5:=by rw[u];unfold fS;omega
 obtain⟨Q,M,w,_⟩:=h.cells;obtain⟨p,o,rfl,f⟩:=jW h.rav;have F:W.cell? ⟨g,0,none⟩=some (.slice p x.acs.length o):=bZ w 0 _ rfl;have s:=bY (kJ W g i p x.acs.length o (by omega) F);have H:=bY h;have I:=bY f;clear w f;unfold aCS jB;by_cases b:dD i x.acs.length=true
 ·rw[if_pos b,if_pos b];rw[b]at s;obtain⟨K,O⟩:=(dC _ _).1 b;obtain⟨c,v,m⟩:=hok.ac b;obtain⟨d,l⟩:=lY b;obtain⟨j,rfl⟩:∃j:Nat,i=j:=⟨i.toNat,by omega⟩;have t:j<x.acs.length:=by omega
  obtain⟨k,rfl,P⟩:=I.out j t;have a:=h.asys j t;have y:((j:Int).toNat)=j:=by omega
  simp only[y]at l c m;rw[←l]at a;have J:=bY (aDw W _ _ B eb _ g _ _ (acM x j) x.net x.tr a hgl (fun q hq=>hB q (by omega)) (fun q hq=>hB q (by omega)) (c.stOk m n.2.2.2.2.2.1.1 n.2.2.2.2.2.1.2 n.2.2.2.2.2.2.2) c.st (by have:=hok.nl;omega) (by have:=hok.tl;omega));clear c v l a d h hok m;go_enter func43,ntmps43;go_wp2_with (first|(go_at_call 58;refine s.out.mono ?_;rintro e C ⟨rfl,rfl⟩)|(go_at_call 88;refine J.out.mono ?_;rintro r S ⟨rfl,A⟩));go_ret;refine⟨rfl,?_⟩;have:=H.out.acceptorTo j t A;unfold jL;simp only[y];have G:=aA0 (acM x j);rw[G,aC];exact this
 ·rw[if_neg b,if_neg b];have d:dD i x.acs.length=false:=by simpa using b
  rw[d]at s;clear h hok b d;go_enter func43,ntmps43;go_wp2_with (go_at_call 58;refine s.out.mono ?_;rintro e C ⟨rfl,rfl⟩);go_ret;exact⟨rfl,MoTo.of ⟨_,_,E,D,H.out⟩⟩
theorem aDp(g:Nat)(x:Mo)(N i n q:Int)(h:Moor W own g x)(hok:MoOk N x)(hN:N≤90000000000):
 Calls prog 42 #[.pointer (some ⟨g,0,none⟩),.int .i64 i,.int .i64 n,.int .i64 q] W fun r W'=>r= .returned (.int .i64 (aE9 x i n q))∧MoTo W own g (kQ x i n q) W':=by
 obtain⟨T,O,v,u,h⟩:=h;have y:=hok.na;have A:=dE hok.conf;have F:x.acs.length≤5:=by rw[y];unfold fS;omega
 obtain⟨S,P,B,_⟩:=h.cells;obtain⟨p,o,rfl,f⟩:=jW h.rav;have I:W.cell? ⟨g,0,none⟩=some (.slice p x.acs.length o):=bZ B 0 _ rfl;have d:=bY (kJ W g i p x.acs.length o (by omega) I);have H:=bY h;have K:=bY f;clear B f;unfold aE9 kQ nO;by_cases a:dD i x.acs.length=true
 ·rw[a];by_cases E:n<0
  ·have e:(!true||decide (n<0)||decide (q<0))=true:=by simp[E]
   rw[if_pos e,if_pos e];rw[a]at d;clear h hok a e;go_enter func42,ntmps42;go_wp2_with (go_at_call 58;refine d.out.mono ?_;rintro e t ⟨rfl,rfl⟩);go_ret;exact⟨rfl,MoTo.of ⟨_,_,v,u,H.out⟩⟩
  ·by_cases C:q<0
   ·have e:(!true||decide (n<0)||decide (q<0))=true:=by simp[C]
    rw[if_pos e,if_pos e];rw[a]at d;clear h hok a e;go_enter func42,ntmps42;go_wp2_with (go_at_call 58;refine d.out.mono ?_;rintro e t ⟨rfl,rfl⟩);go_ret;exact⟨rfl,MoTo.of ⟨_,_,v,u,H.out⟩⟩
   ·have e:¬(!true||decide (n<0)||decide (q<0))=true:=by simp[E,C]
    rw[if_neg e,if_neg e];clear e;rw[a]at d;obtain⟨M,Q⟩:=(dC _ _).1 a;obtain⟨l,z,s⟩:=hok.ac a;obtain⟨c,m⟩:=lY a;obtain⟨j,rfl⟩:∃j:Nat,i=j:=⟨i.toNat,by omega⟩;have w:j<x.acs.length:=by omega
    obtain⟨k,rfl,R⟩:=K.out j w;have b:=h.asys j w;have D:((j:Int).toNat)=j:=by omega
    simp only[D]at m l s;rw[←m]at b;have L:=bY (aDm W _ _ _ g _ _ (acM x j) x.net x.tr n q b (l.crOk A.2.2.2.2.2.2.2) (by omega) (by have:=hok.nl;omega) (by have:=hok.tl;omega));clear l z m b c h hok s;go_enter func42,ntmps42;go_wp2_with (first|(go_at_call 58;refine d.out.mono ?_;rintro e t ⟨rfl,rfl⟩)|(go_at_call 87;refine L.out.mono ?_;rintro r U ⟨rfl,G⟩));go_ret;refine⟨rfl,?_⟩;have:=H.out.acceptorTo j w G;unfold jL;simp only[D];have J:=aBX (acM x j) n;rw[J,aC];exact this
 ·have e:(!dD i x.acs.length||decide (n<0)||decide (q<0))=true:=by simp[a]
  rw[if_pos e,if_pos e];clear e;have c:dD i x.acs.length=false:=by simpa using a
  rw[c]at d;clear h hok a c;go_enter func42,ntmps42;go_wp2_with (go_at_call 58;refine d.out.mono ?_;rintro e t ⟨rfl,rfl⟩);go_ret;exact⟨rfl,MoTo.of ⟨_,_,v,u,H.out⟩⟩
theorem aFp(g:Nat)(x:Mo)(N i:Int)(h:Moor W own g x)(hok:MoOk N x):
 Calls prog 21 #[.pointer (some ⟨g,0,none⟩),.int .i64 i] W fun r W'=>r= .returned (.tuple #[.string (strOfNums (lZ x i)),.int .i64 (aC8 x i)])∧W'=W:=by
 obtain⟨M,F,G,E,h⟩:=h;have q:=hok.na;have C:=dE hok.conf;have v:x.acs.length≤5:=by rw[q];unfold fS;omega
 obtain⟨L,I,t,_⟩:=h.cells;obtain⟨p,m,rfl,d⟩:=jW h.rav;have y:W.cell? ⟨g,0,none⟩=some (.slice p x.acs.length m):=bZ t 0 _ rfl;have o:=bY (kJ W g i p x.acs.length m (by omega) y);have H:=bY h;have A:=bY d;clear t d;unfold aC8 lZ;by_cases b:dD i x.acs.length=true
 ·rw[if_pos b,if_pos b];rw[b]at o;obtain⟨D,J⟩:=(dC _ _).1 b;obtain⟨l,s,n⟩:=hok.ac b;obtain⟨c,f⟩:=lY b;obtain⟨j,rfl⟩:∃j:Nat,i=j:=⟨i.toNat,by omega⟩;have u:j<x.acs.length:=by omega
  obtain⟨k,rfl,K⟩:=A.out j u;have a:=h.asys j u;have z:((j:Int).toNat)=j:=by omega
  simp only[z]at f l n;rw[←f]at a;have B:=bY (xI W _ _ g (acM x j) a.acc);clear l s f a c h hok n;go_enter func21,ntmps21;go_wp2_with (first|(go_at_call 58;refine o.out.mono ?_;rintro e w ⟨rfl,rfl⟩)|(go_at_call 60;refine B.out.mono ?_;rintro r O ⟨rfl,rfl⟩))
  go_ret2
  exact⟨rfl,rfl⟩
 ·rw[if_neg b,if_neg b];have c:dD i x.acs.length=false:=by simpa using b
  rw[c]at o;clear h hok b c;go_enter func21,ntmps21;go_wp2_with (go_at_call 58;refine o.out.mono ?_;rintro e w ⟨rfl,rfl⟩)
  go_ret2
  exact⟨rfl,rfl⟩
theorem aBM(g:Nat)(x:Mo)(N i:Int)(h:Moor W own g x)(hok:MoOk N x):
 Calls prog 20 #[.pointer (some ⟨g,0,none⟩),.int .i64 i] W fun r W'=>∃v,r= .returned (.tuple #[v,.int .i64 (kY x i)])∧W'.ownsRow W.heap.size 58 7 v (gY x i).length (cellsOf (gY x i))∧Below W.heap.size W W':=by
 obtain⟨T,M,O,L,h⟩:=h;have A:=hok.na;have o:=dE hok.conf;have E:x.acs.length≤5:=by rw[A];unfold fS;omega
 obtain⟨S,P,C,_⟩:=h.cells;obtain⟨p,u,rfl,n⟩:=jW h.rav;have F:W.cell? ⟨g,0,none⟩=some (.slice p x.acs.length u):=bZ C 0 _ rfl;have s:=bY (kJ W g i p x.acs.length u (by omega) F);have H:=bY h;have J:=bY n;clear C n;unfold gY kY;by_cases m:dD i x.acs.length=true
 ·rw[if_pos m];rw[m]at s;obtain⟨K,Q⟩:=(dC _ _).1 m;obtain⟨d,t,l⟩:=hok.ac m;obtain⟨c,f⟩:=lY m;obtain⟨j,rfl⟩:∃j:Nat,i=j:=⟨i.toNat,by omega⟩;have D:j<x.acs.length:=by omega
  obtain⟨k,rfl,R⟩:=J.out j D;have a:=h.asys j D;have G:((j:Int).toNat)=j:=by omega
  simp only[G]at f d l;rw[←f]at a;have q:=aB6 W _ _ g (acM x j) a.acc (d.acOk l o.2.2.2.2.2.1.1 o.2.2.2.2.2.1.2 o.2.2.2.2.2.2.2);by_cases b:(acM x j).st=2
  ·rw[if_pos b,if_neg (by decide)];simp only[if_pos b]at q;have z:=bY q;clear d t f a c h hok l q b;go_enter func20,ntmps20;go_wp2_with (first|(go_at_call 58;refine s.out.mono ?_;rintro e B ⟨rfl,rfl⟩)|(go_at_call 59;refine z.out.mono ?_;rintro r I ⟨rfl,rfl⟩))
   go_ret2
   exact⟨_,rfl,⟨rfl,Or.inl ⟨rfl,rfl⟩⟩,aJ _ _⟩
  ·rw[if_neg b,if_pos rfl];simp only[if_neg b]at q;have z:=bY q;clear d t f a c h hok l q b;go_enter func20,ntmps20;go_wp2_with (first|(go_at_call 58;refine s.out.mono ?_;rintro e B ⟨rfl,rfl⟩)|(go_at_call 59;refine z.out.mono ?_;rintro r I ⟨v,rfl,w,y⟩))
   go_ret2
   exact⟨v,rfl,w,y⟩
 ·rw[if_neg m,if_neg (by decide)];have c:dD i x.acs.length=false:=by simpa using m
  rw[c]at s;clear h hok m c;go_enter func20,ntmps20;go_wp2_with (go_at_call 58;refine s.out.mono ?_;rintro e B ⟨rfl,rfl⟩)
  go_ret2
  exact⟨_,rfl,⟨rfl,Or.inl ⟨rfl,rfl⟩⟩,aJ _ _⟩
end
end Go.Proofs.YtbbdgokdfhdpiaaGreatDoor
