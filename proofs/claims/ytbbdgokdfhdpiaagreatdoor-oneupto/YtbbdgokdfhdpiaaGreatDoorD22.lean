/- A part of the proof: PMor2. -/
import Derived.Test.YtbbdgokdfhdpiaaGreatDoorD17
import Derived.Test.YtbbdgokdfhdpiaaGreatDoorD19
namespace Go.Proofs.YtbbdgokdfhdpiaaGreatDoor
set_option linter.all false
set_option maxRecDepth 100000
set_option maxHeartbeats 40000000
open Go.Proofs.Tryz Go.RowKit
section
variable {f:Cf}{i:Nat}{a:Ac}
theorem AOk.acOk(h:AOk f i a)(hi:i≤4)(hc1:2≤f.compact)(hc2:f.compact≤16)(hr:f.room≤2000):wB a:=by
 have c:=h.num;have d:=h.comp;have e:=h.dk.len;refine⟨by omega,by omega,by omega,by omega,fun r hr=>⟨(h.rows r hr).l1,(h.rows r hr).l2⟩,fun p hp=>?_,by omega⟩;have b:=h.dk.fail p hp;exact⟨b.1,b.2.1⟩
theorem AOk.crOk(h:AOk f i a)(hr:f.room≤2000):aF3 a.dk:=by
 have b:=h.dk.syn;have c:=h.dk.len;have e:eM a.dk=(a.dk.log,a.dk.lsyn):=by unfold eM;rw[h.dk.old]
 refine⟨?_,?_,?_⟩<;>rw[e]<;>dsimp only<;>omega
theorem AOk.stOk(h:AOk f i a)(hi:i≤4)(hc1:2≤f.compact)(hc2:f.compact≤16)(hr:f.room≤2000):aJE a:=
 ⟨h.acOk hi hc1 hc2 hr,h.dk.by_,h.crOk hr,fun h2=>⟨h.nofail h2,h.new (by omega),h.dk.old⟩,fun _=>h.dk.old⟩
end
theorem aDx(a:Ac)(n:Int):cJ (qH a n)=[]:=by
 unfold qH;split
 ·rfl
 ·split
  ·exact fH _ (show(4:Int)≠1 by decide)
  ·rfl
theorem aCj(a:Ac):cJ (oT a)=[]:=by
 unfold oT;split
 ·rfl
 ·split
  ·rfl
  ·exact fH _ (show(5:Int)≠1 by decide)
section
variable (W:World) (own:Nat→Nat)
theorem aD7(g B:Nat)(eb:Addr)(x:Mo)(N i:Int)(h:Moor W own g x)(hgl:GlAt W B eb)(hB:∀k,own k≠0→B≤k)(hok:MoOk N x)(hN:N≤90000000000):
 Calls prog 43 #[.pointer (some ⟨g,0,none⟩),.int .i64 i] W fun r W'=>r= .returned (.int .i64 (aEE x i))∧MoTo W own g (jM x i) W':=by
 obtain⟨R,L,E,D,h⟩:=h;have u:=hok.na;have n:=dO hok.conf;have z:x.acs.length≤5:=by rw[u];unfold gB;omega
 obtain⟨Q,M,w,_⟩:=h.cells;obtain⟨p,o,rfl,f⟩:=mD h.rav;have F:W.cell? ⟨g,0,none⟩=some (.slice p x.acs.length o):=cC w 0 _ rfl;have s:=cB (qX W g i p x.acs.length o (by omega) F);have H:=cB h;have I:=cB f;clear w f;unfold aEE jM;by_cases b:dL i x.acs.length=true
 ·rw[if_pos b,if_pos b];rw[b]at s;obtain⟨K,O⟩:=(dK _ _).1 b;obtain⟨c,v,m⟩:=hok.ac b;obtain⟨d,l⟩:=pV b;obtain⟨j,rfl⟩:∃j:Nat,i=j:=⟨i.toNat,by omega⟩;have t:j<x.acs.length:=by omega
  obtain⟨k,rfl,P⟩:=I.out j t;have a:=h.asys j t;have y:((j:Int).toNat)=j:=by omega
  simp only[y]at l c m;rw[←l]at a;have J:=cB (aFp W _ _ B eb _ g _ _ (acM x j) x.net x.tr a hgl (fun q hq=>hB q (by omega)) (fun q hq=>hB q (by omega)) (c.stOk m n.2.2.2.2.2.1.1 n.2.2.2.2.2.1.2 n.2.2.2.2.2.2.2) c.st (by have:=hok.nl;omega) (by have:=hok.tl;omega));clear c v l a d h hok m;go_enter func43,ntmps43;go_wp2_with (first|(go_at_call 58;refine s.out.mono ?_;rintro e C ⟨rfl,rfl⟩)|(go_at_call 88;refine J.out.mono ?_;rintro r S ⟨rfl,A⟩));go_ret;refine⟨rfl,?_⟩;have:=H.out.acceptorTo j t A;unfold kB;simp only[y];have G:=aCj (acM x j);rw[G,aC];exact this
 ·rw[if_neg b,if_neg b];have d:dL i x.acs.length=false:=by simpa using b
  rw[d]at s;clear h hok b d;go_enter func43,ntmps43;go_wp2_with (go_at_call 58;refine s.out.mono ?_;rintro e C ⟨rfl,rfl⟩);go_ret;exact⟨rfl,MoTo.of ⟨_,_,E,D,H.out⟩⟩
theorem aFi(g:Nat)(x:Mo)(N i n q:Int)(h:Moor W own g x)(hok:MoOk N x)(hN:N≤90000000000):
 Calls prog 42 #[.pointer (some ⟨g,0,none⟩),.int .i64 i,.int .i64 n,.int .i64 q] W fun r W'=>r= .returned (.int .i64 (aHq x i n q))∧MoTo W own g (lM x i n q) W':=by
 obtain⟨T,O,v,u,h⟩:=h;have y:=hok.na;have A:=dO hok.conf;have F:x.acs.length≤5:=by rw[y];unfold gB;omega
 obtain⟨S,P,B,_⟩:=h.cells;obtain⟨p,o,rfl,f⟩:=mD h.rav;have I:W.cell? ⟨g,0,none⟩=some (.slice p x.acs.length o):=cC B 0 _ rfl;have d:=cB (qX W g i p x.acs.length o (by omega) I);have H:=cB h;have K:=cB f;clear B f;unfold aHq lM oN;by_cases a:dL i x.acs.length=true
 ·rw[a];by_cases E:n<0
  ·have e:(!true||decide (n<0)||decide (q<0))=true:=by simp[E]
   rw[if_pos e,if_pos e];rw[a]at d;clear h hok a e;go_enter func42,ntmps42;go_wp2_with (go_at_call 58;refine d.out.mono ?_;rintro e t ⟨rfl,rfl⟩);go_ret;exact⟨rfl,MoTo.of ⟨_,_,v,u,H.out⟩⟩
  ·by_cases C:q<0
   ·have e:(!true||decide (n<0)||decide (q<0))=true:=by simp[C]
    rw[if_pos e,if_pos e];rw[a]at d;clear h hok a e;go_enter func42,ntmps42;go_wp2_with (go_at_call 58;refine d.out.mono ?_;rintro e t ⟨rfl,rfl⟩);go_ret;exact⟨rfl,MoTo.of ⟨_,_,v,u,H.out⟩⟩
   ·have e:¬(!true||decide (n<0)||decide (q<0))=true:=by simp[E,C]
    rw[if_neg e,if_neg e];clear e;rw[a]at d;obtain⟨M,Q⟩:=(dK _ _).1 a;obtain⟨l,z,s⟩:=hok.ac a;obtain⟨c,m⟩:=pV a;obtain⟨j,rfl⟩:∃j:Nat,i=j:=⟨i.toNat,by omega⟩;have w:j<x.acs.length:=by omega
    obtain⟨k,rfl,R⟩:=K.out j w;have b:=h.asys j w;have D:((j:Int).toNat)=j:=by omega
    simp only[D]at m l s;rw[←m]at b;have L:=cB (aFb W _ _ _ g _ _ (acM x j) x.net x.tr n q b (l.crOk A.2.2.2.2.2.2.2) (by omega) (by have:=hok.nl;omega) (by have:=hok.tl;omega));clear l z m b c h hok s;go_enter func42,ntmps42;go_wp2_with (first|(go_at_call 58;refine d.out.mono ?_;rintro e t ⟨rfl,rfl⟩)|(go_at_call 87;refine L.out.mono ?_;rintro r U ⟨rfl,G⟩));go_ret;refine⟨rfl,?_⟩;have:=H.out.acceptorTo j w G;unfold kB;simp only[D];have J:=aDx (acM x j) n;rw[J,aC];exact this
 ·have e:(!dL i x.acs.length||decide (n<0)||decide (q<0))=true:=by simp[a]
  rw[if_pos e,if_pos e];clear e;have c:dL i x.acs.length=false:=by simpa using a
  rw[c]at d;clear h hok a c;go_enter func42,ntmps42;go_wp2_with (go_at_call 58;refine d.out.mono ?_;rintro e t ⟨rfl,rfl⟩);go_ret;exact⟨rfl,MoTo.of ⟨_,_,v,u,H.out⟩⟩
end
end Go.Proofs.YtbbdgokdfhdpiaaGreatDoor
