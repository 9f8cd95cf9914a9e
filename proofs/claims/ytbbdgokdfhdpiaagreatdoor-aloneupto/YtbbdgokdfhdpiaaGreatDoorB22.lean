/- A part of the proof: PMor2. -/
import Derived.Test.YtbbdgokdfhdpiaaGreatDoorB17
import Derived.Test.YtbbdgokdfhdpiaaGreatDoorB19
namespace Go.Proofs.YtbbdgokdfhdpiaaGreatDoor
set_option linter.all false
set_option maxRecDepth 100000
set_option maxHeartbeats 40000000
open Go.Proofs.Tryz Go.RowKit
section
variable {f:Cf}{i:Nat}{a:Ac}
theorem AOk.acOk(h:AOk f i a)(hi:i≤4)(hc1:2≤f.compact)(hc2:f.compact≤16)(hr:f.room≤2000):uM a:=by
 have c:=h.num;have d:=h.comp;have e:=h.dk.len;refine⟨by omega,by omega,by omega,by omega,fun r hr=>⟨(h.rows r hr).l1,(h.rows r hr).l2⟩,fun p hp=>?_,by omega⟩;have b:=h.dk.fail p hp;exact⟨b.1,b.2.1⟩
theorem AOk.crOk(h:AOk f i a)(hr:f.room≤2000):aEd a.dk:=by
 have b:=h.dk.syn;have c:=h.dk.len;have e:eM a.dk=(a.dk.log,a.dk.lsyn):=by unfold eM;rw[h.dk.old]
 refine⟨?_,?_,?_⟩<;>rw[e]<;>dsimp only<;>omega
theorem AOk.stOk(h:AOk f i a)(hi:i≤4)(hc1:2≤f.compact)(hc2:f.compact≤16)(hr:f.room≤2000):aHz a:=
 ⟨h.acOk hi hc1 hc2 hr,h.dk.by_,h.crOk hr,fun h2=>⟨h.nofail h2,h.new (by omega),h.dk.old⟩,fun _=>h.dk.old⟩
end
theorem aCa(a:Ac)(n:Int):cG (pS a n)=[]:=by
 unfold pS;split
 ·rfl
 ·split
  ·exact fF _ (show(4:Int)≠1 by decide)
  ·rfl
theorem aBd(a:Ac):cG (oH a)=[]:=by
 unfold oH;split
 ·rfl
 ·split
  ·rfl
  ·exact fF _ (show(5:Int)≠1 by decide)
section
variable (W:World) (own:Nat→Nat)
theorem aCB(g B:Nat)(eb:Addr)(x:Mo)(N i:Int)(h:Moor W own g x)(hgl:GlAt W B eb)(hB:∀k,own k≠0→B≤k)(hok:MoOk N x)(hN:N≤90000000000):
 Calls prog 43 #[.pointer (some ⟨g,0,none⟩),.int .i64 i] W fun r W'=>r= .returned (.int .i64 (aC2 x i))∧MoTo W own g (jD x i) W':=by
 obtain⟨R,L,E,D,h⟩:=h;have u:=hok.na;have n:=dK hok.conf;have z:x.acs.length≤5:=by rw[u];unfold gA;omega
 obtain⟨Q,M,w,_⟩:=h.cells;obtain⟨p,o,rfl,f⟩:=lR h.rav;have F:W.cell? ⟨g,0,none⟩=some (.slice p x.acs.length o):=cA w 0 _ rfl;have s:=bZ (qC W g i p x.acs.length o (by omega) F);have H:=bZ h;have I:=bZ f;clear w f;unfold aC2 jD;by_cases b:dH i x.acs.length=true
 ·rw[if_pos b,if_pos b];rw[b]at s;obtain⟨K,O⟩:=(dG _ _).1 b;obtain⟨c,v,m⟩:=hok.ac b;obtain⟨d,l⟩:=pG b;obtain⟨j,rfl⟩:∃j:Nat,i=j:=⟨i.toNat,by omega⟩;have t:j<x.acs.length:=by omega
  obtain⟨k,rfl,P⟩:=I.out j t;have a:=h.asys j t;have y:((j:Int).toNat)=j:=by omega
  simp only[y]at l c m;rw[←l]at a;have J:=bZ (aDI W _ _ B eb _ g _ _ (acM x j) x.net x.tr a hgl (fun q hq=>hB q (by omega)) (fun q hq=>hB q (by omega)) (c.stOk m n.2.2.2.2.2.1.1 n.2.2.2.2.2.1.2 n.2.2.2.2.2.2.2) c.st (by have:=hok.nl;omega) (by have:=hok.tl;omega));clear c v l a d h hok m;go_enter func43,ntmps43;go_wp2_with (first|(go_at_call 58;refine s.out.mono ?_;rintro e C ⟨rfl,rfl⟩)|(go_at_call 88;refine J.out.mono ?_;rintro r S ⟨rfl,A⟩));go_ret;refine⟨rfl,?_⟩;have:=H.out.acceptorTo j t A;unfold jQ;simp only[y];have G:=aBd (acM x j);rw[G,aC];exact this
 ·rw[if_neg b,if_neg b];have d:dH i x.acs.length=false:=by simpa using b
  rw[d]at s;clear h hok b d;go_enter func43,ntmps43;go_wp2_with (go_at_call 58;refine s.out.mono ?_;rintro e C ⟨rfl,rfl⟩);go_ret;exact⟨rfl,MoTo.of ⟨_,_,E,D,H.out⟩⟩
theorem aDB(g:Nat)(x:Mo)(N i n q:Int)(h:Moor W own g x)(hok:MoOk N x)(hN:N≤90000000000):
 Calls prog 42 #[.pointer (some ⟨g,0,none⟩),.int .i64 i,.int .i64 n,.int .i64 q] W fun r W'=>r= .returned (.int .i64 (aFs x i n q))∧MoTo W own g (lA x i n q) W':=by
 obtain⟨T,O,v,u,h⟩:=h;have y:=hok.na;have A:=dK hok.conf;have F:x.acs.length≤5:=by rw[y];unfold gA;omega
 obtain⟨S,P,B,_⟩:=h.cells;obtain⟨p,o,rfl,f⟩:=lR h.rav;have I:W.cell? ⟨g,0,none⟩=some (.slice p x.acs.length o):=cA B 0 _ rfl;have d:=bZ (qC W g i p x.acs.length o (by omega) I);have H:=bZ h;have K:=bZ f;clear B f;unfold aFs lA oA;by_cases a:dH i x.acs.length=true
 ·rw[a];by_cases E:n<0
  ·have e:(!true||decide (n<0)||decide (q<0))=true:=by simp[E]
   rw[if_pos e,if_pos e];rw[a]at d;clear h hok a e;go_enter func42,ntmps42;go_wp2_with (go_at_call 58;refine d.out.mono ?_;rintro e t ⟨rfl,rfl⟩);go_ret;exact⟨rfl,MoTo.of ⟨_,_,v,u,H.out⟩⟩
  ·by_cases C:q<0
   ·have e:(!true||decide (n<0)||decide (q<0))=true:=by simp[C]
    rw[if_pos e,if_pos e];rw[a]at d;clear h hok a e;go_enter func42,ntmps42;go_wp2_with (go_at_call 58;refine d.out.mono ?_;rintro e t ⟨rfl,rfl⟩);go_ret;exact⟨rfl,MoTo.of ⟨_,_,v,u,H.out⟩⟩
   ·have e:¬(!true||decide (n<0)||decide (q<0))=true:=by simp[E,C]
    rw[if_neg e,if_neg e];clear e;rw[a]at d;obtain⟨M,Q⟩:=(dG _ _).1 a;obtain⟨l,z,s⟩:=hok.ac a;obtain⟨c,m⟩:=pG a;obtain⟨j,rfl⟩:∃j:Nat,i=j:=⟨i.toNat,by omega⟩;have w:j<x.acs.length:=by omega
    obtain⟨k,rfl,R⟩:=K.out j w;have b:=h.asys j w;have D:((j:Int).toNat)=j:=by omega
    simp only[D]at m l s;rw[←m]at b;have L:=bZ (aDx W _ _ _ g _ _ (acM x j) x.net x.tr n q b (l.crOk A.2.2.2.2.2.2.2) (by omega) (by have:=hok.nl;omega) (by have:=hok.tl;omega));clear l z m b c h hok s;go_enter func42,ntmps42;go_wp2_with (first|(go_at_call 58;refine d.out.mono ?_;rintro e t ⟨rfl,rfl⟩)|(go_at_call 87;refine L.out.mono ?_;rintro r U ⟨rfl,G⟩));go_ret;refine⟨rfl,?_⟩;have:=H.out.acceptorTo j w G;unfold jQ;simp only[D];have J:=aCa (acM x j) n;rw[J,aC];exact this
 ·have e:(!dH i x.acs.length||decide (n<0)||decide (q<0))=true:=by simp[a]
  rw[if_pos e,if_pos e];clear e;have c:dH i x.acs.length=false:=by simpa using a
  rw[c]at d;clear h hok a c;go_enter func42,ntmps42;go_wp2_with (go_at_call 58;refine d.out.mono ?_;rintro e t ⟨rfl,rfl⟩);go_ret;exact⟨rfl,MoTo.of ⟨_,_,v,u,H.out⟩⟩
end
end Go.Proofs.YtbbdgokdfhdpiaaGreatDoor
