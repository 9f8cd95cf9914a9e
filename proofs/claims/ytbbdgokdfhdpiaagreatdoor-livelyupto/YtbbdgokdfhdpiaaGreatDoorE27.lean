/- A part of the proof: PMor2, PMor3, PMor7, PMor8, KpSet, KpDo, KpHdM, KpSt. -/
import Derived.Test.YtbbdgokdfhdpiaaGreatDoorE22
import Derived.Test.YtbbdgokdfhdpiaaGreatDoorE25
namespace Go.Proofs.YtbbdgokdfhdpiaaGreatDoor
set_option linter.all false
set_option maxRecDepth 100000
set_option maxHeartbeats 40000000
open Go.Proofs.Tryz Go.RowKit
section
variable {f:Cf}{i:Nat}{a:Ac}
theorem AOk.acOk(h:AOk f i a)(hi:i≤4)(hc1:2≤f.compact)(hc2:f.compact≤16)(hr:f.room≤2000):uM a:=by
 have c:=h.num;have d:=h.comp;have e:=h.dk.len;refine⟨by omega,by omega,by omega,by omega,fun r hr=>⟨(h.rows r hr).l1,(h.rows r hr).l2⟩,fun p hp=>?_,by omega⟩;have b:=h.dk.fail p hp;exact⟨b.1,b.2.1⟩
theorem AOk.crOk(h:AOk f i a)(hr:f.room≤2000):aED a.dk:=by
 have b:=h.dk.syn;have c:=h.dk.len;have e:eP a.dk=(a.dk.log,a.dk.lsyn):=by unfold eP;rw[h.dk.old]
 refine⟨?_,?_,?_⟩<;>rw[e]<;>dsimp only<;>omega
theorem AOk.stOk(h:AOk f i a)(hi:i≤4)(hc1:2≤f.compact)(hc2:f.compact≤16)(hr:f.room≤2000):aHN a:=
 ⟨h.acOk hi hc1 hc2 hr,h.dk.by_,h.crOk hr,fun h2=>⟨h.nofail h2,h.new (by omega),h.dk.old⟩,fun _=>h.dk.old⟩
end
theorem aCu(a:Ac)(n:Int):cH (oF a n)=[]:=by
 unfold oF;split
 ·rfl
 ·split
  ·exact fL _ (show(4:Int)≠1 by decide)
  ·rfl
theorem aBu(a:Ac):cH (nI a)=[]:=by
 unfold nI;split
 ·rfl
 ·split
  ·rfl
  ·exact fL _ (show(5:Int)≠1 by decide)
section
variable (W:World) (own:Nat→Nat)
theorem yQ(g B:Nat)(eb:Addr)(x:Mo)(N i:Int)(h:Moor W own g x)(hgl:GlAt W B eb)(hB:∀k,own k≠0→B≤k)(hok:MoOk N x)(hN:N≤90000000000):
 Calls prog 43 #[.pointer (some ⟨g,0,none⟩),.int .i64 i] W fun r W'=>r= .returned (.int .i64 (aAI x i))∧MoTo W own g (eN x i) W':=by
 obtain⟨R,L,E,D,h⟩:=h;have u:=hok.na;have n:=dE hok.conf;have z:x.acs.length≤5:=by rw[u];unfold dI;omega
 obtain⟨Q,M,w,_⟩:=h.cells;obtain⟨p,o,rfl,f⟩:=lL h.rav;have F:W.cell? ⟨g,0,none⟩=some (.slice p x.acs.length o):=cB w 0 _ rfl;have s:=cA (pP W g i p x.acs.length o (by omega) F);have H:=cA h;have I:=cA f;clear w f;unfold aAI eN;by_cases b:dH i x.acs.length=true
 ·rw[if_pos b,if_pos b];rw[b]at s;obtain⟨K,O⟩:=(cV _ _).1 b;obtain⟨c,v,m⟩:=hok.ac b;obtain⟨d,l⟩:=oY b;obtain⟨j,rfl⟩:∃j:Nat,i=j:=⟨i.toNat,by omega⟩;have t:j<x.acs.length:=by omega
  obtain⟨k,rfl,P⟩:=I.out j t;have a:=h.asys j t;have y:((j:Int).toNat)=j:=by omega
  simp only[y]at l c m;rw[←l]at a;have J:=cA (aD9 W _ _ B eb _ g _ _ (acM x j) x.net x.tr a hgl (fun q hq=>hB q (by omega)) (fun q hq=>hB q (by omega)) (c.stOk m n.2.2.2.2.2.1.1 n.2.2.2.2.2.1.2 n.2.2.2.2.2.2.2) c.st (by have:=hok.nl;omega) (by have:=hok.tl;omega));clear c v l a d h hok m;go_enter func43,ntmps43;go_wp2_with (first|(go_at_call 58;refine s.out.mono ?_;rintro e C ⟨rfl,rfl⟩)|(go_at_call 88;refine J.out.mono ?_;rintro r S ⟨rfl,A⟩));go_ret;refine⟨rfl,?_⟩;have:=H.out.acceptorTo j t A;unfold iX;simp only[y];have G:=aBu (acM x j);rw[G,aC];exact this
 ·rw[if_neg b,if_neg b];have d:dH i x.acs.length=false:=by simpa using b
  rw[d]at s;clear h hok b d;go_enter func43,ntmps43;go_wp2_with (go_at_call 58;refine s.out.mono ?_;rintro e C ⟨rfl,rfl⟩);go_ret;exact⟨rfl,MoTo.of ⟨_,_,E,D,H.out⟩⟩
theorem zY(g:Nat)(x:Mo)(N i n q:Int)(h:Moor W own g x)(hok:MoOk N x)(hN:N≤90000000000):
 Calls prog 42 #[.pointer (some ⟨g,0,none⟩),.int .i64 i,.int .i64 n,.int .i64 q] W fun r W'=>r= .returned (.int .i64 (yE x i n q))∧MoTo W own g (iO x i n q) W':=by
 obtain⟨T,O,v,u,h⟩:=h;have y:=hok.na;have A:=dE hok.conf;have F:x.acs.length≤5:=by rw[y];unfold dI;omega
 obtain⟨S,P,B,_⟩:=h.cells;obtain⟨p,o,rfl,f⟩:=lL h.rav;have I:W.cell? ⟨g,0,none⟩=some (.slice p x.acs.length o):=cB B 0 _ rfl;have d:=cA (pP W g i p x.acs.length o (by omega) I);have H:=cA h;have K:=cA f;clear B f;unfold yE iO lK;by_cases a:dH i x.acs.length=true
 ·rw[a];by_cases E:n<0
  ·have e:(!true||decide (n<0)||decide (q<0))=true:=by simp[E]
   rw[if_pos e,if_pos e];rw[a]at d;clear h hok a e;go_enter func42,ntmps42;go_wp2_with (go_at_call 58;refine d.out.mono ?_;rintro e t ⟨rfl,rfl⟩);go_ret;exact⟨rfl,MoTo.of ⟨_,_,v,u,H.out⟩⟩
  ·by_cases C:q<0
   ·have e:(!true||decide (n<0)||decide (q<0))=true:=by simp[C]
    rw[if_pos e,if_pos e];rw[a]at d;clear h hok a e;go_enter func42,ntmps42;go_wp2_with (go_at_call 58;refine d.out.mono ?_;rintro e t ⟨rfl,rfl⟩);go_ret;exact⟨rfl,MoTo.of ⟨_,_,v,u,H.out⟩⟩
   ·have e:¬(!true||decide (n<0)||decide (q<0))=true:=by simp[E,C]
    rw[if_neg e,if_neg e];clear e;rw[a]at d;obtain⟨M,Q⟩:=(cV _ _).1 a;obtain⟨l,z,s⟩:=hok.ac a;obtain⟨c,m⟩:=oY a;obtain⟨j,rfl⟩:∃j:Nat,i=j:=⟨i.toNat,by omega⟩;have w:j<x.acs.length:=by omega
    obtain⟨k,rfl,R⟩:=K.out j w;have b:=h.asys j w;have D:((j:Int).toNat)=j:=by omega
    simp only[D]at m l s;rw[←m]at b;have L:=cA (aDZ W _ _ _ g _ _ (acM x j) x.net x.tr n q b (l.crOk A.2.2.2.2.2.2.2) (by omega) (by have:=hok.nl;omega) (by have:=hok.tl;omega));clear l z m b c h hok s;go_enter func42,ntmps42;go_wp2_with (first|(go_at_call 58;refine d.out.mono ?_;rintro e t ⟨rfl,rfl⟩)|(go_at_call 87;refine L.out.mono ?_;rintro r U ⟨rfl,G⟩));go_ret;refine⟨rfl,?_⟩;have:=H.out.acceptorTo j w G;unfold iX;simp only[D];have J:=aCu (acM x j) n;rw[J,aC];exact this
 ·have e:(!dH i x.acs.length||decide (n<0)||decide (q<0))=true:=by simp[a]
  rw[if_pos e,if_pos e];clear e;have c:dH i x.acs.length=false:=by simpa using a
  rw[c]at d;clear h hok a c;go_enter func42,ntmps42;go_wp2_with (go_at_call 58;refine d.out.mono ?_;rintro e t ⟨rfl,rfl⟩);go_ret;exact⟨rfl,MoTo.of ⟨_,_,v,u,H.out⟩⟩
end
theorem xH(W:World)(own:Nat→Nat)(g:Nat)(x:Mo)(N i:Int)(l:Int)(h:Moor W own g x)(hok:MoOk N x):
 Calls prog 16 #[.pointer (some ⟨g,0,none⟩),.int .i64 i,.int .i64 l] W fun r W'=>r= .returned (.bool (uD x i l))∧Below W.heap.size W W':=by
 obtain⟨Q,J,K,I,h⟩:=h;have E:=hok.nc;have F:=dE hok.conf;obtain⟨P,L,s,_⟩:=h.cells;obtain⟨p,m,rfl,c⟩:=lL h.rcv;have A:W.cell? ⟨g,1,none⟩=some (.slice p x.cls.length m):=cB s 1 _ rfl;have o:=cA (kW W g i p x.cls.length m (by omega) A);have H:=cA h;have C:=cA c;clear s c;unfold uD;by_cases d:dH i x.cls.length=true
 ·rw[d,Bool.true_and];rw[d]at o;obtain⟨G,M⟩:=(cV _ _).1 d;obtain⟨n,q⟩:=hok.cl d;obtain⟨a,f⟩:=nO d;obtain⟨j,rfl⟩:∃j:Nat,i=j:=⟨i.toNat,by omega⟩;have t:j<x.cls.length:=by omega
  obtain⟨k,rfl,O⟩:=C.out j t;have B:((j:Int).toNat)=j:=by omega
  simp only[B]at f n;obtain⟨w,z,u,wt,y,b⟩:=h.cls j t;rw[←f]at b;have D:=cA (aD0 W _ _ g x.cf (clM x j) w z u wt y l b);clear n q f a h hok b;go_enter func16,ntmps16;go_wp2_with (first|(go_at_call 47;refine o.out.mono ?_;rintro e v ⟨rfl,rfl⟩)|(go_at_call 48;refine D.out.mono ?_;rintro r R ⟨rfl,rfl⟩));all_goals
   go_ret;exact⟨by simp_all,by first|exact aJ _ _|exact(aJ _ _).drew⟩
 ·have a:dH i x.cls.length=false:=by simpa using d
  rw[a,Bool.false_and];rw[a]at o;clear h hok d a;go_enter func16,ntmps16;go_wp2_with (go_at_call 47;refine o.out.mono ?_;rintro e v ⟨rfl,rfl⟩);go_ret;exact⟨rfl,aJ _ _⟩
theorem xP{x:Mo}{N:Int}(hok:MoOk N x){i:Int}(hi:dH i x.cls.length=true)(hN:N≤90000000000):vQ (clM x i):=by
 have c:=hok.nc;have b:=dE hok.conf;obtain⟨a,d⟩:=hok.cl hi;exact⟨by rw[a.core.num];omega,by rw[a.core.num];omega,a.core.i1,a.core.i2,a.core.c1,by have:=a.core.c2;omega,a.core.r1,a.core.r2⟩
theorem zA(x:Mo)(i kk l t:Int):jW x i kk l t=(!(dH i x.cls.length)|| !(wiB kk 1 4)|| !(wiB l 0 3)||(decide (kk≤2)&& !(wiB t 1 1000))):=by
 unfold jW wiB;simp only[Bool.decide_and]
theorem wV(W:World)(own:Nat→Nat)(g:Nat)(x:Mo)(N i kk l t:Int)(h:Moor W own g x)(hok:MoOk N x)(hN:N≤90000000000):
 Calls prog 37 #[.pointer (some ⟨g,0,none⟩),.int .i64 i,.int .i64 kk,.int .i64 l,.int .i64 t] W fun r W'=>r= .returned (.int .i64 (mL x i kk l t))∧MoTo W own g (eY x i kk l t) W':=by
 obtain⟨av,cv,bA,bC,h⟩:=h;have b0:=hok.nc;have a0:=dE hok.conf;obtain⟨nv,tv,hb,_⟩:=h.cells;obtain⟨p,E,rfl,R⟩:=lL h.rcv;have c1:W.cell? ⟨g,1,none⟩=some (.slice p x.cls.length E):=cB hb 1 _ rfl;have J:=cA (kW W g i p x.cls.length E (by omega) c1);have H:=cA h;have HP:=cA R;have HB:=cA hb;clear hb R;unfold mL eY;rw[zA];by_cases A:dH i x.cls.length=true
 ·rw[A]at J⊢;by_cases K:wiB kk 1 4=true
  ·rw[K];by_cases M:wiB l 0 3=true
   ·rw[M];have L:1≤kk∧kk≤4:=by simpa[wiB]using K
    have Y:0≤l∧l≤3:=by simpa[wiB]using M
    obtain⟨h0,h1⟩:=(cV _ _).1 A;obtain⟨a7,O⟩:=nO A;have a3:=xP hok A hN;obtain⟨j,rfl⟩:∃j:Nat,i=j:=⟨i.toNat,by omega⟩;have I:j<x.cls.length:=by omega
    obtain⟨k,rfl,ck⟩:=HP.out j I;have T:=h.sys j I;have ej:((j:Int).toNat)=j:=by omega
    simp only[ej]at O;rw[←O]at T;have w:=cA a0;have Z:=cA a3;have Q:clM x (j:Int)=x.cls[j]'I:=O;have U:=cA Q;have EJ:=cA ej;have V:=cA (show(x.net.length:Int)≤90000000000 by have:=hok.nl;omega);have X:=cA (show(x.tr.length:Int)≤90000000000 by have:=hok.tl;omega);clear a0 a3 Q O ej a7 T hok h b0;by_cases o:kk≤2
    ·have u:(decide (kk≤2))=true:=by simpa using o
     rw[u];have z:rX kk t=t:=by unfold rX;rw[if_pos o]
     by_cases ht:wiB t 1 1000=true
     ·have a8:1≤t∧t≤1000:=by simpa[wiB]using ht
      rw[ht];simp only[Bool.not_true,Bool.or_self,Bool.and_false,aU,if_false];rw[z];have HK:=cA L;have G:kk=1∨kk=2:=by omega
      clear u o z A Y L;have P:=cA a8;rcases G with y|y
      ·subst y;go_enter func37,ntmps37;go_wp2_with (first|(go_at_call 47;refine J.out.mono ?_;rintro e s ⟨rfl,b⟩;have a:=b.symm;subst a;clear b)|(go_at_call 80;refine(iA _ _ _ _).mono ?_;rintro e s ⟨rfl,b⟩;have a:=b.symm;subst a;clear b));generalize d:W.alloc (.cells #[.int .i64 1,.int .i64 l,.int .i64 t] 68)=W1;have n:W1.heap[W.heap.size]?=some (.cells #[.int .i64 1,.int .i64 l,.int .i64 t] 68 (0,0)):=by rw[←d];exact aA W _
       have c:Chg (fun q=>W.heap.size≤q) W W1:=by rw[←d];exact(Chg.refl _ _).alloc _
       have m:=H.out.kept c (fun q hq h=>by have:=H.out.lt q hq;omega);have D:=H.out.lt k (by rw[H.out.cvb k rfl];decide);have a2:W1.cell? ⟨g,1,none⟩=some (.slice (some ⟨k,0,none⟩) x.cls.length E):=cB (c.kept HB.out (by have:=cX HB.out;omega)) 1 _ rfl;have a1:=(aW (c.block k D (by omega))).trans ck;have HL:=cA (cE (W:=W1.drew) n);have f:=m.sys j I;rw[←U.out]at f;have HT:=cA (uR W1.drew _ _ _ g x.cf _ _ (clM x j) x.net x.tr 1 l t f.drew w.out.1.1 w.out.1.2 Z.out (by have:=P.out.1;omega) (P.out.2) (by have:=V.out;omega) (by have:=X.out;omega));have F:=cA m;have C:=cA c;clear n c m f d ck c1;refine dZ [0,0,0,1,0,0,1,1] (by kernel_rfl) (fun _ _ _ _=>rfl) ?_;simp only[cM,cL];iterate 7 (apply sB rfl rfl;·(intro x h;(try cases h rfl);go_simp;with_reducible rfl))
       try simp only[pA]
       refine cK (v:=opV 1 l t) rfl (fun x hx=>cF 68 _ rfl ⟨W.heap.size,0,none⟩ rfl [.int .i64 1,.int .i64 l,.int .i64 t] _ (by subst hx;exact HL.out) underlying68 rfl (by kernel_rfl)) ?_;refine cC ?_;(try simp only[pA]);go_wp2_with (go_at_call 81;refine HT.out.mono ?_;rintro r W5 ⟨rfl,k1⟩);go_ret;refine⟨rfl,?_⟩;have B:=F.out.clientTo j I (After.drew k1);have e:fW x (j:Int) (iN (clM x j) 1 l t) (iB x.cf (clM x j) 1 l t)={x with cls:=x.cls.set j (iN (clM x j) 1 l t),net:=x.net++cH (iB x.cf (clM x j) 1 l t),tr:=x.tr++iB x.cf (clM x j) 1 l t}:=by unfold fW;rw[EJ.out]
       rw[e];exact MoTo.trans (own1:=own) (C.out.mono (fun q hq h=>by omega)) (fun q h=>Or.inl h) B
      ·subst y;go_enter func37,ntmps37;go_wp2_with (first|(go_at_call 47;refine J.out.mono ?_;rintro e s ⟨rfl,b⟩;have a:=b.symm;subst a;clear b)|(go_at_call 80;refine(iA _ _ _ _).mono ?_;rintro e s ⟨rfl,b⟩;have a:=b.symm;subst a;clear b));generalize d:W.alloc (.cells #[.int .i64 2,.int .i64 l,.int .i64 t] 68)=W1;have n:W1.heap[W.heap.size]?=some (.cells #[.int .i64 2,.int .i64 l,.int .i64 t] 68 (0,0)):=by rw[←d];exact aA W _
       have c:Chg (fun q=>W.heap.size≤q) W W1:=by rw[←d];exact(Chg.refl _ _).alloc _
       have m:=H.out.kept c (fun q hq h=>by have:=H.out.lt q hq;omega);have D:=H.out.lt k (by rw[H.out.cvb k rfl];decide);have a2:W1.cell? ⟨g,1,none⟩=some (.slice (some ⟨k,0,none⟩) x.cls.length E):=cB (c.kept HB.out (by have:=cX HB.out;omega)) 1 _ rfl;have a1:=(aW (c.block k D (by omega))).trans ck;have HL:=cA (cE (W:=W1.drew) n);have f:=m.sys j I;rw[←U.out]at f;have HT:=cA (uR W1.drew _ _ _ g x.cf _ _ (clM x j) x.net x.tr 2 l t f.drew w.out.1.1 w.out.1.2 Z.out (by have:=P.out.1;omega) (P.out.2) (by have:=V.out;omega) (by have:=X.out;omega));have F:=cA m;have C:=cA c;clear n c m f d ck c1;refine dZ [0,0,0,1,0,0,1,1] (by kernel_rfl) (fun _ _ _ _=>rfl) ?_;simp only[cM,cL];iterate 7 (apply sB rfl rfl;·(intro x h;(try cases h rfl);go_simp;with_reducible rfl))
       try simp only[pA]
       refine cK (v:=opV 2 l t) rfl (fun x hx=>cF 68 _ rfl ⟨W.heap.size,0,none⟩ rfl [.int .i64 2,.int .i64 l,.int .i64 t] _ (by subst hx;exact HL.out) underlying68 rfl (by kernel_rfl)) ?_;refine cC ?_;(try simp only[pA]);go_wp2_with (go_at_call 81;refine HT.out.mono ?_;rintro r W5 ⟨rfl,k1⟩);go_ret;refine⟨rfl,?_⟩;have B:=F.out.clientTo j I (After.drew k1);have e:fW x (j:Int) (iN (clM x j) 2 l t) (iB x.cf (clM x j) 2 l t)={x with cls:=x.cls.set j (iN (clM x j) 2 l t),net:=x.net++cH (iB x.cf (clM x j) 2 l t),tr:=x.tr++iB x.cf (clM x j) 2 l t}:=by unfold fW;rw[EJ.out]
       rw[e];exact MoTo.trans (own1:=own) (C.out.mono (fun q hq h=>by omega)) (fun q h=>Or.inl h) B
     ·have a6:wiB t 1 1000=false:=by simpa using ht
      rw[a6];simp only[Bool.not_true,Bool.not_false,Bool.or_self,Bool.false_or,Bool.and_true,Bool.or_true,if_true];clear u z A Y ht;have G:kk=1∨kk=2:=by omega
      rcases G with y|y;all_goals
       subst y;clear o L;go_enter func37,ntmps37;go_wp2_with (first|(go_at_call 47;refine J.out.mono ?_;rintro e s ⟨rfl,b⟩;have a:=b.symm;subst a;clear b)|(go_at_call 80;refine(iA _ _ _ _).mono ?_;rintro e s ⟨rfl,b⟩;have a:=b.symm;subst a;clear b));go_ret;exact⟨rfl,MoTo.kept (S:=fun q=>W.heap.size≤q) ⟨_,_,bA,bC,H.out⟩ (by first|exact Chg.refl _ _|exact(Chg.refl _ _).alloc _) (fun q hq h=>by have:=H.out.lt q hq;omega) (fun q hq h=>by omega)⟩
    ·have u:(decide (kk≤2))=false:=by simpa using o
     have e1:(kk==1)=false:=by rw[beq_eq_false_iff_ne];omega
     have e2:(kk==2)=false:=by rw[beq_eq_false_iff_ne];omega
     have z:rX kk t=0:=by unfold rX;rw[if_neg o]
     rw[u];simp only[Bool.not_true,Bool.or_self,Bool.false_and,aU,if_false];rw[z];clear u o z A Y L;go_enter func37,ntmps37;go_wp2_with (first|(go_at_call 47;refine J.out.mono ?_;rintro e s ⟨rfl,b⟩;have a:=b.symm;subst a;clear b)|(go_at_call 80;refine(iA _ _ _ _).mono ?_;rintro e s ⟨rfl,b⟩;have a:=b.symm;subst a;clear b));generalize d:W.alloc (.cells #[.int .i64 kk,.int .i64 l,.int .i64 0] 68)=W1;have n:W1.heap[W.heap.size]?=some (.cells #[.int .i64 kk,.int .i64 l,.int .i64 0] 68 (0,0)):=by rw[←d];exact aA W _
     have c:Chg (fun q=>W.heap.size≤q) W W1:=by rw[←d];exact(Chg.refl _ _).alloc _
     have m:=H.out.kept c (fun q hq h=>by have:=H.out.lt q hq;omega);have D:=H.out.lt k (by rw[H.out.cvb k rfl];decide);have a2:W1.cell? ⟨g,1,none⟩=some (.slice (some ⟨k,0,none⟩) x.cls.length E):=cB (c.kept HB.out (by have:=cX HB.out;omega)) 1 _ rfl;have a1:=(aW (c.block k D (by omega))).trans ck;have HL:=cA (cE (W:=W1.drew) n);have f:=m.sys j I;rw[←U.out]at f;have HT:=cA (uR W1.drew _ _ _ g x.cf _ _ (clM x j) x.net x.tr kk l 0 f.drew w.out.1.1 w.out.1.2 Z.out (aL 0) (by decide) (by have:=V.out;omega) (by have:=X.out;omega));have F:=cA m;have C:=cA c;clear n c m f d ck c1;refine dZ [0,0,0,1,0,0,1,1] (by kernel_rfl) (fun _ _ _ _=>rfl) ?_;simp only[cM,cL];iterate 7 (apply sB rfl rfl;·(intro x h;(try cases h rfl);go_simp;with_reducible rfl))
     try simp only[pA]
     refine cK (v:=opV kk l 0) rfl (fun x hx=>cF 68 _ rfl ⟨W.heap.size,0,none⟩ rfl [.int .i64 kk,.int .i64 l,.int .i64 0] _ (by subst hx;exact HL.out) underlying68 rfl (by kernel_rfl)) ?_;refine cC ?_;(try simp only[pA]);go_wp2_with (go_at_call 81;refine HT.out.mono ?_;rintro r W5 ⟨rfl,k1⟩);go_ret;refine⟨rfl,?_⟩;have B:=F.out.clientTo j I (After.drew k1);have e:fW x (j:Int) (iN (clM x j) kk l 0) (iB x.cf (clM x j) kk l 0)={x with cls:=x.cls.set j (iN (clM x j) kk l 0),net:=x.net++cH (iB x.cf (clM x j) kk l 0),tr:=x.tr++iB x.cf (clM x j) kk l 0}:=by unfold fW;rw[EJ.out]
     rw[e];exact MoTo.trans (own1:=own) (C.out.mono (fun q hq h=>by omega)) (fun q h=>Or.inl h) B
   ·have a4:wiB l 0 3=false:=by simpa using M
    rw[a4];simp only[Bool.not_true,Bool.not_false,Bool.or_self,Bool.false_or,Bool.or_true,Bool.true_or,if_true];clear A M hok h;go_enter func37,ntmps37;go_wp2_with (first|(go_at_call 47;refine J.out.mono ?_;rintro e s ⟨rfl,b⟩;have a:=b.symm;subst a;clear b)|(go_at_call 80;refine(iA _ _ _ _).mono ?_;rintro e s ⟨rfl,b⟩;have a:=b.symm;subst a;clear b));go_ret;exact⟨rfl,MoTo.of ⟨_,_,bA,bC,H.out⟩⟩
  ·have a5:wiB kk 1 4=false:=by simpa using K
   rw[a5];simp only[Bool.not_true,Bool.not_false,Bool.or_self,Bool.false_or,Bool.or_true,Bool.true_or,if_true];clear A K hok h;go_enter func37,ntmps37;go_wp2_with (first|(go_at_call 47;refine J.out.mono ?_;rintro e s ⟨rfl,b⟩;have a:=b.symm;subst a;clear b)|(go_at_call 80;refine(iA _ _ _ _).mono ?_;rintro e s ⟨rfl,b⟩;have a:=b.symm;subst a;clear b));go_ret;exact⟨rfl,MoTo.of ⟨_,_,bA,bC,H.out⟩⟩
 ·have a9:dH i x.cls.length=false:=by simpa using A
  rw[a9]at J⊢;simp only[Bool.not_true,Bool.not_false,Bool.or_self,Bool.false_or,Bool.or_true,Bool.true_or,if_true];clear A hok h;go_enter func37,ntmps37;go_wp2_with (first|(go_at_call 47;refine J.out.mono ?_;rintro e s ⟨rfl,b⟩;have a:=b.symm;subst a;clear b)|(go_at_call 80;refine(iA _ _ _ _).mono ?_;rintro e s ⟨rfl,b⟩;have a:=b.symm;subst a;clear b));go_ret;exact⟨rfl,MoTo.of ⟨_,_,bA,bC,H.out⟩⟩
theorem MOk.vl{f:Cf}{m:Mg}(h:MOk f m):zP m.val:=⟨h.v.t1,h.v.t2,h.v.s1,h.v.s2⟩
theorem aFy(a:Ac)(m:Mg):(iZ a m).1.num=a.num:=by
 have b:∀r,(gC a r).1.num=a.num:=fun r=>by unfold gC;split<;>rfl
 unfold iZ;dsimp only;split
 ·have h:=b (dX m (gH a m.lock));cases he:gC a (dX m (gH a m.lock))with
  |mk a1 hw=>
   rw[he]at h;cases hw using lB with
   |fine=>
    dsimp only at h⊢;split
    ·exact h
    ·exact h
   |full=>exact h
   |dies q=>exact h
 ·rfl
theorem aB0{x:Mo}{N:Int}(hok:MoOk N x)(hN:N≤90000000000){i:Int}(hi:dH i x.cls.length=true){m:Mg}(hm:MOk x.cf m){W:World}{F G:Nat→Prop}{b g:Nat}{av cv:Value}{net:List Mg}(hnl:(net.length:Int)≤90000000000)(hs:Sys W F G b g x.cf av cv (clM x i) net x.tr):
 Calls prog 86 #[.pointer (some ⟨b,0,none⟩),mgV m] W fun r W'=>r= .returned (.tuple #[])∧After W F G b g x.cf av cv (fI x.cf (clM x i) m) (net++cH (fE x.cf (clM x i) m)) (x.tr++fE x.cf (clM x i) m) W':=by
 have a:=dE hok.conf;obtain⟨c,d⟩:=hok.cl hi;have e:=hok.tl;exact aEa W F G b g x.cf av cv (clM x i) net x.tr m hs a.1.1 a.1.2 a.2.2.2.2.1.1 a.2.2.2.2.1.2 (xP hok hi hN) hm.vl hm.e1 hm.e2 (by have:=hm.k1;omega)
  (fun o ho=>by
   have q:=c.on o ho;refine⟨⟨q.g1,by have:=q.g2;omega,q.t1,q.t2,q.r1,by have:=q.r2;omega,q.a1,by have:=q.a2;omega⟩,⟨q.v.t1,q.v.t2,q.v.s1,q.v.s2⟩,by have:=q.mine;omega,by have:=q.ans;omega⟩)
  (fun l=>by have:=c.core.w l;omega) (by omega) (by omega)
theorem rB{x:Mo}{N:Int}(hok:MoOk N x)(hN:N≤90000000000){i:Int}(hi:dH i x.acs.length=true){m:Mg}(hm:MOk x.cf m)(hA:m.kind=1∨m.kind=3){W:World}{F G:Nat→Prop}{B:Nat}{eb:Addr}{b g:Nat}{av cv:Value}{net:List Mg}(hnl:(net.length:Int)≤90000000000)(hs:ASys W F G b g av cv (acM x i) net x.tr)(hgl:GlAt W B eb)(hFB:∀k,F k→B≤k)(hGB:∀k,G k→B≤k):
 Calls prog 85 #[.pointer (some ⟨b,0,none⟩),mgV m] W fun e W'=>e= .returned (.int .i64 (rU (acM x i) m))∧AfterA W F G b g av cv (gX (acM x i) m) (net++cH (jU (acM x i) m)) (x.tr++jU (acM x i) m) W':=by
 have c:=dE hok.conf;obtain⟨a,d,j⟩:=hok.ac hi;have s:=hok.tl;have p:=c.2.2.2.2.2.2.2;have l:=a.dk.len;refine aEv W F G B eb b g av cv (acM x i) net x.tr m hs hgl hFB hGB (a.acOk j c.2.2.2.2.2.1.1 c.2.2.2.2.2.1.2 p) (by omega) (fun h=>a.new (by omega)) a.dk.old (fun hst q hq=>?_) (aFy _ _) (fun hst=>bP (aAC a hst d hm hA).2.2 (by decide)) hm.l1 hm.l2 (by omega) (by omega)
 ·have f:=(aAC a hst d hm hA).1;unfold HowOk at f;dsimp only at f;rw[hq]at f;obtain⟨n,⟨r,o,t⟩,_⟩:=f;exact⟨⟨r,o,by omega⟩,n⟩
theorem oW(W:World)(own:Nat→Nat)(g B:Nat)(eb:Addr)(x:Mo)(N i:Int)(h:Moor W own g x)(hgl:GlAt W B eb)(hB:∀k,own k≠0→B≤k)(hok:MoOk N x)(hN:N≤80000000000):
 Calls prog 39 #[.pointer (some ⟨g,0,none⟩),.int .i64 i] W fun r W'=>r= .returned (.int .i64 (jI x i))∧MoTo W own g (cZ x i) W':=by
 have HM:=cA h;have d7:=cA hok;obtain⟨av,cv,bA,bC,h⟩:=h;obtain⟨nv,tv,hb,R,c5,b9,b5,b6⟩:=h.cells;obtain⟨p,c6,rfl⟩:=qN R;have c2:W.cell? ⟨g,2,none⟩=some (.slice p x.net.length c6):=cB hb 2 _ rfl;have c8:=hok.nl;have HI:=cA (mV W g i p x.net.length c6 (by omega) c2);unfold jI cZ;by_cases O:dH i x.net.length=true
 ·rw[if_pos O,if_pos O];have b8:=hok.msg O;have a3:=hok.drop i;have d2:eL x i={x with net:=x.net.eraseIdx i.toNat}:=by unfold eL;rw[if_pos O]
  rw[d2]at a3⊢;rw[O]at HI;obtain⟨h0,h1⟩:=(cV _ _).1 O;obtain⟨a0,em⟩:=pR O;obtain⟨j,rfl⟩:∃j:Nat,i=j:=⟨i.toNat,by omega⟩;have hj:j<x.net.length:=by omega
  have ej:((j:Int).toNat)=j:=by omega
  rw[ej]at a3⊢;have c3:jO x (j:Int)=x.net[j]'hj:=em;have a5:=R;rcases R.2 with⟨e,e0⟩|⟨k,d5,d6,e,hr⟩
  ·omega
  ·cases e;have b0:=aFF hj a5;rw[←c3]at b0;generalize hm:jO x (j:Int)=m at*;have HC:=cA b0;have d4:=cA (aA W (.cells (mgL m).toArray 66));have a4:Chg NoS W (W.alloc (.cells (mgL m).toArray 66)):=(Chg.refl _ _).alloc _;have c1:(W.alloc (.cells (mgL m).toArray 66)).heap.size=W.heap.size+1:=by simp
   have a7:=hgl.kept a4 (fun _ h=>h.elim);have c7:=HM.out.kept a4 (fun _ _ h=>h);generalize b4:W.alloc (.cells (mgL m).toArray 66)=W1 at*;have a9:Hid (W.alloc (.cells #[.int .i64 m.kind,.int .i64 m.src,.int .i64 m.dst,.int .i64 m.lock,.int .i64 m.bal,.int .i64 m.base,.int .i64 m.val.own,.int .i64 m.val.tok,.int .i64 m.val.ttl,.int .i64 m.val.seq] 66)=W1):=b4;have HR:=cA (yT W1 own g x N j c7 hok (by omega) hj);have d3:=cA (aH4 c1 a4 a7);have D:=cA b8;have b1:=cA a3;have HB:=cA (aH3 hB HM.out.lt);have HG:=cA c8;have HZ:Hid (∀n,MoTo W1 own g {x with net:=x.net.eraseIdx j} n→∃a,Moor n a g {x with net:=x.net.eraseIdx j}∧Chg (fun k=>own k≠0) W n∧(∀k,a k≠0→own k≠0∨W.heap.size≤k)∧n.heap[W.heap.size]?=some (.cells (mgL m).toArray 66 (0,0))∧GlAt n B eb∧(∀k,a k≠0→B≤k)):=by
    rintro n ⟨a,C,u,z⟩;have hh:=d3.out;have d8:=hh.2.2.hB;refine⟨a,C,(hh.2.1.mono (fun _ _ h=>h.elim)).trans u (fun k _ h=>h),fun k hk=>?_,u.kept d4.out (fun h=>by have:=HB.out.2 _ h;omega),hh.2.2.kept u (fun k hk=>HB.out.1 k hk),fun k hk=>?_⟩
    ·rcases z k hk with h|h
     ·exact Or.inl h
     ·right;omega
    ·rcases z k hk with h|h
     ·exact HB.out.1 k h
     ·omega
   have hA:∀(P:Prop),(gF m=true→(m.kind=1∨m.kind=3)):=fun _ h=>by simpa[gF]using h
   clear b0 hb R c5 b9 b5 b6 h hok O a0 hr a5 em c3 hm b4 a4 c1 a7 c7 b8 a3 hj hgl hB c8 d2 h0;by_cases J:m.kind=1
   ·have e1:(m.kind==1)=true:=by simp[J]
    have Q:gF m=true:=by simp[gF,J]
    rw[if_pos Q,if_pos Q];have M:m.kind=1∨m.kind=3:=Or.inl J;clear J hA Q;go_enter func39,ntmps39;go_wp2_with (first|rw[a9.out]|(go_at_call 83;refine HI.out.mono ?_;rintro e w' ⟨rfl,hW⟩;have X:=hW.symm;subst X;clear hW)|(refine cJ rfl 66 _ rfl ⟨k,j*10,none⟩ rfl (mgL m) _ HC.out underlying66 rfl (by kernel_rfl) ?_)|(go_at_call 84;refine HR.out.mono ?_;rintro e n ⟨rfl,F⟩;refine cD ?_));refine cA ?_;obtain⟨a,U,u,z,b,A,E⟩:=HZ.out n F;obtain⟨a8,a1,a2,b2,C⟩:=U;obtain⟨b7,b3,I,_⟩:=C.cells;obtain⟨p2,s,rfl,o⟩:=lL C.rav;have l:=b1.out;have w:dH m.dst x.acs.length=true:=(cV _ _).2 ⟨D.out.d1,by have h1:=l.na;have C:=(D.out.toA M).2;have h3:x.acs.length=dI x.cf:=h1;rw[h3];unfold dI;omega⟩;have d:dH m.dst ({x with net:=x.net.eraseIdx j}:Mo).acs.length=true:=w;obtain⟨Z,eq⟩:=oY d;obtain⟨d0,d1⟩:=(cV _ _).1 w;have y:m.dst=((m.dst.toNat:Nat):Int):=by omega
    have c:m.dst.toNat<x.acs.length:=by omega
    obtain⟨k2,rfl,ck⟩:=o m.dst.toNat c;have c0:n.cell? ⟨g,0,none⟩=some (.slice (some ⟨k2,0,none⟩) x.acs.length s):=cB I 0 _ rfl;have cd:n.cell? ⟨W.heap.size,2,none⟩=some (.int .i64 m.dst):=cB b 2 _ rfl;have c9:n.cell? ⟨W.heap.size,0,none⟩=some (.int .i64 m.kind):=cB b 0 _ rfl;have ed:m.dst.toNat=m.dst.toNat:=rfl;have t:=(C.drew).asys m.dst.toNat c;have G:acM {x with net:=x.net.eraseIdx j} m.dst=x.acs[m.dst.toNat]'c:=eq;have f:ASys n.drew (fun k=>a k=3+2*m.dst.toNat) (fun k=>a k=1) (a2 m.dst.toNat) g (.slice (some ⟨k2,0,none⟩) x.acs.length s) a1 (acM {x with net:=x.net.eraseIdx j} m.dst) (x.net.eraseIdx j) x.tr:=by rw[G];exact t
    have HT:=cA (rB (N:=N) l (by omega) d D.out M (by have:=l.nl;exact Int.le_trans this (by omega)) f (A.kept (S:=NoS) (Chg.refl _ _).drew (fun _ h=>h.elim)) (fun q Z=>E q (by omega)) (fun q Z=>E q (by omega)));have HL:=cA (cE (cs:=mgL m) (W:=n.drew) b);have H2:=cA C;have H:=cA (aH3 u z);have hx1:(m.dst.toNat:Int)<(x.acs.length:Int):=by omega
    have V:=cA c;clear F u z A E o l w d Z eq G t f C c I;generalize Y:m.dst.toNat=jd at*;have c4:(0:Int)≤(jd:Int):=by omega
    rw[y]at cd;have a6:=cA b;have T:=cA y;clear b y d0 d1 ed Y;go_wp2_with fail;refine dZ [0,0,0,1,0,1,0,1,1] (by kernel_rfl) (fun _ _ _ _=>rfl) ?_;simp only[cM,cL];iterate 8 (apply sB rfl rfl;·(intro x h;(try cases h rfl);go_simp;with_reducible rfl))
    try simp only[pA]
    refine cK (v:=mgV m) rfl (fun x hx=>cF 66 _ rfl ⟨W.heap.size,0,none⟩ rfl (mgL m) _ (by subst hx;exact HL.out) underlying66 rfl (by kernel_rfl)) ?_;refine cC ?_;(try simp only[pA]);go_wp2_with (go_at_call 85;refine HT.out.mono ?_;rintro r W5 ⟨rfl,k1⟩);go_ret;refine⟨rfl,?_⟩;have K:=H2.out.drew.acceptorTo jd V.out k1;refine MoTo.trans (own1:=a) H.out.1 H.out.2 (MoTo.drew ?_);have e:(m.dst).toNat=jd:=by have:=T.out;omega
    unfold iX;rw[e];exact K
   ·have e1:(m.kind==1)=false:=by simp[J]
    by_cases L:m.kind=3
    ·have e3:(m.kind==3)=true:=by simp[L]
     have Q:gF m=true:=by simp[gF,L]
     rw[if_pos Q,if_pos Q];have M:m.kind=1∨m.kind=3:=Or.inr L;clear J hA Q L;go_enter func39,ntmps39;go_wp2_with (first|rw[a9.out]|(go_at_call 83;refine HI.out.mono ?_;rintro e w' ⟨rfl,hW⟩;have X:=hW.symm;subst X;clear hW)|(refine cJ rfl 66 _ rfl ⟨k,j*10,none⟩ rfl (mgL m) _ HC.out underlying66 rfl (by kernel_rfl) ?_)|(go_at_call 84;refine HR.out.mono ?_;rintro e n ⟨rfl,F⟩;refine cD ?_));refine cA ?_;obtain⟨a,U,u,z,b,A,E⟩:=HZ.out n F;obtain⟨a8,a1,a2,b2,C⟩:=U;obtain⟨b7,b3,I,_⟩:=C.cells;obtain⟨p2,s,rfl,o⟩:=lL C.rav;have l:=b1.out;have w:dH m.dst x.acs.length=true:=(cV _ _).2 ⟨D.out.d1,by have h1:=l.na;have C:=(D.out.toA M).2;have h3:x.acs.length=dI x.cf:=h1;rw[h3];unfold dI;omega⟩;have d:dH m.dst ({x with net:=x.net.eraseIdx j}:Mo).acs.length=true:=w;obtain⟨Z,eq⟩:=oY d;obtain⟨d0,d1⟩:=(cV _ _).1 w;have y:m.dst=((m.dst.toNat:Nat):Int):=by omega
     have c:m.dst.toNat<x.acs.length:=by omega
     obtain⟨k2,rfl,ck⟩:=o m.dst.toNat c;have c0:n.cell? ⟨g,0,none⟩=some (.slice (some ⟨k2,0,none⟩) x.acs.length s):=cB I 0 _ rfl;have cd:n.cell? ⟨W.heap.size,2,none⟩=some (.int .i64 m.dst):=cB b 2 _ rfl;have c9:n.cell? ⟨W.heap.size,0,none⟩=some (.int .i64 m.kind):=cB b 0 _ rfl;have ed:m.dst.toNat=m.dst.toNat:=rfl;have t:=(C.drew).asys m.dst.toNat c;have G:acM {x with net:=x.net.eraseIdx j} m.dst=x.acs[m.dst.toNat]'c:=eq;have f:ASys n.drew (fun k=>a k=3+2*m.dst.toNat) (fun k=>a k=1) (a2 m.dst.toNat) g (.slice (some ⟨k2,0,none⟩) x.acs.length s) a1 (acM {x with net:=x.net.eraseIdx j} m.dst) (x.net.eraseIdx j) x.tr:=by rw[G];exact t
     have HT:=cA (rB (N:=N) l (by omega) d D.out M (by have:=l.nl;exact Int.le_trans this (by omega)) f (A.kept (S:=NoS) (Chg.refl _ _).drew (fun _ h=>h.elim)) (fun q Z=>E q (by omega)) (fun q Z=>E q (by omega)));have HL:=cA (cE (cs:=mgL m) (W:=n.drew) b);have H2:=cA C;have H:=cA (aH3 u z);have hx1:(m.dst.toNat:Int)<(x.acs.length:Int):=by omega
     have V:=cA c;clear F u z A E o l w d Z eq G t f C c I;generalize Y:m.dst.toNat=jd at*;have c4:(0:Int)≤(jd:Int):=by omega
     rw[y]at cd;have a6:=cA b;have T:=cA y;clear b y d0 d1 ed Y;go_wp2_with fail;refine dZ [0,0,0,1,0,1,0,1,1] (by kernel_rfl) (fun _ _ _ _=>rfl) ?_;simp only[cM,cL];iterate 8 (apply sB rfl rfl;·(intro x h;(try cases h rfl);go_simp;with_reducible rfl))
     try simp only[pA]
     refine cK (v:=mgV m) rfl (fun x hx=>cF 66 _ rfl ⟨W.heap.size,0,none⟩ rfl (mgL m) _ (by subst hx;exact HL.out) underlying66 rfl (by kernel_rfl)) ?_;refine cC ?_;(try simp only[pA]);go_wp2_with (go_at_call 85;refine HT.out.mono ?_;rintro r W5 ⟨rfl,k1⟩);go_ret;refine⟨rfl,?_⟩;have K:=H2.out.drew.acceptorTo jd V.out k1;refine MoTo.trans (own1:=a) H.out.1 H.out.2 (MoTo.drew ?_);have e:(m.dst).toNat=jd:=by have:=T.out;omega
     unfold iX;rw[e];exact K
    ·have e3:(m.kind==3)=false:=by simp[L]
     have Q:¬gF m=true:=by simp[gF,J,L]
     rw[if_neg Q,if_neg Q];have M:¬(m.kind=1∨m.kind=3):=by omega
     clear J hA Q L;go_enter func39,ntmps39;go_wp2_with (first|rw[a9.out]|(go_at_call 83;refine HI.out.mono ?_;rintro e w' ⟨rfl,hW⟩;have X:=hW.symm;subst X;clear hW)|(refine cJ rfl 66 _ rfl ⟨k,j*10,none⟩ rfl (mgL m) _ HC.out underlying66 rfl (by kernel_rfl) ?_)|(go_at_call 84;refine HR.out.mono ?_;rintro e n ⟨rfl,F⟩;refine cD ?_));refine cA ?_;obtain⟨a,U,u,z,b,A,E⟩:=HZ.out n F;obtain⟨a8,a1,a2,b2,C⟩:=U;obtain⟨b7,b3,I,_⟩:=C.cells;obtain⟨p2,s,rfl,o⟩:=lL C.rcv;have l:=b1.out;have w:dH m.dst x.cls.length=true:=(cV _ _).2 ⟨D.out.d1,by have h1:=l.nc;have C:=(D.out.toC M).2;have h3:x.cls.length=x.cf.clients.toNat:=h1;rw[h3];omega⟩;have d:dH m.dst ({x with net:=x.net.eraseIdx j}:Mo).cls.length=true:=w;obtain⟨Z,eq⟩:=nO d;obtain⟨d0,d1⟩:=(cV _ _).1 w;have y:m.dst=((m.dst.toNat:Nat):Int):=by omega
     have c:m.dst.toNat<x.cls.length:=by omega
     obtain⟨k2,rfl,ck⟩:=o m.dst.toNat c;have c0:n.cell? ⟨g,1,none⟩=some (.slice (some ⟨k2,0,none⟩) x.cls.length s):=cB I 1 _ rfl;have cd:n.cell? ⟨W.heap.size,2,none⟩=some (.int .i64 m.dst):=cB b 2 _ rfl;have c9:n.cell? ⟨W.heap.size,0,none⟩=some (.int .i64 m.kind):=cB b 0 _ rfl;have ed:m.dst.toNat=m.dst.toNat:=rfl;have t:=(C.drew).sys m.dst.toNat c;have G:clM {x with net:=x.net.eraseIdx j} m.dst=x.cls[m.dst.toNat]'c:=eq;have f:Sys n.drew (fun k=>a k=4+2*m.dst.toNat) (fun k=>a k=1) (b2 m.dst.toNat) g x.cf a8 (.slice (some ⟨k2,0,none⟩) x.cls.length s) (clM {x with net:=x.net.eraseIdx j} m.dst) (x.net.eraseIdx j) x.tr:=by rw[G];exact t
     have HT:=cA (aB0 (N:=N) l (by omega) d D.out (by have:=l.nl;exact Int.le_trans this (by omega)) f);have HL:=cA (cE (cs:=mgL m) (W:=n.drew) b);have H2:=cA C;have H:=cA (aH3 u z);have hx1:(m.dst.toNat:Int)<(x.cls.length:Int):=by omega
     have V:=cA c;clear F u z A E o l w d Z eq G t f C c I;generalize Y:m.dst.toNat=jd at*;have c4:(0:Int)≤(jd:Int):=by omega
     rw[y]at cd;have a6:=cA b;have T:=cA y;clear b y d0 d1 ed Y;go_wp2_with fail;refine dZ [0,0,0,1,0,1,0,1,1] (by kernel_rfl) (fun _ _ _ _=>rfl) ?_;simp only[cM,cL];iterate 8 (apply sB rfl rfl;·(intro x h;(try cases h rfl);go_simp;with_reducible rfl))
     try simp only[pA]
     refine cK (v:=mgV m) rfl (fun x hx=>cF 66 _ rfl ⟨W.heap.size,0,none⟩ rfl (mgL m) _ (by subst hx;exact HL.out) underlying66 rfl (by kernel_rfl)) ?_;refine cC ?_;(try simp only[pA]);go_wp2_with (go_at_call 86;refine HT.out.mono ?_;rintro r W5 ⟨rfl,k1⟩);go_ret;refine⟨rfl,?_⟩;have K:=H2.out.drew.clientTo jd V.out k1;refine MoTo.trans (own1:=a) H.out.1 H.out.2 (MoTo.drew ?_);have e:(m.dst).toNat=jd:=by have:=T.out;omega
     unfold fW;rw[e];exact K
 ·rw[if_neg O,if_neg O];have a0:dH i x.net.length=false:=by simpa using O
  rw[a0]at HI;clear hb R c5 b9 b5 b6 h hok O a0;go_enter func39,ntmps39;go_wp2_with (go_at_call 83;refine HI.out.mono ?_;rintro e w' ⟨rfl,rfl⟩);go_ret;exact⟨rfl,MoTo.of HM.out⟩
structure KW(W:World)(B:Nat)(eb:Addr)(own:Nat→Nat)(g:Nat)(x:Mo)(N:Int):Prop where
 mo:Moor W own g x
 gl:GlAt W B eb
 ow:∀k,own k≠0→B≤k
 ok:MoOk N x
def KTo(W:World)(B:Nat)(eb:Addr)(own:Nat→Nat)(g:Nat)(x:Mo)(N:Int)(W':World):Prop:=∃own',KW W' B eb own' g x N∧Chg (fun k=>own k≠0) W W'∧∀k,own' k≠0→own k≠0∨W.heap.size≤k
section
variable {W W':World}{B:Nat}{eb:Addr}{own:Nat→Nat}{g:Nat}{x x':Mo}{N N':Int}
theorem KW.go(h:KW W B eb own g x N)(hm:MoTo W own g x' W')(hok:MoOk N' x'):KTo W B eb own g x' N' W':=by
 obtain⟨a,d,b,c⟩:=hm;refine⟨a,⟨d,h.gl.kept b h.ow,fun k hk=>?_,hok⟩,b,c⟩;rcases c k hk with e|e
 ·exact h.ow k e
 ·exact bP h.gl.hB e
theorem KTo.refl(h:KW W B eb own g x N):KTo W B eb own g x N W:=⟨own,h,Chg.refl _ _,fun _ h=>Or.inl h⟩
theorem KTo.trans(h:KTo W B eb own g x N W'){W'':World}(k:∀own',KW W' B eb own' g x N→KTo W' B eb own' g x' N' W''):KTo W B eb own g x' N' W'':=by
 obtain⟨l,i,a,b⟩:=h;obtain⟨j,c,d,f⟩:=k l i;refine⟨j,c,a.trans d (fun q hq h'=>?_),fun q hq=>?_⟩
 ·rcases b q h' with e|e
  ·exact e
  ·omega
 ·rcases f q hq with e|e
  ·exact b q e
  ·right;have:=a.size;omega
theorem KTo.step{y y':Mo}{N2:Int}{wr W1:World}{o':Nat→Nat}(hw:KW wr B eb o' g y N)(hc:Chg (fun k=>own k≠0) W wr)(hg:∀k,o' k≠0→own k≠0∨W.heap.size≤k)(hq:MoTo wr o' g y' W1)(hok:MoOk N2 y'):KTo W B eb own g y' N2 W1:=by
 obtain⟨d,a,b,c⟩:=hw.go hq hok;refine⟨d,a,hc.trans b (fun q hq h'=>?_),fun q hq=>?_⟩
 ·rcases hg q h' with e|e
  ·exact e
  ·omega
 ·rcases c q hq with e|e
  ·exact hg q e
  ·right;have:=hc.size;omega
theorem KW.kept(h:KW W B eb own g x N){S:Nat→Prop}(hc:Chg S W W')(hn:∀k,own k≠0→¬S k)(hS:∀k,S k→B≤k):KW W' B eb own g x N:=⟨h.mo.kept hc hn,h.gl.kept hc hS,h.ow,h.ok⟩
theorem KW.chg0(h:KW W B eb own g x N)(hc:Chg NoS W W'):KW W' B eb own g x N:=h.kept hc (fun _ _ e=>e) (fun _ e=>e.elim)
theorem KTo.chg0(h:KTo W B eb own g x N W'){W'':World}(hc:Chg NoS W' W''):KTo W B eb own g x N W'':=by
 obtain⟨o,a,b,c⟩:=h;exact⟨o,a.chg0 hc,b.trans hc (fun _ _ e=>e.elim),c⟩
theorem KTo.comp{o2:Nat→Nat}{W2:World}(c:Chg (fun k=>own k≠0) W W2)(g2:∀k,o2 k≠0→own k≠0∨W.heap.size≤k)(h:KTo W2 B eb o2 g x N W'):KTo W B eb own g x N W':=by
 obtain⟨o,b,a,d⟩:=h;refine⟨o,b,c.trans a (fun q hq h'=>?_),fun q hq=>?_⟩
 ·rcases g2 q h' with e|e
  ·exact e
  ·omega
 ·rcases d q hq with e|e
  ·exact g2 q e
  ·right;have:=c.size;omega
theorem KTo.junk{W1 W3 W8:World}{S:Nat→Prop}(h:KTo W1 B eb own g x N W3)(hc1:Chg NoS W W1)(hc:Chg S W3 W8)(hS:∀k,S k→W.heap.size≤k∧k<W1.heap.size)(ho:∀k,own k≠0→k<W.heap.size)(hB:B≤W.heap.size):KTo W B eb own g x N W8:=by
 obtain⟨o,c,b,a⟩:=h;refine⟨o,c.kept hc (fun k hk hs=>?_) (fun k hs=>bP hB (hS k hs).1),?_,fun k hk=>(a k hk).imp id fun e=>bP hc1.size e⟩
 ·have:=hS k hs;rcases a k hk with e|e
  ·have:=ho k e;omega
  ·omega
 ·refine((hc1.mono (T:=fun k=>own k≠0) (fun _ _ e=>e.elim)).trans b (fun _ _ e=>e)).trans hc (fun k hk hs=>?_);have:=hS k hs;omega
theorem KTo.mono(h:KTo W B eb own g x N W')(hN:N≤N'):KTo W B eb own g x N' W':=by
 obtain⟨o,a,b,c⟩:=h;exact⟨o,⟨a.mo,a.gl,a.ow,a.ok.mono hN⟩,b,c⟩
theorem KTo.before(h:KTo W' B eb own g x N W){W0:World}(hc:Chg NoS W0 W'):KTo W0 B eb own g x N W:=by
 obtain⟨o,a,b,c⟩:=h;exact⟨o,a,hc.mono (fun _ _ e=>e.elim) |>.trans b (fun _ _ e=>e),fun k hk=>(c k hk).imp id fun e=>bP hc.size e⟩
end
def fV:Nat→Mo→Mo
 |0,x=>x
 |n+1,x=>if x.net.length=0 then x else fV n (cZ x 0)
theorem aEl(a:Ac)(m:Mg):rU a m≠1:=by
 unfold rU;split
 ·decide
 ·split<;>decide
theorem sZ{x:Mo}(h:x.net.length=0):jI x 0=1:=by
 unfold jI;rw[if_neg (by rw[cV];omega)]
theorem tJ{x:Mo}(h:x.net.length≠0):jI x 0≠1:=by
 unfold jI;rw[if_pos (by rw[cV];omega)];split
 ·exact aEl _ _
 ·decide
theorem wL(W:World)(B:Nat)(eb:Addr)(own:Nat→Nat)(g:Nat)(x:Mo)(N:Int)(most:Nat)(h:KW W B eb own g x N)(hm:(most:Int)≤10000000000)(hN:N+6*most≤80000000000):
 Calls prog 46 #[.pointer (some ⟨g,0,none⟩),.int .i64 (most:Int)] W fun r W'=>r= .returned (.tuple #[])∧KTo W B eb own g (fV most x) (N+6*most) W':=by
 have H:=cA h;clear h;go_enter func46,ntmps46;go_wp2_with fail;go_loopw [4] (fun i wr=>∃k:Nat,k≤most∧i= .int .i64 k∧Hid (∃y,KTo W B eb own g y (N+6*k) wr∧fV most x=fV (most-k) y)) (fun i _=>most-(intOf i).toNat)
 case atStart=>exact⟨0,aI _,rfl,x,KTo.mono (.refl H.out) (by omega),rfl⟩
 case round=>
  obtain⟨k,C,rfl,w⟩:=hrel;obtain⟨y,⟨s,b,m,l⟩,c⟩:=w.out;by_cases A:k<most
  ·have q:(k:Int)<(most:Int):=by omega
   have t:=cA (oW wr s g B eb y (N+6*k) 0 b.mo b.gl b.ow b.ok (by omega));have a:=cA (aH4 b m l);have f:most-k=(most-(k+1))+1:=by omega
   rw[f]at c;by_cases j:y.net.length=0
   ·have u:(jI y 0==1)=true:=by simp[sZ j]
    rw[fV,if_pos j]at c;have n:=cA c;have z:=cA (show cZ y 0=y by unfold cZ;rw[if_neg (by rw[cV];omega)]);clear b m l c f j;go_wp2_with (go_at_call 39;refine t.out.mono ?_;rintro e v ⟨rfl,d⟩;have o:=cA d;clear d)
    (first|go_end0|((try simp only[Exit.inBlock,Exit.then]);refine bodyPost_ret (results_none rfl _ _ _) rfl ?_))
    have d:=o.out;rw[z.out]at d;rw[n.out];exact⟨rfl,KTo.mono (KTo.step a.out.1 a.out.2.1 a.out.2.2 d a.out.1.ok) (by omega)⟩
   ·have u:(jI y 0==1)=false:=by simp[tJ j]
    rw[fV,if_neg j]at c;have n:=cA c;clear b m l c f j;go_wp2_with (go_at_call 39;refine t.out.mono ?_;rintro e v ⟨rfl,d⟩;have o:=cA d;clear d);go_roundw
    case rel=>
     refine⟨k+1,by omega,by go_num,cZ y 0,?_,n.out⟩;exact KTo.mono (KTo.step a.out.1 a.out.2.1 a.out.2.2 o.out (a.out.1.ok.deliver 0)) (by omega)
    case measure=>simp[intOf]<;>omega
  ·have p:k=most:=by omega
   subst p;have q:¬(k:Int)<(k:Int):=by omega
   have n:=cA c;have a:=cA (aH4 b m l);clear c b m l;go_wp2_with fail
   (first|go_end0|((try simp only[Exit.inBlock,Exit.then]);refine bodyPost_ret (results_none rfl _ _ _) rfl ?_))
   refine⟨rfl,?_⟩;rw[n.out,Nat.sub_self];exact⟨s,a.out.1,a.out.2.1,a.out.2.2⟩
def kY(x:Mo)(i k l t:Int):Mo:=if mL x i k l t≠0 then eY x i k l t else fV 200 (eY x i k l t)
def iC(x:Mo)(i k l t:Int):Ev:=if mL x i k l t≠0 then zEv else(jD (kY x i k l t).tr i (kY x i k l t).tr.length).1
theorem aB2(x:Mo):uE x 0=x.tr:=by
 unfold uE;rw[show(min (max (0:Int) 0) (x.tr.length:Int)).toNat=0 by omega]
 rfl
theorem nJ(W:World)(B:Nat)(eb:Addr)(own:Nat→Nat)(g:Nat)(x:Mo)(N:Int)(i k l t:Int)(h:KW W B eb own g x N)(hN:N≤70000000000):
 Calls prog 27 #[.pointer (some ⟨g,0,none⟩),.int .i64 i,.int .i64 k,.int .i64 l,.int .i64 t] W fun r W'=>r= .returned (evV (iC x i k l t))∧KTo W B eb own g (kY x i k l t) (N+1206) W':=by
 have G:=aA W (.cells #[.int .i64 0,.int .i64 0,.int .i64 0,.int .i64 0,.int .i64 0,.int .i64 0,.int .i64 0,.int .i64 0,.int .i64 0,.int .i64 0,.int .i64 0,.int .i64 0,.int .i64 0,.int .i64 0,.int .i64 0,.int .i64 0,.int .i64 0,.int .i64 0,.int .i64 0] 70);have o:Chg NoS W (W.alloc (.cells #[.int .i64 0,.int .i64 0,.int .i64 0,.int .i64 0,.int .i64 0,.int .i64 0,.int .i64 0,.int .i64 0,.int .i64 0,.int .i64 0,.int .i64 0,.int .i64 0,.int .i64 0,.int .i64 0,.int .i64 0,.int .i64 0,.int .i64 0,.int .i64 0,.int .i64 0] 70)):=(Chg.refl _ _).alloc _;have D:∀q,own q≠0→q<W.heap.size:=h.mo.lt;have a3:=h.gl.hB;generalize F:W.alloc (.cells #[.int .i64 0,.int .i64 0,.int .i64 0,.int .i64 0,.int .i64 0,.int .i64 0,.int .i64 0,.int .i64 0,.int .i64 0,.int .i64 0,.int .i64 0,.int .i64 0,.int .i64 0,.int .i64 0,.int .i64 0,.int .i64 0,.int .i64 0,.int .i64 0,.int .i64 0] 70)=W1 at G o;have h1:=h.chg0 o;have b7:=cA F;have A:W1.heap.size=W.heap.size+1:=by rw[←F];simp
 have c4:Hid (W1.heap[W.heap.size]?=some (.cells (evL zEv).toArray 70 (0,0))):=G;have a:=cA (aH5 h1 o A D);have HB:=cA (wV W1 own g x N i k l t h1.mo h1.ok (by omega));clear h h1 G F o A D;go_enter func27,ntmps27;go_wp2_with (first|rw[b7.out]|(go_at_call 37;refine HB.out.mono ?_;rintro e R ⟨rfl,w⟩;have HQ:=cA w;clear w;refine cD ?_));have b3:KTo W1 B eb own g (eY x i k l t) (N+6) R:=a.out.1.go HQ.out (a.out.1.ok.begin i k l t);obtain⟨o2,P,O,g2⟩:=b3;have n:R.heap[W.heap.size]?=some (.cells (evL zEv).toArray 70 (0,0)):=(O.block _ (by have:=a.out.2.2.1;omega) (fun e=>by have:=a.out.2.2.2 _ e;omega)).trans c4.out;by_cases E:mL x i k l t=0
 ·have b0:(mL x i k l t !=0)=false:=by simp[E]
  have HS:=cA (wL R B eb o2 g (eY x i k l t) (N+6) 200 P (by decide) (by omega));have b:=cA (aH5 P O g2 n);have H0:=cA E;clear P O g2 n E;refine cA ?_;go_wp2_with (go_at_call 46;refine HS.out.mono ?_;rintro e K ⟨rfl,w⟩;have a1:=cA w;clear w;refine cD ?_);obtain⟨o3,Q,c3,g3⟩:=a1.out;have Z:K.heap[W.heap.size]?=some (.cells (evL zEv).toArray 70 (0,0)):=(c3.block _ (by have:=a.out.2.2.1;have:=b.out.2.1.size;omega) (fun e=>by
   rcases b.out.2.2.1 _ e with e|e
   ·have:=a.out.2.2.2 _ e;omega
   ·have:=a.out.2.2.1;omega)).trans b.out.2.2.2
  have HT:=cA (aC3 K o3 g (fV 200 (eY x i k l t)) (N+6+6*(200:Nat)) 0 Q.mo Q.ok (by omega));rw[aB2]at HT;have c9:=Q.ok.tl;have s:=cA (aH5 Q c3 g3 Z);have HD:Hid (kY x i k l t=fV 200 (eY x i k l t)):=if_neg (by rw[H0.out];decide);have HE:Hid (iC x i k l t=(jD (fV 200 (eY x i k l t)).tr i (fV 200 (eY x i k l t)).tr.length).1):=by
   show iC x i k l t=_;unfold iC;rw[if_neg (by rw[H0.out];decide),HD.out]
  generalize fV 200 (eY x i k l t)=y at*;clear Q c3 g3 Z a1 HS;refine cA ?_;go_wp2_with (go_at_call 17;refine HT.out.mono ?_;rintro e W4 ⟨v,rfl,hv,a8⟩;refine cD ?_);obtain⟨p,c8,rfl,hl,_⟩:=LsAt.of_owns (f:=evL) (sz:=19) (fun _=>rfl) hv rfl;have HN:=cA (aDQ W4 p c8 y.tr i hl (by omega));have X:Chg NoS K W4:=Chg.below' a8;have M:=cA X;clear hv a8 X hl;refine cA ?_;go_wp2_with (first|(go_at_call 64;refine HN.out.mono ?_;rintro e c ⟨rfl,w⟩;have m:=cA w;clear w;refine cD ?_));have a6:c.heap[W.heap.size]?=some (.cells (evL zEv).toArray 70 (0,0)):=(m.out.block _ (by have:=a.out.2.2.1;have:=b.out.2.1.size;have:=s.out.2.1.size;have:=M.out.size;omega) (fun e=>e)).trans ((M.out.block _ (by have:=a.out.2.2.1;have:=b.out.2.1.size;have:=s.out.2.1.size;omega) (fun e=>e)).trans s.out.2.2.2);have C:W.heap.size<c.heap.size:=by have:=a.out.2.2.1;have:=b.out.2.1.size;have:=s.out.2.1.size;have:=M.out.size;have:=m.out.size;omega
  have d:=aA c (.cells #[.int .i64 0,.int .i64 0,.int .i64 0,.int .i64 0,.int .i64 0,.int .i64 0,.int .i64 0,.int .i64 0,.int .i64 0,.int .i64 0,.int .i64 0,.int .i64 0,.int .i64 0,.int .i64 0,.int .i64 0,.int .i64 0,.int .i64 0,.int .i64 0,.int .i64 0] 70);have I:(c.alloc (.cells #[.int .i64 0,.int .i64 0,.int .i64 0,.int .i64 0,.int .i64 0,.int .i64 0,.int .i64 0,.int .i64 0,.int .i64 0,.int .i64 0,.int .i64 0,.int .i64 0,.int .i64 0,.int .i64 0,.int .i64 0,.int .i64 0,.int .i64 0,.int .i64 0,.int .i64 0] 70)).heap[W.heap.size]?=some (.cells (evL zEv).toArray 70 (0,0)):=cR _ a6;have H:Chg NoS c (c.alloc (.cells #[.int .i64 0,.int .i64 0,.int .i64 0,.int .i64 0,.int .i64 0,.int .i64 0,.int .i64 0,.int .i64 0,.int .i64 0,.int .i64 0,.int .i64 0,.int .i64 0,.int .i64 0,.int .i64 0,.int .i64 0,.int .i64 0,.int .i64 0,.int .i64 0,.int .i64 0] 70)):=(Chg.refl _ _).alloc _;generalize U:c.alloc (.cells #[.int .i64 0,.int .i64 0,.int .i64 0,.int .i64 0,.int .i64 0,.int .i64 0,.int .i64 0,.int .i64 0,.int .i64 0,.int .i64 0,.int .i64 0,.int .i64 0,.int .i64 0,.int .i64 0,.int .i64 0,.int .i64 0,.int .i64 0,.int .i64 0,.int .i64 0] 70)=W6 at d I H;have b8:=cA U;have b2:Hid (W6.heap[c.heap.size]?=some (.cells (evL zEv).toArray 70 (0,0))):=d;have L:=cA (aH4 I H C);generalize (jD y.tr i y.tr.length).1=e at HE⊢;generalize (jD y.tr i y.tr.length).2=eb2;clear a6 C d U I H;refine cA ?_
  go_wp2_with (first|rw[b8.out]|(refine cG rfl 70 _ _ rfl c.heap.size 0 70 _ _ (evL e) rfl rfl b2.out (by kernel_rfl) (by simp[Value.oneCell']) (by simp) rfl ?_;intro W7 T c5 V;have S:=cA T;have c1:=cA V;clear T c5 V;refine cD ?_));have a7:W7.heap[W.heap.size]?=some (.cells (evL zEv).toArray 70 (0,0)):=(S.out.block _ (by have:=L.out.2.1.size;have:=L.out.2.2;omega) (fun e=>by have:=L.out.2.2;omega)).trans L.out.1;have a9:=cA a7;have c7:Hid (∀j u,(evL e)[j]?=some u→W7.cell? ((⟨c.heap.size,0,none⟩:Addr).add j)=some u):=cE c1.out;clear a7;refine cA ?_;go_wp2_with (first|(refine cG rfl 70 _ _ rfl W.heap.size 0 70 _ _ (evL e) rfl rfl a9.out (by kernel_rfl) (by simp[Value.oneCell']) (by simp) rfl ?_;intro W8 Y b5 a5;have c6:=cA Y;have b9:=cA a5;clear Y b5 a5;refine cD ?_)|(refine cJ rfl 70 _ rfl ⟨c.heap.size,0,none⟩ rfl (evL e) _ c7.out underlying70 rfl (by kernel_rfl) ?_));refine cA ?_;go_wp2_with fail;rw[HE.out,HD.out];refine bodyPost_ret (zR _ results27 _ W.heap.size e _ rfl b9.out) rfl ⟨rfl,?_⟩;have z1:=a.out.2.2.1;have z2:=b.out.2.1.size;have z3:=s.out.2.1.size;have z4:=M.out.size;have z5:=m.out.size;have hn:Chg (fun k=>k=W.heap.size) K W8:=by
   have a2:=((M.out.trans m.out (fun _ _ z=>z)).trans L.out.2.1 (fun _ _ z=>z)).fresh S.out (by omega);exact(a2.mono (fun _ _ e=>e.elim)).trans c6.out (fun _ _ e=>e)
  have J:KTo R B eb o2 g y (N+1206) K:=KTo.mono ⟨o3,s.out.1,s.out.2.1,s.out.2.2.1⟩ (by omega);exact(J.comp b.out.2.1 b.out.2.2.1).junk a.out.2.1 hn (fun k e=>by subst e;omega) a.out.2.2.2 a3
 ·have b0:(mL x i k l t !=0)=true:=by simp[E]
  have b:=cA (aH4 P O g2);have b6:=cA n;have HD:Hid (kY x i k l t=eY x i k l t):=if_pos E;have HE:Hid (iC x i k l t=zEv):=if_pos E;clear P O g2 n E;refine cA ?_;go_wp2_with (first|(refine cG rfl 70 _ _ rfl W.heap.size 0 70 _ _ (evL zEv) rfl rfl b6.out (by kernel_rfl) (by simp[Value.oneCell']) (by simp) rfl ?_;intro K a0 b1 a4;have b4:=cA a0;have c0:=cA a4;clear a0 b1 a4;refine cD ?_));refine cA ?_;go_wp2_with fail;rw[HE.out,HD.out];refine bodyPost_ret (zR _ results27 _ W.heap.size zEv _ rfl c0.out) rfl ⟨rfl,?_⟩;have z1:=a.out.2.2.1;have J:KTo W1 B eb own g (eY x i k l t) (N+1206) R:=KTo.mono ⟨o2,b.out.1,b.out.2.1,b.out.2.2⟩ (by omega);exact J.junk a.out.2.1 b4.out (fun k e=>by subst e;omega) a.out.2.2.2 a3
def cfH:Cf:=⟨1,2,3,3,0,3,400⟩
def hx0:Mo:=kV cfH
def hx1:Mo:=kY hx0 0 1 2 10
def hx2:Mo:=kY hx1 1 1 2 5
def hx3:Mo:=kY hx2 1 4 2 0
def hx4:Mo:=kY hx3 0 2 2 7
def hx5:Mo:=kY hx4 0 3 2 0
def isE(e:Ev)(res own tok:Int):Bool:=e.res==res&&e.own==own&&e.tok==tok
def aHg:Bool:=isE (iC hx0 0 1 2 10) 1 1 256&&uD hx1 0 2&&isE (iC hx1 1 1 2 5) 2 1 256&&isE (iC hx2 1 4 2 0) 4 1 256&&isE (iC hx3 0 2 2 7) 1 1 256&&isE (iC hx4 0 3 2 0) 1 1 256&& !(uD hx5 0 2)&&isE (iC hx5 1 1 2 5) 1 2 1281
theorem aDb:aHg=true:=by decide+kernel
theorem uH{e:Ev}{r o t:Int}(h:isE e r o t=true):e.res=r∧e.own=o∧e.tok=t:=by
 unfold isE at h;simpa[and_assoc]using h
structure St where
 kind:Int
 x:Int
 y:Int
 z:Int
def pQ(x:Mo)(o:St):Int:=if 3≤o.kind∧o.kind≤5∧0<x.net.length then cI o.x x.net.length else -1
def fB(c:Cf)(x:Mo)(a:Int→Int→Int)(d:Int→Bool)(o:St):Mo:=
 if o.kind=1 then eY x (cI o.x c.clients) (1+cI o.y 4) (cI (o.y.tdiv 4) 4) (1+cI o.z 30)
 else if o.kind=2 then nB c x a d (cI o.x c.clients)
 else if o.kind=3 then cZ x (pQ x o)
 else if o.kind=4 then eL x (pQ x o)
 else if o.kind=5 then kS x (pQ x o)
 else if o.kind=6 then iO x (cI o.x (2*c.f+1)) (cI o.y 9) (cI o.z 30)
 else if o.kind=7 then eN x (cI o.x (2*c.f+1))
 else if o.kind=8 then iR x (cI o.x c.clients)
 else if o.kind=9 then eM x (cI o.x c.clients)
 else if o.kind=10 then fV 300 x else x
def fX(c:Cf)(x:Mo)(a:Int→Int→Int)(d:Int→Bool)(o:St):Int→Int→Int:=
 if o.kind=2 then nU c x a d (cI o.x c.clients)
 else if o.kind=8∧jQ x (cI o.x c.clients)=0∨o.kind=9∧fN x (cI o.x c.clients)=0 then iM a (cI o.x c.clients)else a
def fR(c:Cf)(x:Mo)(d:Int→Bool)(o:St):Int→Bool:=
 if o.kind=8∧jQ x (cI o.x c.clients)=0 then fun p=>if p=cI o.x c.clients then true else d p
 else if o.kind=9∧fN x (cI o.x c.clients)=0 then fun p=>if p=cI o.x c.clients then false else d p else d
structure KF(W:World)(B:Nat)(eb:Addr)(b:Nat)(own:Nat→Nat)(g:Nat)(c:Cf)(x:Mo)(a:Int→Int→Int)(d:Int→Bool)(N M:Int):Prop where
 kw:KW W B eb own g x N
 fl:FlB W b c g a d
 ob:own b=0
 bB:B≤b
 cf:x.cf=c
 ab:∀p q,0≤a p q∧a p q≤M
def KFTo(W:World)(B:Nat)(eb:Addr)(b:Nat)(own:Nat→Nat)(g:Nat)(c:Cf)(x:Mo)(a:Int→Int→Int)(d:Int→Bool)(N M:Int)(W':World):Prop:=
 ∃own',KF W' B eb b own' g c x a d N M∧Chg (fun k=>k=b∨own k≠0) W W'∧∀k,own' k≠0→own k≠0∨W.heap.size≤k
section
variable {W W' W1:World}{B:Nat}{eb:Addr}{b:Nat}{own:Nat→Nat}{g:Nat}{c:Cf}{x x':Mo}{a a':Int→Int→Int}{d d':Int→Bool}{N N' M M':Int}
theorem KF.flw(h:KF W B eb b own g c x a d N M):FlW W b own g c x a d:=⟨h.fl,h.kw.mo,h.ob⟩
theorem KF.chg0(h:KF W B eb b own g c x a d N M)(hc:Chg NoS W W'):KF W' B eb b own g c x a d N M:=
 ⟨h.kw.chg0 hc,h.fl.of_heap (hc.block _ h.fl.lt (fun e=>e)),h.ob,h.bB,h.cf,h.ab⟩
theorem KF.goF(h:KF W B eb b own g c x a d N M)(hm:FlTo W b own g c x' a' d' W')(hok:MoOk N' x')(hcf:x'.cf=x.cf)(hab:∀p q,0≤a' p q∧a' p q≤M'):KFTo W B eb b own g c x' a' d' N' M' W':=by
 obtain⟨o,f,i,j⟩:=hm;refine⟨o,⟨⟨f.mo,h.kw.gl.kept i (fun k hk=>?_),fun k hk=>?_,hok⟩,f.fl,f.ob,h.bB,hcf.trans h.cf,hab⟩,i,j⟩
 ·rcases hk with e|e
  ·rw[e];exact h.bB
  ·exact h.kw.ow k e
 ·rcases j k hk with e|e
  ·exact h.kw.ow k e
  ·exact bP h.kw.gl.hB e
theorem KF.go(h:KF W B eb b own g c x a d N M)(hm:MoTo W own g x' W')(hok:MoOk N' x')(hcf:x'.cf=x.cf):KFTo W B eb b own g c x' a d N' M W':=h.goF (h.flw.go hm) hok hcf h.ab
theorem KF.goK(h:KF W B eb b own g c x a d N M)(hk:KTo W B eb own g x' N' W')(hcf:x'.cf=x.cf):KFTo W B eb b own g c x' a d N' M W':=by
 obtain⟨o,e,f,i⟩:=hk;exact h.go ⟨o,e.mo,f,i⟩ e.ok hcf
theorem KFTo.mono(h:KFTo W B eb b own g c x a d N M W')(hN:N≤N')(hM:M≤M'):KFTo W B eb b own g c x a d N' M' W':=by
 obtain⟨o,e,f,i⟩:=h;exact⟨o,⟨⟨e.kw.mo,e.kw.gl,e.kw.ow,e.kw.ok.mono hN⟩,e.fl,e.ob,e.bB,e.cf,fun p q=>⟨(e.ab p q).1,Int.le_trans (e.ab p q).2 hM⟩⟩,f,i⟩
theorem KFTo.chg0(h:KFTo W B eb b own g c x a d N M W1)(hc:Chg NoS W1 W'):KFTo W B eb b own g c x a d N M W':=by
 obtain⟨o,f,i,j⟩:=h;exact⟨o,f.chg0 hc,i.trans hc (fun _ _ e=>e.elim),j⟩
theorem KFTo.before{W0:World}(h:KFTo W1 B eb b own g c x a d N M W')(hc:Chg NoS W0 W1):KFTo W0 B eb b own g c x a d N M W':=by
 obtain⟨o,f,i,j⟩:=h;exact⟨o,f,(hc.mono (T:=fun k=>k=b∨own k≠0) (fun _ _ e=>e.elim)).trans i (fun _ _ e=>e),fun k hk=>(j k hk).imp id fun e=>bP hc.size e⟩
theorem KFTo.fleet(h:KFTo W B eb b own g c x a d N M W1)(hb:FlB W' b c g a' d')(hc:Chg (fun k=>k=b) W1 W')(hab:∀p q,0≤a' p q∧a' p q≤M'):KFTo W B eb b own g c x a' d' N M' W':=by
 obtain⟨o,f,i,j⟩:=h;exact⟨o,⟨f.kw.kept hc (fun k hk e=>by subst e;exact hk f.ob) (fun k e=>by rw[e];exact f.bB),hb,f.ob,f.bB,f.cf,hab⟩,i.trans hc (fun k _ e=>Or.inl e),j⟩
theorem KFTo.trans(h:KFTo W B eb b own g c x a d N M W1)(k:∀own',KF W1 B eb b own' g c x a d N M→KFTo W1 B eb b own' g c x' a' d' N' M' W'):KFTo W B eb b own g c x' a' d' N' M' W':=by
 obtain⟨r,o,i,j⟩:=h;obtain⟨p,l,m,n⟩:=k r o;refine⟨p,l,i.trans m (fun q hq f=>?_),fun q hq=>?_⟩
 ·rcases f with f|f
  ·exact Or.inl f
  ·rcases j q f with e|e
   ·exact Or.inr e
   ·omega
 ·rcases n q hq with e|e
  ·exact j q e
  ·right;have:=i.size;omega
end
section
variable (x:Mo)
theorem sU(i k l t:Int):(eY x i k l t).cf=x.cf:=by unfold eY;split<;>rfl
theorem aDj(i:Int):(kC x i).cf=x.cf:=by unfold kC;split<;>rfl
theorem vU(i:Int):(iR x i).cf=x.cf:=by unfold iR;split<;>rfl
theorem qF(i:Int):(eM x i).cf=x.cf:=by unfold eM;split<;>rfl
theorem sX(i:Int):(eL x i).cf=x.cf:=by unfold eL;split<;>rfl
theorem aAV(i:Int):(kS x i).cf=x.cf:=by unfold kS;split<;>rfl
theorem vY(i n q:Int):(iO x i n q).cf=x.cf:=by unfold iO;split<;>rfl
theorem pZ(i:Int):(eN x i).cf=x.cf:=by unfold eN;split<;>rfl
theorem kJ(i:Int):(cZ x i).cf=x.cf:=by
 unfold cZ;split
 ·split
  ·exact(aFo _ _ _ _).trans (sX x i)
  ·exact(aFr _ _ _ _).trans (sX x i)
 ·rfl
end
theorem aAf:∀(n:Nat) (x:Mo),(fV n x).cf=x.cf
 |0,x=>rfl
 |n+1,x=>by
  unfold fV;split
  ·rfl
  ·exact(aAf n _).trans (kJ x 0)
structure mW(o:St):Prop where
 x1: -9223372036854775808≤o.x
 x2:o.x≤9223372036854775807
 y1: -9223372036854775808≤o.y
 y2:o.y≤9223372036854775807
 z1: -9223372036854775808≤o.z
 z2:o.z≤9223372036854775807
theorem aFe(c:Cf)(x:Mo)(a:Int→Int→Int)(d:Int→Bool)(i:Int):(nB c x a d i).cf=x.cf:=by
 unfold nB;split
 ·rfl
 ·exact aDj x i
theorem aFZ{N:Int}{x:Mo}(h:MoOk N x)(c:Cf)(a:Int→Int→Int)(d:Int→Bool)(i:Int):MoOk (N+6) (nB c x a d i):=by
 unfold nB;split
 ·exact h.mono (by omega)
 ·exact h.tick i
theorem aF3{c:Cf}{a:Int→Int→Int}{M:Int}(l1:1≤c.clients)(l2:c.clients≤4)(hd:0≤c.drift)(h:∀p q,0≤a p q∧a p q≤M)(x:Mo)(d:Int→Bool)(i:Int):∀p q,0≤nU c x a d i p q∧nU c x a d i p q≤M+10:=fun p q=>by
 have h1:=h p q;have h2:=h p i;have h3:=h i q;unfold nU;split
 ·omega
 ·split
  ·omega
  ·unfold jP;split
   ·omega
   ·split<;>omega
theorem aHP{y:Int}(h1: -9223372036854775808≤y)(h2:y≤9223372036854775807): -9223372036854775808≤y.tdiv 4∧y.tdiv 4≤9223372036854775807:=by
 by_cases h:0≤y
 ·rw[Int.tdiv_eq_ediv_of_nonneg h];omega
 ·have e:y.tdiv 4= -((-y).tdiv 4):=by rw[Int.neg_tdiv,Int.neg_neg]
  rw[e,Int.tdiv_eq_ediv_of_nonneg (by omega)];omega
end Go.Proofs.YtbbdgokdfhdpiaaGreatDoor
