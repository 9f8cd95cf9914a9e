/- A part of the proof: PMor3, PMor5, KpRoom, Saf2, Saf3. -/
import Derived.Test.YtbbdgokdfhdpiaaGreatDoorD8
import Derived.Test.YtbbdgokdfhdpiaaGreatDoorD17
namespace Go.Proofs.YtbbdgokdfhdpiaaGreatDoor
set_option linter.all false
set_option maxRecDepth 100000
set_option maxHeartbeats 40000000
open Go.Proofs.Tryz Go.RowKit
theorem zB(W:World)(own:Nat→Nat)(g:Nat)(x:Mo)(N i:Int)(l:Int)(h:Moor W own g x)(hok:MoOk N x):
 Calls prog 16 #[.pointer (some ⟨g,0,none⟩),.int .i64 i,.int .i64 l] W fun r W'=>r= .returned (.bool (vQ x i l))∧Below W.heap.size W W':=by
 obtain⟨Q,J,K,I,h⟩:=h;have E:=hok.nc;have F:=dO hok.conf;obtain⟨P,L,s,_⟩:=h.cells;obtain⟨p,m,rfl,c⟩:=mD h.rcv;have A:W.cell? ⟨g,1,none⟩=some (.slice p x.cls.length m):=cC s 1 _ rfl;have o:=cB (lK W g i p x.cls.length m (by omega) A);have H:=cB h;have C:=cB c;clear s c;unfold vQ;by_cases d:dL i x.cls.length=true
 ·rw[d,Bool.true_and];rw[d]at o;obtain⟨G,M⟩:=(dK _ _).1 d;obtain⟨n,q⟩:=hok.cl d;obtain⟨a,f⟩:=oI d;obtain⟨j,rfl⟩:∃j:Nat,i=j:=⟨i.toNat,by omega⟩;have t:j<x.cls.length:=by omega
  obtain⟨k,rfl,O⟩:=C.out j t;have B:((j:Int).toNat)=j:=by omega
  simp only[B]at f n;obtain⟨w,z,u,wt,y,b⟩:=h.cls j t;rw[←f]at b;have D:=cB (aFc W _ _ g x.cf (clM x j) w z u wt y l b);clear n q f a h hok b;go_enter func16,ntmps16;go_wp2_with (first|(go_at_call 47;refine o.out.mono ?_;rintro e v ⟨rfl,rfl⟩)|(go_at_call 48;refine D.out.mono ?_;rintro r R ⟨rfl,rfl⟩));all_goals
   go_ret;exact⟨by simp_all,by first|exact aJ _ _|exact(aJ _ _).drew⟩
 ·have a:dL i x.cls.length=false:=by simpa using d
  rw[a,Bool.false_and];rw[a]at o;clear h hok d a;go_enter func16,ntmps16;go_wp2_with (go_at_call 47;refine o.out.mono ?_;rintro e v ⟨rfl,rfl⟩);go_ret;exact⟨rfl,aJ _ _⟩
theorem zK{x:Mo}{N:Int}(hok:MoOk N x){i:Int}(hi:dL i x.cls.length=true)(hN:N≤90000000000):xL (clM x i):=by
 have c:=hok.nc;have b:=dO hok.conf;obtain⟨a,d⟩:=hok.cl hi;exact⟨by rw[a.core.num];omega,by rw[a.core.num];omega,a.core.i1,a.core.i2,a.core.c1,by have:=a.core.c2;omega,a.core.r1,a.core.r2⟩
theorem aAw(x:Mo)(i kk l t:Int):lL x i kk l t=(!(dL i x.cls.length)|| !(wiB kk 1 4)|| !(wiB l 0 3)||(decide (kk≤2)&& !(wiB t 1 1000))):=by
 unfold lL wiB;simp only[Bool.decide_and]
theorem yP(W:World)(own:Nat→Nat)(g:Nat)(x:Mo)(N i kk l t:Int)(h:Moor W own g x)(hok:MoOk N x)(hN:N≤90000000000):
 Calls prog 37 #[.pointer (some ⟨g,0,none⟩),.int .i64 i,.int .i64 kk,.int .i64 l,.int .i64 t] W fun r W'=>r= .returned (.int .i64 (qB x i kk l t))∧MoTo W own g (fO x i kk l t) W':=by
 obtain⟨av,cv,bA,bC,h⟩:=h;have b0:=hok.nc;have a0:=dO hok.conf;obtain⟨nv,tv,hb,_⟩:=h.cells;obtain⟨p,E,rfl,R⟩:=mD h.rcv;have c1:W.cell? ⟨g,1,none⟩=some (.slice p x.cls.length E):=cC hb 1 _ rfl;have J:=cB (lK W g i p x.cls.length E (by omega) c1);have H:=cB h;have HP:=cB R;have HB:=cB hb;clear hb R;unfold qB fO;rw[aAw];by_cases A:dL i x.cls.length=true
 ·rw[A]at J⊢;by_cases K:wiB kk 1 4=true
  ·rw[K];by_cases M:wiB l 0 3=true
   ·rw[M];have L:1≤kk∧kk≤4:=by simpa[wiB]using K
    have Y:0≤l∧l≤3:=by simpa[wiB]using M
    obtain⟨h0,h1⟩:=(dK _ _).1 A;obtain⟨a7,O⟩:=oI A;have a3:=zK hok A hN;obtain⟨j,rfl⟩:∃j:Nat,i=j:=⟨i.toNat,by omega⟩;have I:j<x.cls.length:=by omega
    obtain⟨k,rfl,ck⟩:=HP.out j I;have T:=h.sys j I;have ej:((j:Int).toNat)=j:=by omega
    simp only[ej]at O;rw[←O]at T;have w:=cB a0;have Z:=cB a3;have Q:clM x (j:Int)=x.cls[j]'I:=O;have U:=cB Q;have EJ:=cB ej;have V:=cB (show(x.net.length:Int)≤90000000000 by have:=hok.nl;omega);have X:=cB (show(x.tr.length:Int)≤90000000000 by have:=hok.tl;omega);clear a0 a3 Q O ej a7 T hok h b0;by_cases o:kk≤2
    ·have u:(decide (kk≤2))=true:=by simpa using o
     rw[u];have z:uP kk t=t:=by unfold uP;rw[if_pos o]
     by_cases ht:wiB t 1 1000=true
     ·have a8:1≤t∧t≤1000:=by simpa[wiB]using ht
      rw[ht];simp only[Bool.not_true,Bool.or_self,Bool.and_false,aU,if_false];rw[z];have HK:=cB L;have G:kk=1∨kk=2:=by omega
      clear u o z A Y L;have P:=cB a8;rcases G with y|y
      ·subst y;go_enter func37,ntmps37;go_wp2_with (first|(go_at_call 47;refine J.out.mono ?_;rintro e s ⟨rfl,b⟩;have a:=b.symm;subst a;clear b)|(go_at_call 80;refine(hU _ _ _ _).mono ?_;rintro e s ⟨rfl,b⟩;have a:=b.symm;subst a;clear b));generalize d:W.alloc (.cells #[.int .i64 1,.int .i64 l,.int .i64 t] 68)=W1;have n:W1.heap[W.heap.size]?=some (.cells #[.int .i64 1,.int .i64 l,.int .i64 t] 68 (0,0)):=by rw[←d];exact aA W _
       have c:Chg (fun q=>W.heap.size≤q) W W1:=by rw[←d];exact(Chg.refl _ _).alloc _
       have m:=H.out.kept c (fun q hq h=>by have:=H.out.lt q hq;omega);have D:=H.out.lt k (by rw[H.out.cvb k rfl];decide);have a2:W1.cell? ⟨g,1,none⟩=some (.slice (some ⟨k,0,none⟩) x.cls.length E):=cC (c.kept HB.out (by have:=cW HB.out;omega)) 1 _ rfl;have a1:=(aW (c.block k D (by omega))).trans ck;have HL:=cB (cF (W:=W1.drew) n);have f:=m.sys j I;rw[←U.out]at f;have HT:=cB (wH W1.drew _ _ _ g x.cf _ _ (clM x j) x.net x.tr 1 l t f.drew w.out.1.1 w.out.1.2 Z.out (by have:=P.out.1;omega) (P.out.2) (by have:=V.out;omega) (by have:=X.out;omega));have F:=cB m;have C:=cB c;clear n c m f d ck c1;refine dJ [0,0,0,1,0,0,1,1] (by kernel_rfl) (fun _ _ _ _=>rfl) ?_;simp only[cL,cK];iterate 7 (apply sB rfl rfl;·(intro x h;(try cases h rfl);go_simp;with_reducible rfl))
       try simp only[pA]
       refine cM (v:=opV 1 l t) rfl (fun x hx=>cG 68 _ rfl ⟨W.heap.size,0,none⟩ rfl [.int .i64 1,.int .i64 l,.int .i64 t] _ (by subst hx;exact HL.out) underlying68 rfl (by kernel_rfl)) ?_;refine cD ?_;(try simp only[pA]);go_wp2_with (go_at_call 81;refine HT.out.mono ?_;rintro r W5 ⟨rfl,k1⟩);go_ret;refine⟨rfl,?_⟩;have B:=F.out.clientTo j I (After.drew k1);have e:iG x (j:Int) (iV (clM x j) 1 l t) (iI x.cf (clM x j) 1 l t)={x with cls:=x.cls.set j (iV (clM x j) 1 l t),net:=x.net++cJ (iI x.cf (clM x j) 1 l t),tr:=x.tr++iI x.cf (clM x j) 1 l t}:=by unfold iG;rw[EJ.out]
       rw[e];exact MoTo.trans (own1:=own) (C.out.mono (fun q hq h=>by omega)) (fun q h=>Or.inl h) B
      ·subst y;go_enter func37,ntmps37;go_wp2_with (first|(go_at_call 47;refine J.out.mono ?_;rintro e s ⟨rfl,b⟩;have a:=b.symm;subst a;clear b)|(go_at_call 80;refine(hU _ _ _ _).mono ?_;rintro e s ⟨rfl,b⟩;have a:=b.symm;subst a;clear b));generalize d:W.alloc (.cells #[.int .i64 2,.int .i64 l,.int .i64 t] 68)=W1;have n:W1.heap[W.heap.size]?=some (.cells #[.int .i64 2,.int .i64 l,.int .i64 t] 68 (0,0)):=by rw[←d];exact aA W _
       have c:Chg (fun q=>W.heap.size≤q) W W1:=by rw[←d];exact(Chg.refl _ _).alloc _
       have m:=H.out.kept c (fun q hq h=>by have:=H.out.lt q hq;omega);have D:=H.out.lt k (by rw[H.out.cvb k rfl];decide);have a2:W1.cell? ⟨g,1,none⟩=some (.slice (some ⟨k,0,none⟩) x.cls.length E):=cC (c.kept HB.out (by have:=cW HB.out;omega)) 1 _ rfl;have a1:=(aW (c.block k D (by omega))).trans ck;have HL:=cB (cF (W:=W1.drew) n);have f:=m.sys j I;rw[←U.out]at f;have HT:=cB (wH W1.drew _ _ _ g x.cf _ _ (clM x j) x.net x.tr 2 l t f.drew w.out.1.1 w.out.1.2 Z.out (by have:=P.out.1;omega) (P.out.2) (by have:=V.out;omega) (by have:=X.out;omega));have F:=cB m;have C:=cB c;clear n c m f d ck c1;refine dJ [0,0,0,1,0,0,1,1] (by kernel_rfl) (fun _ _ _ _=>rfl) ?_;simp only[cL,cK];iterate 7 (apply sB rfl rfl;·(intro x h;(try cases h rfl);go_simp;with_reducible rfl))
       try simp only[pA]
       refine cM (v:=opV 2 l t) rfl (fun x hx=>cG 68 _ rfl ⟨W.heap.size,0,none⟩ rfl [.int .i64 2,.int .i64 l,.int .i64 t] _ (by subst hx;exact HL.out) underlying68 rfl (by kernel_rfl)) ?_;refine cD ?_;(try simp only[pA]);go_wp2_with (go_at_call 81;refine HT.out.mono ?_;rintro r W5 ⟨rfl,k1⟩);go_ret;refine⟨rfl,?_⟩;have B:=F.out.clientTo j I (After.drew k1);have e:iG x (j:Int) (iV (clM x j) 2 l t) (iI x.cf (clM x j) 2 l t)={x with cls:=x.cls.set j (iV (clM x j) 2 l t),net:=x.net++cJ (iI x.cf (clM x j) 2 l t),tr:=x.tr++iI x.cf (clM x j) 2 l t}:=by unfold iG;rw[EJ.out]
       rw[e];exact MoTo.trans (own1:=own) (C.out.mono (fun q hq h=>by omega)) (fun q h=>Or.inl h) B
     ·have a6:wiB t 1 1000=false:=by simpa using ht
      rw[a6];simp only[Bool.not_true,Bool.not_false,Bool.or_self,Bool.false_or,Bool.and_true,Bool.or_true,if_true];clear u z A Y ht;have G:kk=1∨kk=2:=by omega
      rcases G with y|y;all_goals
       subst y;clear o L;go_enter func37,ntmps37;go_wp2_with (first|(go_at_call 47;refine J.out.mono ?_;rintro e s ⟨rfl,b⟩;have a:=b.symm;subst a;clear b)|(go_at_call 80;refine(hU _ _ _ _).mono ?_;rintro e s ⟨rfl,b⟩;have a:=b.symm;subst a;clear b));go_ret;exact⟨rfl,MoTo.kept (S:=fun q=>W.heap.size≤q) ⟨_,_,bA,bC,H.out⟩ (by first|exact Chg.refl _ _|exact(Chg.refl _ _).alloc _) (fun q hq h=>by have:=H.out.lt q hq;omega) (fun q hq h=>by omega)⟩
    ·have u:(decide (kk≤2))=false:=by simpa using o
     have e1:(kk==1)=false:=by rw[beq_eq_false_iff_ne];omega
     have e2:(kk==2)=false:=by rw[beq_eq_false_iff_ne];omega
     have z:uP kk t=0:=by unfold uP;rw[if_neg o]
     rw[u];simp only[Bool.not_true,Bool.or_self,Bool.false_and,aU,if_false];rw[z];clear u o z A Y L;go_enter func37,ntmps37;go_wp2_with (first|(go_at_call 47;refine J.out.mono ?_;rintro e s ⟨rfl,b⟩;have a:=b.symm;subst a;clear b)|(go_at_call 80;refine(hU _ _ _ _).mono ?_;rintro e s ⟨rfl,b⟩;have a:=b.symm;subst a;clear b));generalize d:W.alloc (.cells #[.int .i64 kk,.int .i64 l,.int .i64 0] 68)=W1;have n:W1.heap[W.heap.size]?=some (.cells #[.int .i64 kk,.int .i64 l,.int .i64 0] 68 (0,0)):=by rw[←d];exact aA W _
     have c:Chg (fun q=>W.heap.size≤q) W W1:=by rw[←d];exact(Chg.refl _ _).alloc _
     have m:=H.out.kept c (fun q hq h=>by have:=H.out.lt q hq;omega);have D:=H.out.lt k (by rw[H.out.cvb k rfl];decide);have a2:W1.cell? ⟨g,1,none⟩=some (.slice (some ⟨k,0,none⟩) x.cls.length E):=cC (c.kept HB.out (by have:=cW HB.out;omega)) 1 _ rfl;have a1:=(aW (c.block k D (by omega))).trans ck;have HL:=cB (cF (W:=W1.drew) n);have f:=m.sys j I;rw[←U.out]at f;have HT:=cB (wH W1.drew _ _ _ g x.cf _ _ (clM x j) x.net x.tr kk l 0 f.drew w.out.1.1 w.out.1.2 Z.out (aL 0) (by decide) (by have:=V.out;omega) (by have:=X.out;omega));have F:=cB m;have C:=cB c;clear n c m f d ck c1;refine dJ [0,0,0,1,0,0,1,1] (by kernel_rfl) (fun _ _ _ _=>rfl) ?_;simp only[cL,cK];iterate 7 (apply sB rfl rfl;·(intro x h;(try cases h rfl);go_simp;with_reducible rfl))
     try simp only[pA]
     refine cM (v:=opV kk l 0) rfl (fun x hx=>cG 68 _ rfl ⟨W.heap.size,0,none⟩ rfl [.int .i64 kk,.int .i64 l,.int .i64 0] _ (by subst hx;exact HL.out) underlying68 rfl (by kernel_rfl)) ?_;refine cD ?_;(try simp only[pA]);go_wp2_with (go_at_call 81;refine HT.out.mono ?_;rintro r W5 ⟨rfl,k1⟩);go_ret;refine⟨rfl,?_⟩;have B:=F.out.clientTo j I (After.drew k1);have e:iG x (j:Int) (iV (clM x j) kk l 0) (iI x.cf (clM x j) kk l 0)={x with cls:=x.cls.set j (iV (clM x j) kk l 0),net:=x.net++cJ (iI x.cf (clM x j) kk l 0),tr:=x.tr++iI x.cf (clM x j) kk l 0}:=by unfold iG;rw[EJ.out]
     rw[e];exact MoTo.trans (own1:=own) (C.out.mono (fun q hq h=>by omega)) (fun q h=>Or.inl h) B
   ·have a4:wiB l 0 3=false:=by simpa using M
    rw[a4];simp only[Bool.not_true,Bool.not_false,Bool.or_self,Bool.false_or,Bool.or_true,Bool.true_or,if_true];clear A M hok h;go_enter func37,ntmps37;go_wp2_with (first|(go_at_call 47;refine J.out.mono ?_;rintro e s ⟨rfl,b⟩;have a:=b.symm;subst a;clear b)|(go_at_call 80;refine(hU _ _ _ _).mono ?_;rintro e s ⟨rfl,b⟩;have a:=b.symm;subst a;clear b));go_ret;exact⟨rfl,MoTo.of ⟨_,_,bA,bC,H.out⟩⟩
  ·have a5:wiB kk 1 4=false:=by simpa using K
   rw[a5];simp only[Bool.not_true,Bool.not_false,Bool.or_self,Bool.false_or,Bool.or_true,Bool.true_or,if_true];clear A K hok h;go_enter func37,ntmps37;go_wp2_with (first|(go_at_call 47;refine J.out.mono ?_;rintro e s ⟨rfl,b⟩;have a:=b.symm;subst a;clear b)|(go_at_call 80;refine(hU _ _ _ _).mono ?_;rintro e s ⟨rfl,b⟩;have a:=b.symm;subst a;clear b));go_ret;exact⟨rfl,MoTo.of ⟨_,_,bA,bC,H.out⟩⟩
 ·have a9:dL i x.cls.length=false:=by simpa using A
  rw[a9]at J⊢;simp only[Bool.not_true,Bool.not_false,Bool.or_self,Bool.false_or,Bool.or_true,Bool.true_or,if_true];clear A hok h;go_enter func37,ntmps37;go_wp2_with (first|(go_at_call 47;refine J.out.mono ?_;rintro e s ⟨rfl,b⟩;have a:=b.symm;subst a;clear b)|(go_at_call 80;refine(hU _ _ _ _).mono ?_;rintro e s ⟨rfl,b⟩;have a:=b.symm;subst a;clear b));go_ret;exact⟨rfl,MoTo.of ⟨_,_,bA,bC,H.out⟩⟩
section
variable (W:World) (own:Nat→Nat) (g:Nat) (x:Mo)
theorem aAq(N:Int)(h:Moor W own g x)(hok:MoOk N x)(hN:N≤90000000000):
 Calls prog 36 #[.pointer (some ⟨g,0,none⟩)] W fun r W'=>∃v,r= .returned v∧W'.ownsRow W.heap.size 66 10 v x.net.length (cQ mgL x.net)∧Below W.heap.size W W':=by
 obtain⟨F,B,C,A,h⟩:=h;obtain⟨p,D,i,a,d,y,z,s⟩:=h.cells;have E:W.cell? ⟨g,2,none⟩=some p:=cC i 2 _ rfl;have w:=hok.nl;rcases a.2 with⟨rfl,m⟩|⟨k,f,t,rfl,q⟩
 ·have c:=cB (aBZ W);go_enter func36,ntmps36;go_wp2_with (go_at_call 79;refine c.out.mono ?_;rintro e o ⟨rfl,rfl⟩);go_ret;exact⟨_,rfl,⟨a.1,Or.inl ⟨rfl,m⟩⟩,aJ _ _⟩
 ·have c:=cB (aB7 W ⟨k,0,none⟩ f x.net (by omega) (fun j u hj=>by
   have e:(⟨k,0,none⟩:Addr).add j=⟨k,j,none⟩:=by rw[Addr.add_lit,Nat.zero_add]
   have b:=(aF.1 hj).1;rw[eL mgL (k:=10) (fun _=>rfl)]at b;rw[e,a.cellAt j b];exact hj))
  clear q i a d h;go_enter func36,ntmps36;go_wp2_with (go_at_call 79;refine c.out.mono ?_;rintro e o ⟨v,rfl,n,l⟩);go_ret;exact⟨v,rfl,n,l⟩
theorem aAo(N n:Int)(h:Moor W own g x)(hok:MoOk N x)(hN:N≤90000000000):
 Calls prog 17 #[.pointer (some ⟨g,0,none⟩),.int .i64 n] W fun r W'=>∃v,r= .returned v∧W'.ownsRow W.heap.size 70 19 v (vR x n).length (cQ evL (vR x n))∧Below W.heap.size W W':=by
 obtain⟨av,U,V,S,h⟩:=h;obtain⟨Z,H,z,o,c,P,Q,M⟩:=h.cells;have c3:W.cell? ⟨g,3,none⟩=some H:=cC z 3 _ rfl;have p:=hok.tl;have s:(0:Int)≤min (max n 0) (x.tr.length:Int):=by omega
 obtain⟨k,D⟩:∃k:Nat,min (max n 0) (x.tr.length:Int)=k:=⟨(min (max n 0) (x.tr.length:Int)).toNat,by omega⟩;have f:k≤x.tr.length:=by omega
 have B:vR x n=x.tr.drop k:=by unfold vR;rw[D];rfl
 rw[B];rcases c.2 with⟨rfl,G⟩|⟨q,b,O,rfl,y⟩
 ·have w:=cB (aCS W.drew);have t:k=0:=by omega
  subst t;have K:x.tr=[]:=List.length_eq_zero_iff.1 G;have F:min (max n 0) (0:Int)=0:=by omega
  rw[K];clear D s p f B h hok o c z;go_enter func17,ntmps17;go_wp2_with fail;refine dJ [0,0,0,1,0,0,0,0,0,1,1,0,0] (by kernel_rfl) (fun _ _ _ _=>rfl) ?_;simp only[cL,cK];iterate 13 (apply sB rfl rfl;·(intro x h;(try cases h rfl);go_simp;with_reducible rfl))
  refine cD ?_;try simp only[pA]
  go_wp2_with (go_at_call 49;refine w.out.mono ?_;rintro e J ⟨rfl,rfl⟩);go_ret;exact⟨_,rfl,⟨rfl,Or.inl ⟨rfl,rfl⟩⟩,(aJ _ _).drew⟩
 ·have X:=y.2.1;have C:x.tr.length≤b:=y.2.2.1;have m:=y.2.2.2.1;have d:(x.tr.drop k).length=x.tr.length-k:=aV;obtain⟨A,Y,a⟩:∃A:Addr,(if b=k then(some ⟨q,0,none⟩:Option Addr)else some ⟨q,k*19,none⟩)=some A∧∀j u,(cQ evL (x.tr.drop k))[j]?=some u→W.drew.cell? (A.add j)=some u:=by
   by_cases E:b=k
   ·refine⟨⟨q,0,none⟩,by rw[if_pos E],fun j u hj=>?_⟩;rw[List.drop_eq_nil_of_le (by omega)]at hj;cases hj
   ·refine⟨⟨q,k*19,none⟩,by rw[if_neg E],fun j u hj=>?_⟩;rw[Addr.add_lit];have e:(cQ evL x.tr)[k*19+j]?=some u:=by
     have L:cQ evL x.tr=cQ evL (x.tr.take k)++cQ evL (x.tr.drop k):=by
      unfold cQ;rw[←List.flatMap_append,bX]
     rw[L,bK (by rw[eL evL (k:=19) (fun _=>rfl),bD];omega),eL evL (k:=19) (fun _=>rfl),bD,show k*19+j-min k x.tr.length*19=j by rw[Nat.min_eq_left f];omega];exact hj
    have l:=(aF.1 e).1;rw[eL evL (k:=19) (fun _=>rfl)]at l;show W.cell? ⟨q,k*19+j,none⟩=some u;rw[c.cellAt _ l];exact e
  have w:=cB (aCA W.drew A (b-k) (x.tr.drop k) (by omega) a);rw[d]at w⊢;have R:(0:Int)≤(k:Int):=by omega
  have b2:(k:Int)≤(x.tr.length:Int):=by omega
  have T:(x.tr.length:Int)≤(b:Int):=by omega
  have b4:(b:Int)≤9223372036854775807:=by unfold maxLen at m;omega
  clear s p B y h hok o c z a d C m f;go_enter func17,ntmps17;go_wp2_with fail;refine dJ [0,0,0,1,0,0,0,0,0,1,1,0,0] (by kernel_rfl) (fun _ _ _ _=>rfl) ?_;simp only[cL,cK];iterate 13 (apply sB rfl rfl;·(intro x h;(try cases h rfl);go_simp;with_reducible rfl))
  refine cD ?_;try simp only[pA]
  go_wp2_with (go_at_call 49;refine w.out.mono ?_;rintro e J ⟨v,rfl,I,i⟩);go_ret;exact⟨v,rfl,I,⟨i.os,i.tape,i.output,i.size,i.block⟩⟩
end
def aCv(f:Cf):Prop:=f.room=25*(f.compact+10)∧2≤f.compact
structure nO(f:Cf)(a:Ac):Prop where
 st:a.st≠1
 len:(a.dk.log.length:Int)≤25*(max f.compact 4+1)
 up:a.st=0→(a.dk.log.length:Int)≤25*max f.compact 4
theorem aHf(rs:List Rw)(n:Nat):(gQ rs n).length≤n:=by
 have:=List.length_filterMap_le (dS rs) (List.range n);rw[List.length_range]at this;exact this
theorem aID(L:List Int):25*(dU L).length≤L.length:=by
 have a:=congrArg List.length (aAb L);rw[yR _ (aAf L),bD]at a;omega
section
variable {f:Cf}
theorem aF7(num:Int):nO f (rX f num):=
 ⟨by show(0:Int)≠1;decide,by show((0:Nat):Int)≤_;omega,fun _=>by show((0:Nat):Int)≤_;omega⟩
theorem vE(hr:aCv f){a:Ac}(hd:DOk f a.dk)(hnew:a.dk.new=none)(hrows:∀r ∈ a.rows,RwOk r)(hl:(a.dk.log.length:Int)≤25*(max f.compact 4+1)):
 ((dA a).2= .none∧((dA a).1.dk.log.length:Int)≤100∧(dA a).1.st=a.st)∨∃q,(dA a).2=(.some (.some q))∧(crashA (dA a).1 q).dk.log=a.dk.log:=by
 obtain⟨m,k,l⟩:=qA hrows;have o:=aHf a.rows 4;have j:=hr.1;have h:=hr.2;unfold dA;rcases tE hd hnew (gU a.rows)with⟨g,b,_,_⟩|⟨g,b,_,d⟩|⟨e,q,b,n,i,c⟩
 ·rw[b];refine Or.inl ⟨rfl,?_,rfl⟩;show((gU a.rows).length:Int)≤100;omega
 ·exfalso;omega
 ·rw[b];refine Or.inr ⟨q,rfl,?_⟩;show(gC e q).log=_;rw[c]
theorem aE4(hr:aCv f){i:Nat}{a:Ac}(h:AOk f i a)(hm:nO f a){m:Mg}(hmm:MOk f m)(hA:m.kind=1∨m.kind=3):nO f (jJ a m):=by
 have j:=hm.st;have N:=hr.1;have I:=hr.2;by_cases d:a.st=0
 ·have U:=hm.up d;obtain⟨z,M⟩:=aBl h m.lock hmm.l1 hmm.l2;unfold jJ;rw[if_neg (by omega)];unfold iW;dsimp only;by_cases F:nN m (rY a m.lock)=true
  ·rw[if_pos F];obtain⟨x,A⟩:=vV hmm z;generalize V:fA m (rY a m.lock)=R at x A⊢;have s:=lT x.ok;have g:=vW h d x;unfold fY at g⊢;rcases zW h.dk (h.new (by omega)) (h.full d) x with⟨o,r,D⟩|⟨o,r,D⟩|⟨k1,q,r,Q,K,D,p,S,J,v⟩
   ·rw[r]at g⊢;dsimp only at g⊢;have c:AOk f i {a with dk:={a.dk with fail:=o,log:=a.dk.log++dR R,lsyn:=(a.dk.log++dR R).length},rows:=a.rows++[R]}:=g;have w:((a.dk.log++dR R).length:Int)=a.dk.log.length+25:=by rw[aD,s];omega
    generalize u:({a with dk:={a.dk with fail:=o,log:=a.dk.log++dR R,lsyn:=(a.dk.log++dR R).length},rows:=a.rows++[R]}:Ac)=a1 at c⊢;have j:a1.st=0:=by rw[←u];exact d
    have O:(a1.dk.log.length:Int)=a.dk.log.length+25:=by rw[←u];exact w
    have C:a1.compact=f.compact:=c.comp;by_cases b:mJ a1=true
    ·rw[if_pos b];have H:=vE hr c.dk (c.new (by omega)) c.rows (by omega);rcases H with⟨k,n,E⟩|⟨q,k,n⟩
     ·generalize dA a1=cp at k n E;obtain⟨y,B⟩:=cp;dsimp only at k n E⊢;subst k;show nO f y;exact⟨by omega,by omega,fun _=>by omega⟩
     ·generalize dA a1=cp at k n;obtain⟨y,B⟩:=cp;dsimp only at k n⊢;subst k;show nO f (crashA y q);refine⟨by show(2:Int)≠1;decide,by rw[n];omega,fun h0=>absurd (show(2:Int)=0 from h0) (by decide)⟩
    ·rw[if_neg b];show nO f a1;have T:=c.full j;unfold mJ at b;rw[C]at b;simp only[aM]at b;refine⟨by omega,by omega,fun _=>by omega⟩
   ·exfalso;have:=h.dk.len;have P:=h.dk.room;have l:¬a.dk.room<(a.dk.log.length:Int)+((25:Nat):Int):=by omega
    have t:(lZ a.dk (dR R)).2≠(.some .none):=by
     unfold lZ dQ dH;cases h1:fR a.dk with
     |none=>simp[iF]
     |some k1=>
      obtain⟨⟨o,rfl⟩,L⟩:=jX h1 h.dk.fail;dsimp only;have G:jO {a.dk with fail:=o}=a.dk.log.length:=by unfold jO hP;dsimp only;rw[h.new (by omega)];simp
      rw[G,s,if_neg l];dsimp only[iF];cases fR (kD {a.dk with fail:=o} (dR R))<;>simp
    rw[r]at t;exact t rfl
   ·rw[r];dsimp only;show nO f (crashA {a with dk:=k1} q);have e:(crashA {a with dk:=k1} q).dk.log=a.dk.log++p:=v;refine⟨by show(2:Int)≠1;decide,?_,fun h0=>absurd (show(2:Int)=0 from h0) (by decide)⟩;rw[e,aD];omega
  ·rw[if_neg F];exact hm
 ·unfold jJ;rw[if_pos d];exact hm
theorem aFQ{i:Nat}{a:Ac}(h:AOk f i a)(hm:nO f a){n q:Int}(hq:0≤q):nO f (qM a n q):=by
 unfold qM;split
 ·exact hm
 ·split
  ·refine⟨by show(2:Int)≠1;decide,?_,fun h0=>absurd (show(2:Int)=0 from h0) (by decide)⟩;show((gC a.dk q).log.length:Int)≤_;rw[(nE h.dk hq).2];exact hm.len
  ·exact⟨hm.st,hm.len,hm.up⟩
theorem aDe(hr:aCv f){i:Nat}{a:Ac}(h:AOk f i a)(hm:nO f a):nO f (gE a)∧(gE a).st=0:=by
 have e:=hm.st;by_cases g:a.st=0
 ·unfold gE;rw[if_pos g];exact⟨hm,g⟩
 ·have s:a.st=2:=by have:=h.st;omega
  rw[yE a g,if_neg e];have b:=wE (f:=f) {a with st:=0} h.dk (h.new (by omega)) (h.nofail s);unfold fF at b⊢;dsimp only at b⊢;have p:=hm.len;have m:=h.comp;split
  ·rename_i d;rw[if_pos d]at b;have o:=vE hr (a:={a with st:=0,rows:=dU a.dk.log}) h.dk (h.new (by omega)) h.dk.rows p;rcases o with⟨c,j,k⟩|⟨q,c,j⟩
   ·generalize dA {a with st:=0,rows:=dU a.dk.log}=cp at c j k;obtain⟨l,u⟩:=cp;dsimp only at c j k⊢;subst c;show nO f l∧l.st=0;have n:l.st=0:=k;exact⟨⟨by omega,by omega,fun _=>by omega⟩,n⟩
   ·exact absurd c (b q)
  ·rename_i d;show nO f {a with st:=0,rows:=dU a.dk.log}∧(0:Int)=0;refine⟨⟨by show(0:Int)≠1;decide,p,fun _=>?_⟩,rfl⟩;unfold mJ at d;simp only[aM,not_or]at d;show(a.dk.log.length:Int)≤_;obtain⟨t,r⟩:=d;rw[m]at r;have v:¬25*((dU a.dk.log).length:Int)<(a.dk.log.length:Int):=t;have w:¬f.compact<(a.dk.log.length:Int) / 25:=r;have:=aID a.dk.log;omega
end
structure MoRoom(x:Mo):Prop where
 rich:aCv x.cf
 all:∀a ∈ x.acs,nO x.cf a
section
variable {N:Int}{x:Mo}
theorem MoRoom.new{f:Cf}(hr:aCv f):MoRoom (lI f):=⟨hr,fun a ha=>by
 obtain⟨i,_,rfl⟩:=bN.1 (show a ∈ (List.range (gB f)).map (fun (i:Nat)=>rX f i)from ha);exact aF7 _⟩
theorem aBM{i:Int}(hi:dL i x.acs.length=true):acM x i ∈ x.acs:=by
 obtain⟨a,e⟩:=pV hi;rw[e];exact bF a
theorem MoRoom.same{y:Mo}(h:MoRoom x)(h1:y.acs=x.acs)(h2:y.cf=x.cf):MoRoom y:=⟨by rw[h2];exact h.rich,by rw[h1,h2];exact h.all⟩
theorem MoRoom.acc{i:Int}{a:Ac}{e:List Ev}(h:MoRoom x)(ha:nO x.cf a):MoRoom (kB x i a e):=⟨h.rich,fun b hb=>by
 rcases List.mem_or_eq_of_mem_set (show b ∈ x.acs.set i.toNat a from hb)with q|q
 ·exact h.all b q
 ·rw[q];exact ha⟩
theorem MoRoom.begin(h:MoRoom x)(i k l t:Int):MoRoom (fO x i k l t):=by unfold fO;split<;>exact h.same rfl rfl
theorem MoRoom.tick(h:MoRoom x)(i:Int):MoRoom (kG x i):=by unfold kG;split<;>exact h.same rfl rfl
theorem MoRoom.lose(h:MoRoom x)(i:Int):MoRoom (kP x i):=by unfold kP;split<;>exact h.same rfl rfl
theorem MoRoom.ret(h:MoRoom x)(i:Int):MoRoom (iB x i):=by unfold iB;split<;>exact h.same rfl rfl
theorem MoRoom.drop(h:MoRoom x)(i:Int):MoRoom (eN x i):=by unfold eN;split<;>exact h.same rfl rfl
theorem MoRoom.copy(h:MoRoom x)(i:Int):MoRoom (lE x i):=by unfold lE;split<;>exact h.same rfl rfl
theorem MoRoom.deliver(hx:MoOk N x)(h:MoRoom x)(i:Int):MoRoom (fG x i):=by
 unfold fG;by_cases e:dL i x.net.length=true
 ·rw[if_pos e];have c:=hx.msg e;generalize kC x i=m at c⊢;have g:=h.drop i;have k:(eN x i).acs=x.acs:=by unfold eN;split<;>rfl
  have f:(eN x i).cf=x.cf:=by unfold eN;split<;>rfl
  by_cases d:jD m=true
  ·rw[if_pos d];have b:m.kind=1∨m.kind=3:=by simpa[jD]using d
   have j:=c.toA b;have a:dL m.dst x.acs.length=true:=(dK _ _).2 ⟨c.d1,by rw[hx.na];unfold gB;omega⟩;refine g.acc ?_;rw[f];exact aE4 h.rich (hx.ac a).1 (h.all _ (aBM a)) c b
  ·rw[if_neg d];exact g.same rfl rfl
 ·rw[if_neg e];exact h
theorem MoRoom.fail(hx:MoOk N x)(h:MoRoom x)(i n q:Int):MoRoom (lM x i n q):=by
 unfold lM;by_cases b:oN x i n q=true
 ·rw[if_pos b];exact h
 ·rw[if_neg b];have a:dL i x.acs.length=true∧0≤n∧0≤q:=by
   simp only[oN,Bool.or_eq_true,Bool.not_eq_true',aM,not_or,Bool.not_eq_false]at b;exact⟨b.1.1,by omega,by omega⟩
  exact h.acc (aFQ (hx.ac a.1).1 (h.all _ (aBM a.1)) a.2.2)
theorem MoRoom.start(hx:MoOk N x)(h:MoRoom x)(i:Int):MoRoom (jM x i):=by
 unfold jM;by_cases a:dL i x.acs.length=true
 ·rw[if_pos a];exact h.acc (aDe h.rich (hx.ac a).1 (h.all _ (aBM a))).1
 ·rw[if_neg a];exact h
end
theorem eJ{α:Type}(f:Int→α)(k:Int)(v:α):upd f k v k=v:=if_pos rfl
theorem eY{α:Type}(f:Int→α){k j:Int}(v:α)(h:j≠k):upd f k v j=f j:=if_neg h
structure aIZ(c c':Ct):Prop where
 num:c'.num=c.num
 inc:c'.inc=c.inc
 up:c'.up=c.up
 clock:c'.clock=c.clock
 round:c'.round=c.round
theorem rI(c:Ct)(o:On)(res tok:Int)(v:Vl):aIZ c (gA c o res tok v)∧(gA c o res tok v).doing=none:=by
 unfold gA lD pY nV;dsimp only
 repeat' split
 all_goals exact⟨⟨rfl,rfl,rfl,rfl,rfl⟩,rfl⟩
theorem nQ(c:Ct)(k l t:Int):aIZ c (dN c k l t)∧(dN c k l t).doing=c.doing:=by
 unfold dN
 repeat' split
 all_goals exact⟨⟨rfl,rfl,rfl,rfl,rfl⟩,rfl⟩
theorem uE{c:Ct}(h:c.up=true):mX c=⟨c.num,c.inc,false,0,0,fun _=>0,fun _=>0,fun _=>zWt,none⟩:=by
 unfold mX;rw[if_neg (by rw[h];decide)]
theorem uV{c:Ct}(h:c.up=false)(hi:c.inc<63):jC c={c with inc:=c.inc+1,up:=true}:=by
 have e:dW c=0:=by unfold dW;rw[if_neg (by rw[h];decide),if_neg (by omega)]
 unfold jC;rw[e,if_neg (by decide)]
structure I0(f:Cf)(s:Sx):Prop where
 num:∀i,0≤i→i<f.clients→(s.cl i).num=i
 inc0:∀i,0≤i→i<f.clients→0≤(s.cl i).inc
 inc1:∀i,0≤i→i<f.clients→(s.cl i).inc≤63
 rnd0:∀i,0≤i→i<f.clients→0≤(s.cl i).round
 rnd1:∀i,0≤i→i<f.clients→(s.cl i).round≤1000
 clk:∀i,0≤i→i<f.clients→0≤(s.cl i).clock
 gone:∀i,0≤i→i<f.clients→aJM (s.cl i)
 bal:∀i,0≤i→i<f.clients→∀o,(s.cl i).doing=some o→(o.att.bal=0∧o.att.awaited=0∧o.mine=[]∧o.att.ans=[])∨((s.bl o.att.bal).used=true∧(s.bl o.att.bal).cl=i∧o.att.bal / 4 % 64=(s.cl i).inc∧(o.att.awaited=2∨o.att.awaited=4))
 fr0:∀b,(s.bl b).used=true→256≤b∧0≤(s.bl b).cl∧(s.bl b).cl<f.clients∧b % 4=(s.bl b).cl
 fr1:∀b,(s.bl b).used=true→b / 4 % 64≤(s.cl (s.bl b).cl).inc
 fr2:∀b,(s.bl b).used=true→b / 4 % 64=(s.cl (s.bl b).cl).inc→(s.cl (s.bl b).cl).up=true→b / 256≤(s.cl (s.bl b).cl).round
theorem aHX(f:Cf):I0 f pU:=by
 refine⟨fun i _ _=>rfl,fun i _ _=>(by decide:(0:Int)≤0),fun i _ _=>(by decide:(0:Int)≤63),fun i _ _=>(by decide:(0:Int)≤0),fun i _ _=>(by decide:(0:Int)≤1000),fun i _ _=>(by decide:(0:Int)≤0),fun i _ _ h=>?_,fun i _ _ o ho=>?_,fun b hb=>?_,fun b hb=>?_,fun b hb=>?_⟩
 ·cases h
 ·cases ho
 ·cases hb
 ·cases hb
 ·cases hb
theorem aCL{c:Ct}(h:c.up=true):aJM c:=fun e=>by rw[h]at e;cases e
theorem I0.go{f:Cf}{s s':Sx}(h:I0 f s){i:Int}{c:Ct}(hbl:∀b,((s'.bl b).used=true→(s.bl b).used=true∧(s'.bl b).cl=(s.bl b).cl)∧((s.bl b).used=true→(s'.bl b).used=true))(hcl:s'.cl=upd s.cl i c)(h0:0≤i)(h1:i<f.clients)
 (hn:c.num=(s.cl i).num) (hi:c.inc=(s.cl i).inc) (hup:c.up=(s.cl i).up) (hu:(s.cl i).up=true) (hk:(s.cl i).clock≤c.clock) (hr:(s.cl i).round≤c.round) (hr':c.round≤1000)
 (hb:∀o,c.doing=some o→(o.att.bal=0∧o.att.awaited=0∧o.mine=[]∧o.att.ans=[])∨((s'.bl o.att.bal).used=true∧(s'.bl o.att.bal).cl=i∧o.att.bal / 4 % 64=(s.cl i).inc∧(o.att.awaited=2∨o.att.awaited=4))):I0 f s':=by
 have e:∀j,s'.cl j=if j=i then c else s.cl j:=fun j=>by rw[hcl];rfl
 refine⟨fun j j0 j1=>?_,fun j j0 j1=>?_,fun j j0 j1=>?_,fun j j0 j1=>?_,fun j j0 j1=>?_,fun j j0 j1=>?_,fun j j0 j1=>?_,fun j j0 j1 o ho=>?_,fun b hbu=>?_,fun b hbu=>?_,fun b hbu=>?_⟩
 ·rw[e];split
  ·rename_i q;subst q;rw[hn];exact h.num j j0 j1
  ·exact h.num j j0 j1
 ·rw[e];split
  ·rw[hi];exact h.inc0 i h0 h1
  ·exact h.inc0 j j0 j1
 ·rw[e];split
  ·rw[hi];exact h.inc1 i h0 h1
  ·exact h.inc1 j j0 j1
 ·rw[e];split
  ·have:=h.rnd0 i h0 h1;omega
  ·exact h.rnd0 j j0 j1
 ·rw[e];split
  ·exact hr'
  ·exact h.rnd1 j j0 j1
 ·rw[e];split
  ·have:=h.clk i h0 h1;omega
  ·exact h.clk j j0 j1
 ·rw[e];split
  ·exact aCL (hup.trans hu)
  ·exact h.gone j j0 j1
 ·rw[e]at ho⊢;split at ho
  ·rename_i q;subst q;rw[if_pos rfl,hi];exact hb o ho
  ·rename_i q;rw[if_neg q];rcases h.bal j j0 j1 o ho with d|⟨d,g,m,l⟩
   ·exact Or.inl d
   ·have k:=(hbl o.att.bal).2 d;exact Or.inr ⟨k,((hbl o.att.bal).1 k).2.trans g,m,l⟩
 ·obtain⟨d,g⟩:=(hbl b).1 hbu;rw[g];exact h.fr0 b d
 ·obtain⟨d,g⟩:=(hbl b).1 hbu;rw[g,e];have:=h.fr1 b d;split
  ·rename_i q;rw[q]at this;rw[hi];exact this
  ·exact this
 ·obtain⟨d,g⟩:=(hbl b).1 hbu;rw[g,e];have:=h.fr2 b d;split
  ·rename_i q;rw[q]at this;rw[hi];exact fun a b'=>by have:=this a hu;omega
  ·exact this
theorem I0.round_bal{f:Cf}{s:Sx}(h:I0 f s)(hf:f.clients≤4){i:Int}(h0:0≤i)(h1:i<f.clients):(gL (s.cl i)).bal % 4=i∧(gL (s.cl i)).bal / 4 % 64=(s.cl i).inc∧(gL (s.cl i)).bal / 256=(s.cl i).round+1∧256≤(gL (s.cl i)).bal:=by
 have e:(gL (s.cl i)).bal=((s.cl i).round+1)*256+(s.cl i).inc*4+(s.cl i).num:=rfl;rw[e];have:=h.num i h0 h1;have:=h.inc0 i h0 h1;have:=h.inc1 i h0 h1;have:=h.rnd0 i h0 h1;omega
theorem I0.new_unused{f:Cf}{s:Sx}(h:I0 f s)(hf:f.clients≤4){i:Int}(h0:0≤i)(h1:i<f.clients)(hu:(s.cl i).up=true):(s.bl (gL (s.cl i)).bal).used=false:=by
 cases hb:(s.bl (gL (s.cl i)).bal).used with
 |false=>rfl
 |true=>
  exfalso;obtain⟨b,d,e,g⟩:=h.round_bal hf h0 h1;have q:=h.fr0 _ hb;have c:(s.bl (gL (s.cl i)).bal).cl=i:=by rw[←q.2.2.2];exact b
  have a:=h.fr2 _ hb;rw[c]at a;have:=a d hu;omega
theorem aEN{f:Cf}(hf:f.clients≤4){gd:Bool}{s s':Sx}(h:I0 f s)(hs:Mi f gd s s'):I0 f s':=by
 refine hs.elim (P:=I0 f) ?tick ?bump ?began ?att ?endU ?endQ ?hear ?prop ?lose ?ret ?acc ?ev
 case tick=>
  intro i c d n hg;exact h.go (s':=uS f s i) (fun b=>⟨fun q=>⟨q,rfl⟩,fun q=>q⟩) rfl c d rfl rfl rfl n (by show(s.cl i).clock≤(s.cl i).clock+1;omega) (aL _) (h.rnd1 i c d) (fun o g=>h.bal i c d o g)
 case bump=>
  intro i r o c d n v z F;exact h.go (s':=uX s i r) (fun b=>⟨fun q=>⟨q,rfl⟩,fun q=>q⟩) rfl c d rfl rfl rfl n (aL _) z F (fun o g=>h.bal i c d o g)
 case began=>
  intro i k l t c d n v C hl Z W X;obtain⟨q,D⟩:=nQ {s.cl i with doing:=some (eH (s.cl i) k l t)} k l t;refine h.go (s':=gN s i k l t) (fun b=>⟨fun q=>⟨q,rfl⟩,fun q=>q⟩) rfl c d q.num q.inc q.up n (by rw[q.clock];exact aL _) (by rw[q.round];exact aL _) (by rw[q.round];exact h.rnd1 i c d) (fun o g=>?_);rw[D]at g;cases g;exact Or.inl ⟨rfl,rfl,rfl,rfl⟩
 case att=>
  intro i o c d n v z;obtain⟨R,M,e3,S⟩:=h.round_bal hf c d;have x:=h.new_unused hf c d n;generalize I:(gL (s.cl i)).bal=B at*;have u:∀b,(iH f s i o).bl b=if b=B then⟨true,s.opx i,i,o.lock,o.kind,o.ttl,o.began,s.tr.length,false,0,zVl,zVl,0⟩else s.bl b:=fun b=>by
   show upd s.bl (gL (s.cl i)).bal _ b=_;rw[I];rfl
  have e:∀j,(iH f s i o).cl j=if j=i then{s.cl i with round:=(s.cl i).round+1,doing:=some (fB o (s.cl i))}else s.cl j:=fun j=>rfl
  refine⟨fun j j0 j1=>?_,fun j j0 j1=>?_,fun j j0 j1=>?_,fun j j0 j1=>?_,fun j j0 j1=>?_,fun j j0 j1=>?_,fun j j0 j1=>?_,fun j j0 j1 o' g=>?_,fun b hbu=>?_,fun b hbu=>?_,fun b hbu=>?_⟩
  ·rw[e];split
   ·rename_i q;subst q;exact h.num j j0 j1
   ·exact h.num j j0 j1
  ·rw[e];split
   ·exact h.inc0 i c d
   ·exact h.inc0 j j0 j1
  ·rw[e];split
   ·exact h.inc1 i c d
   ·exact h.inc1 j j0 j1
  ·rw[e];split
   ·have:=h.rnd0 i c d;show 0≤(s.cl i).round+1;omega
   ·exact h.rnd0 j j0 j1
  ·rw[e];split
   ·show(s.cl i).round+1≤1000;omega
   ·exact h.rnd1 j j0 j1
  ·rw[e];split
   ·exact h.clk i c d
   ·exact h.clk j j0 j1
  ·rw[e];split
   ·exact fun q=>by rw[show(s.cl i).up=false from q]at n;cases n
   ·exact h.gone j j0 j1
  ·rw[e]at g⊢;split at g
   ·rename_i q;subst q;rw[if_pos rfl];cases g;have N:(fB o (s.cl j)).att.bal=B:=I;rw[N,u,if_pos rfl];exact Or.inr ⟨rfl,rfl,M,Or.inl rfl⟩
   ·rename_i q;rw[if_neg q];rcases h.bal j j0 j1 o' g with w|⟨w,A,y,H⟩
    ·exact Or.inl w
    ·have E:o'.att.bal≠B:=fun e=>by rw[e,x]at w;cases w
     rw[u,if_neg E];exact Or.inr ⟨w,A,y,H⟩
  ·rw[u]at hbu⊢;by_cases p:b=B
   ·subst p;rw[if_pos rfl];exact⟨S,c,d,R⟩
   ·rw[if_neg p]at hbu⊢;exact h.fr0 b hbu
  ·rw[u]at hbu⊢;by_cases p:b=B
   ·subst p;rw[if_pos rfl,e,if_pos rfl];show b / 4 % 64≤(s.cl i).inc;omega
   ·rw[if_neg p]at hbu⊢;rw[e];have:=h.fr1 b hbu;split
    ·rename_i q;rw[q]at this;exact this
    ·exact this
  ·rw[u]at hbu⊢;by_cases p:b=B
   ·subst p;rw[if_pos rfl,e,if_pos rfl];intro _ _;show b / 256≤(s.cl i).round+1;omega
   ·rw[if_neg p]at hbu⊢;rw[e];have:=h.fr2 b hbu;split
    ·rename_i q;rw[q]at this;intro a K;have:=this a K;show b / 256≤(s.cl i).round+1;omega
    ·exact this
 case endU=>
  intro i o G c d n v z;exact h.go (s':=vB s i o G) (fun b=>⟨fun q=>⟨q,rfl⟩,fun q=>q⟩) rfl c d rfl rfl rfl n (aL _) (aL _) (h.rnd1 i c d) (fun o g=>by cases g)
 case endQ=>
  intro i o c d n v h4 L;obtain⟨q,D⟩:=rI (s.cl i) o o.att.eres o.att.etok o.att.val;exact h.go (s':=qJ s i o) (fun b=>⟨fun q=>⟨q,rfl⟩,fun q=>q⟩) rfl c d q.num q.inc q.up n (by rw[q.clock];exact aL _) (by rw[q.round];exact aL _) (by rw[q.round];exact h.rnd1 i c d) (fun o' g=>by rw[D]at g;cases g)
 case hear=>
  intro i o m c d n v Q hb V C ha;refine h.go (s':=kJ s i o m) (fun b=>⟨fun q=>⟨q,rfl⟩,fun q=>q⟩) rfl c d rfl rfl rfl n (aL _) (aL _) (h.rnd1 i c d) (fun o' g=>?_);cases g;rcases h.bal i c d o v with⟨w,A,y,H⟩|q
  ·exfalso;omega
  ·exact Or.inr q
 case prop=>
  intro i o c d n v Y L z;have g:=h.bal i c d o v;have u:∀b,((gP f s i o).bl b).used=(s.bl b).used∧((gP f s i o).bl b).cl=(s.bl b).cl:=fun b=>by
   show(upd s.bl o.att.bal _ b).used=_∧(upd s.bl o.att.bal _ b).cl=_;unfold upd;split
   ·rename_i q;subst q;exact⟨rfl,rfl⟩
   ·exact⟨rfl,rfl⟩
  refine h.go (s':=gP f s i o) (fun b=>?_) rfl c d rfl rfl rfl n (aL _) (aL _) (h.rnd1 i c d) (fun o' ho'=>?_)
  ·rw[(u b).1,(u b).2];exact⟨fun q=>⟨q,rfl⟩,fun q=>q⟩
  ·cases ho';rcases g with⟨_,q,_⟩|⟨w,A,y,_⟩
   ·omega
   ·refine Or.inr ⟨?_,?_,y,Or.inr rfl⟩
    ·exact(u o.att.bal).1.trans w
    ·exact(u o.att.bal).2.trans A
 case lose=>
  intro i c d n;have e:∀j,(sM s i).cl j=if j=i then mX (s.cl i)else s.cl j:=fun j=>rfl
  rw[uE n]at e;refine⟨fun j j0 j1=>?_,fun j j0 j1=>?_,fun j j0 j1=>?_,fun j j0 j1=>?_,fun j j0 j1=>?_,fun j j0 j1=>?_,fun j j0 j1=>?_,fun j j0 j1 o' g=>?_,fun b hbu=>?_,fun b hbu=>?_,fun b hbu=>?_⟩
  ·rw[e];split
   ·rename_i q;subst q;exact h.num j j0 j1
   ·exact h.num j j0 j1
  ·rw[e];split
   ·exact h.inc0 i c d
   ·exact h.inc0 j j0 j1
  ·rw[e];split
   ·exact h.inc1 i c d
   ·exact h.inc1 j j0 j1
  ·rw[e];split
   ·exact aL _
   ·exact h.rnd0 j j0 j1
  ·rw[e];split
   ·exact(by decide:(0:Int)≤1000)
   ·exact h.rnd1 j j0 j1
  ·rw[e];split
   ·exact aL _
   ·exact h.clk j j0 j1
  ·rw[e];split
   ·exact fun _=>⟨rfl,rfl,rfl,rfl,rfl,rfl⟩
   ·exact h.gone j j0 j1
  ·rw[e]at g⊢;split at g
   ·cases g
   ·rename_i q;rw[if_neg q];exact h.bal j j0 j1 o' g
  ·exact h.fr0 b hbu
  ·rw[e];have:=h.fr1 b hbu;show b / 4 % 64≤(if(s.bl b).cl=i then _ else s.cl (s.bl b).cl:Ct).inc;split
   ·rename_i q;rw[q]at this;exact this
   ·exact this
  ·rw[e];show b / 4 % 64=(if(s.bl b).cl=i then _ else s.cl (s.bl b).cl:Ct).inc→(if(s.bl b).cl=i then _ else s.cl (s.bl b).cl:Ct).up=true→b / 256≤(if(s.bl b).cl=i then _ else s.cl (s.bl b).cl:Ct).round;split
   ·intro _ q;cases q
   ·exact h.fr2 b hbu
 case ret=>
  intro i c d n O;have e:∀j,(uL s i).cl j=if j=i then jC (s.cl i)else s.cl j:=fun j=>rfl
  rw[uV n O]at e;obtain⟨g1,g2,g3,g4,g5,J⟩:=h.gone i c d n;refine⟨fun j j0 j1=>?_,fun j j0 j1=>?_,fun j j0 j1=>?_,fun j j0 j1=>?_,fun j j0 j1=>?_,fun j j0 j1=>?_,fun j j0 j1=>?_,fun j j0 j1 o' g=>?_,fun b hbu=>?_,fun b hbu=>?_,fun b hbu=>?_⟩
  ·rw[e];split
   ·rename_i q;subst q;exact h.num j j0 j1
   ·exact h.num j j0 j1
  ·rw[e];split
   ·have:=h.inc0 i c d;show 0≤(s.cl i).inc+1;omega
   ·exact h.inc0 j j0 j1
  ·rw[e];split
   ·show(s.cl i).inc+1≤63;omega
   ·exact h.inc1 j j0 j1
  ·rw[e];split
   ·exact h.rnd0 i c d
   ·exact h.rnd0 j j0 j1
  ·rw[e];split
   ·exact h.rnd1 i c d
   ·exact h.rnd1 j j0 j1
  ·rw[e];split
   ·exact h.clk i c d
   ·exact h.clk j j0 j1
  ·rw[e];split
   ·exact fun q=>by cases q
   ·exact h.gone j j0 j1
  ·rw[e]at g⊢;split at g
   ·rw[show({s.cl i with inc:=(s.cl i).inc+1,up:=true}:Ct).doing=(s.cl i).doing from rfl,J]at g;cases g
   ·rename_i q;rw[if_neg q];exact h.bal j j0 j1 o' g
  ·exact h.fr0 b hbu
  ·rw[e];have:=h.fr1 b hbu;show b / 4 % 64≤(if(s.bl b).cl=i then _ else s.cl (s.bl b).cl:Ct).inc;split
   ·rename_i q;rw[q]at this;show _≤(s.cl i).inc+1;omega
   ·exact this
  ·rw[e];show b / 4 % 64=(if(s.bl b).cl=i then _ else s.cl (s.bl b).cl:Ct).inc→(if(s.bl b).cl=i then _ else s.cl (s.bl b).cl:Ct).up=true→b / 256≤(if(s.bl b).cl=i then _ else s.cl (s.bl b).cl:Ct).round;have:=h.fr1 b hbu;split
   ·rename_i q;rw[q]at this;intro T _;have U:b / 4 % 64=(s.cl i).inc+1:=T;omega
   ·exact h.fr2 b hbu
 case acc=>
  intro j m e c d Q C he;exact⟨h.num,h.inc0,h.inc1,h.rnd0,h.rnd1,h.clk,h.gone,h.bal,h.fr0,h.fr1,h.fr2⟩
 case ev=>
  intro j k c C;exact⟨h.num,h.inc0,h.inc1,h.rnd0,h.rnd1,h.clk,h.gone,h.bal,h.fr0,h.fr1,h.fr2⟩
structure Ext(s s':Sx):Prop where
 tr:∃e,s'.tr=s.tr++e
 us:∀b,(s.bl b).used=true→(s'.bl b).used=true∧(s'.bl b).op=(s.bl b).op∧(s'.bl b).cl=(s.bl b).cl∧(s'.bl b).lock=(s.bl b).lock∧(s'.bl b).kind=(s.bl b).kind∧(s'.bl b).ttl=(s.bl b).ttl∧(s'.bl b).start=(s.bl b).start∧(s'.bl b).t0=(s.bl b).t0
 ask:∀b,(s.bl b).asked=true→s'.bl b=s.bl b
theorem Ext.at_{s s':Sx}(h:Ext s s'){k:Nat}{e:Ev}(hk:s.tr[k]?=some e):s'.tr[k]?=some e:=by
 obtain⟨l,a⟩:=h.tr;rw[a,bJ (aF.1 hk).1];exact hk
theorem Ext.len{s s':Sx}(h:Ext s s'):s.tr.length≤s'.tr.length:=by
 obtain⟨l,a⟩:=h.tr;rw[a,aD];omega
theorem Ext.of_bl{s s':Sx}(ht:∃e,s'.tr=s.tr++e)(hb:s'.bl=s.bl):Ext s s':=⟨ht,fun b h=>by rw[hb];exact⟨h,rfl,rfl,rfl,rfl,rfl,rfl,rfl⟩,fun b h=>by rw[hb]⟩
def aH0(g:Bg):Ev:={zEv with kind:=2,node:=g.cl,okind:=g.kind,olock:=g.lock,ottl:=g.ttl}
def aHK(b:Int)(g:Bg)(d:Int):Mg:=⟨1,g.cl,d,g.lock,b,0,zVl⟩
def aAs(b:Int)(g:Bg)(d:Int):Mg:=⟨3,g.cl,d,g.lock,b,g.base,g.val⟩
structure OnInv(s:Sx)(i:Int)(o:On):Prop where
 k1:1≤o.kind
 k4:o.kind≤4
 l0:0≤o.lock
 l3:o.lock≤3
 t0:0≤o.ttl
 t1:o.kind≤2→1≤o.ttl
 t2:2<o.kind→o.ttl=0
 g0:0≤o.began
 g1:o.began≤(s.cl i).clock
 ev:s.tr[s.opx i]?=some (gJ i o)
 lk:o.att.bal≠0→(s.bl o.att.bal).op=s.opx i∧(s.bl o.att.bal).lock=o.lock∧(s.bl o.att.bal).kind=o.kind∧(s.bl o.att.bal).ttl=o.ttl∧(s.bl o.att.bal).start=o.began
 ask:o.att.bal≠0→((s.bl o.att.bal).asked=true↔o.att.awaited=4)
 e0:0≤o.att.base
 av:o.att.awaited=4→(s.bl o.att.bal).base=o.att.base∧(s.bl o.att.bal).pv=o.att.val
structure aG0(s:Sx)(b:Int)(g:Bg):Prop where
 k1:1≤g.kind
 k4:g.kind≤4
 l0:0≤g.lock
 l3:g.lock≤3
 g0:0≤g.start
 op:g.op<g.t0
 t0:g.t0≤s.tr.length
 ev:s.tr[g.op]?=some (aH0 g)
 t1:g.asked=true→g.t0≤g.t1
 ac:g.asked=true→s.tr[g.t1]?=some (fI (aAs b g 0))
structure zE(f:Cf)(s:Sx)(k:Nat)(m:Mg):Prop where
 us:(s.bl m.bal).used=true
 lk:m.lock=(s.bl m.bal).lock
 t0:(s.bl m.bal).t0≤k
 ca:(m.kind=1∧m=aHK m.bal (s.bl m.bal) m.dst)∨(m.kind=3∧(s.bl m.bal).asked=true∧(s.bl m.bal).t1≤k∧m=aAs m.bal (s.bl m.bal) m.dst)∨((m.kind=2∨m.kind=4∨m.kind=5)∧0≤m.src∧m.src<2*f.f+1∧m.dst=(s.bl m.bal).cl∧(m.kind=4→(s.bl m.bal).asked=true∧(s.bl m.bal).t1<k∧m.base=0))
structure I1(f:Cf)(s:Sx):Prop where
 on:∀i,0≤i→i<f.clients→∀o,(s.cl i).doing=some o→OnInv s i o
 bg:∀b,(s.bl b).used=true→aG0 s b (s.bl b)
 ask:∀b,(s.bl b).asked=true→(s.bl b).used=true
 ms:∀(k:Nat) (e:Ev),s.tr[k]?=some e→e.kind=1→zE f s k e.msg
 ol:∀i,s.opx i≤s.tr.length
theorem aAd{l:List Ev}{m:Mg}(h:m ∈ cJ l):∃(k:Nat) (e:Ev),l[k]?=some e∧e.kind=1∧e.msg=m:=by
 unfold cJ at h;obtain⟨e,b,rfl⟩:=bN.1 h;obtain⟨d,c⟩:=bV.1 b;obtain⟨k,a⟩:=List.getElem?_of_mem d;exact⟨k,e,a,by simpa[qL]using c,rfl⟩
theorem aC7{l:List Ev}{k:Nat}{e:Ev}(h:l[k]?=some e)(h1:e.kind=1):e.msg ∈ cJ l:=by
 unfold cJ;exact bN.2 ⟨e,bV.2 ⟨List.mem_of_getElem? h,by simp[qL,h1]⟩,rfl⟩
theorem I1.sent{f:Cf}{s:Sx}(h:I1 f s){m:Mg}(hm:m ∈ cJ s.tr):∃k,k<s.tr.length∧zE f s k m:=by
 obtain⟨k,e,a,b,rfl⟩:=aAd hm;exact⟨k,(aF.1 a).1,h.ms k e a b⟩
theorem Ext.bg{s s':Sx}(h:Ext s s'){b:Int}(hu:(s.bl b).used=true)(hb:s'.bl b=s.bl b)(k:aG0 s b (s.bl b)):aG0 s' b (s'.bl b):=by
 rw[hb];exact⟨k.k1,k.k4,k.l0,k.l3,k.g0,k.op,bU k.t0 h.len,h.at_ k.ev,k.t1,fun q=>h.at_ (k.ac q)⟩
theorem Ext.msg{f:Cf}{s s':Sx}(h:Ext s s'){k:Nat}{m:Mg}(q:zE f s k m):zE f s' k m:=by
 obtain⟨i,n,g,e,r,p,o,j⟩:=h.us m.bal q.us;refine⟨i,by rw[e];exact q.lk,by rw[j];exact q.t0,?_⟩;rcases q.ca with⟨b,a⟩|⟨b,a,c,d⟩|⟨b,a,c,d,l⟩
 ·refine Or.inl ⟨b,?_⟩;unfold aHK at*;rw[g,e];exact a
 ·rw[h.ask _ a];exact Or.inr (Or.inl ⟨b,a,c,d⟩)
 ·refine Or.inr (Or.inr ⟨b,a,c,by rw[g];exact d,fun h4=>?_⟩);have:=l h4;rw[h.ask _ this.1];exact this
theorem I1.quiet{f:Cf}{s s':Sx}(h:I1 f s){e:List Ev}(ht:s'.tr=s.tr++e)(hb:s'.bl=s.bl)(he:∀x ∈ e,x.kind≠1)(hol:∀i,s'.opx i≤s'.tr.length)
 (hon:∀i,0≤i→i<f.clients→∀o,(s'.cl i).doing=some o→OnInv s' i o):I1 f s':=by
 have c:Ext s s':=Ext.of_bl ⟨e,ht⟩ hb;refine⟨hon,fun b hu=>?_,fun b hu=>?_,fun k x hk hk1=>?_,hol⟩
 ·rw[hb]at hu;exact c.bg hu (by rw[hb]) (h.bg b hu)
 ·rw[hb]at hu⊢;exact h.ask b hu
 ·rw[ht]at hk;by_cases a:k<s.tr.length
  ·rw[bJ a]at hk;exact c.msg (h.ms k x hk hk1)
  ·rw[bK (by omega)]at hk;exact absurd hk1 (he x (List.mem_of_getElem? hk))
theorem OnInv.go{s s':Sx}(h:Ext s s')(hb:s'.bl=s.bl){i:Int}{o:On}(k:OnInv s i o)(hop:s'.opx i=s.opx i)(hc:(s.cl i).clock≤(s'.cl i).clock):OnInv s' i o:=
 ⟨k.k1,k.k4,k.l0,k.l3,k.t0,k.t1,k.t2,k.g0,Int.le_trans k.g1 hc,by rw[hop];exact h.at_ k.ev,by rw[hb,hop];exact k.lk,by rw[hb];exact k.ask,k.e0,by rw[hb];exact k.av⟩
theorem OnInv.go2{s s':Sx}(h:Ext s s'){i:Int}{o:On}(hb:o.att.bal≠0→s'.bl o.att.bal=s.bl o.att.bal)(h4:o.att.awaited=4→o.att.bal≠0)(k:OnInv s i o)(hop:s'.opx i=s.opx i)(hc:(s.cl i).clock≤(s'.cl i).clock):OnInv s' i o:=
 ⟨k.k1,k.k4,k.l0,k.l3,k.t0,k.t1,k.t2,k.g0,Int.le_trans k.g1 hc,by rw[hop];exact h.at_ k.ev,fun q=>by rw[hb q,hop];exact k.lk q,fun q=>by rw[hb q];exact k.ask q,k.e0,fun q=>by rw[hb (h4 q)];exact k.av q⟩
theorem aHj(f:Cf):I1 f pU:=by
 refine⟨fun i _ _ o ho=>?_,fun b hb=>?_,fun b hb=>?_,fun k e hk=>?_,fun i=>aE _⟩
 ·cases ho
 ·cases hb
 ·cases hb
 ·simp[pU]at hk
theorem uC{c:Ct}{o:On}{r w t:Int}:∀x ∈ lO c o r w t,x.kind≠1:=fun x hx=>by
 simp only[lO,List.mem_singleton]at hx;subst hx;show(3:Int)≠1
 decide
theorem I0.other{f:Cf}{s:Sx}(h:I0 f s){i j:Int}(i0:0≤i)(i1:i<f.clients)(j0:0≤j)(j1:j<f.clients)(hij:i≠j){o p:On}(ho:(s.cl i).doing=some o)(hp:(s.cl j).doing=some p)(hb:o.att.bal≠0):p.att.bal≠o.att.bal:=by
 intro e;rcases h.bal i i0 i1 o ho with q|⟨d,c,_⟩
 ·exact hb q.1
 ·rcases h.bal j j0 j1 p hp with b|⟨_,a,_⟩
  ·rw[←e]at hb;exact hb b.1
  ·rw[e,c]at a;exact hij a
theorem aEF{f:Cf}(hf:f.clients≤4)(hff:0≤f.f){gd:Bool}{s s':Sx}(h0:I0 f s)(h:I1 f s)(hs:Mi f gd s s'):I1 f s':=by
 refine hs.elim (P:=I1 f) ?tick ?bump ?began ?att ?endU ?endQ ?hear ?prop ?lose ?ret ?acc ?ev
 case tick=>
  intro i D E L hg;refine h.quiet (s':=uS f s i) (e:=[]) (by show s.tr++[]=_;rfl) rfl (fun x g=>by cases g) (fun j=>by show s.opx j≤(s.tr++[]).length;rw[aC];exact h.ol j) (fun j y z o ho=>?_);have g:Ext s (uS f s i):=Ext.of_bl ⟨[],rfl⟩ rfl;have e:(uS f s i).cl j=if j=i then{s.cl i with clock:=(s.cl i).clock+1}else s.cl j:=rfl
  rw[e]at ho;by_cases q:j=i
  ·rw[if_pos q]at ho;have a1:(s.cl j).doing=some o:=by rw[q];exact ho
   refine(h.on j y z o a1).go g rfl rfl ?_;rw[e,if_pos q,q];show(s.cl i).clock≤(s.cl i).clock+1;omega
  ·rw[if_neg q]at ho;exact(h.on j y z o ho).go g rfl rfl (by rw[e,if_neg q];exact aL _)
 case bump=>
  intro i r o D E L O hr b5;refine h.quiet (s':=uX s i r) (e:=[]) rfl rfl (fun x g=>by cases g) (fun j=>by show s.opx j≤(s.tr++[]).length;rw[aC];exact h.ol j) (fun j y z o' ho=>?_);have g:Ext s (uX s i r):=Ext.of_bl ⟨[],rfl⟩ rfl;have e:(uX s i r).cl j=if j=i then{s.cl i with round:=r}else s.cl j:=rfl
  rw[e]at ho;by_cases q:j=i
  ·rw[if_pos q]at ho;have a1:(s.cl j).doing=some o':=by rw[q];exact ho
   refine(h.on j y z o' a1).go g rfl rfl ?_;rw[e,if_pos q,q];exact aL _
  ·rw[if_neg q]at ho;exact(h.on j y z o' ho).go g rfl rfl (by rw[e,if_neg q];exact aL _)
 case began=>
  intro i k l t D E L O I hl ht b1 b2;obtain⟨sc,a0⟩:=nQ {s.cl i with doing:=some (eH (s.cl i) k l t)} k l t;have eo:∀j,(gN s i k l t).opx j=if j=i then s.tr.length else s.opx j:=fun j=>rfl
  have C:(gN s i k l t).tr=s.tr++[gJ (s.cl i).num (eH (s.cl i) k l t)]:=rfl;refine h.quiet (s':=gN s i k l t) rfl rfl (fun x g=>by
   rw[List.mem_singleton]at g;subst g;show(2:Int)≠1;decide) (fun j=>?_) (fun j y z o ho=>?_)
  ·rw[eo,C,aD];split
   ·omega
   ·have:=h.ol j;omega
  ·have g:Ext s (gN s i k l t):=Ext.of_bl ⟨_,C⟩ rfl;have e:(gN s i k l t).cl j=if j=i then dN {s.cl i with doing:=some (eH (s.cl i) k l t)} k l t else s.cl j:=rfl
   by_cases q:j=i
   ·subst q;rw[e,if_pos rfl,a0]at ho;cases ho;refine⟨I.1,I.2,hl.1,hl.2,ht.1,b1,b2,h0.clk j y z,?_,?_,fun q=>absurd rfl q,fun q=>absurd rfl q,aL _,fun q=>?_⟩
    ·rw[e,if_pos rfl,sc.clock];exact aL _
    ·rw[eo,if_pos rfl,C,bK (aE _),Nat.sub_self,h0.num j y z]
     rfl
    ·exact absurd (show(0:Int)=4 from q) (by decide)
   ·rw[e,if_neg q]at ho;exact(h.on j y z o ho).go g rfl (by rw[eo,if_neg q]) (by rw[e,if_neg q];exact aL _)
 case att=>
  intro i o D E L O hr;obtain⟨e1,e2,e3,e4⟩:=h0.round_bal hf D E;have a7:=h0.new_unused hf D E L;have a:=h.on i D E o O;have C:(iH f s i o).tr=s.tr++fD (s.cl i) (fB o (s.cl i)) 1 0 zVl (gB f):=rfl;have F:(iH f s i o).bl=upd s.bl (gL (s.cl i)).bal ⟨true,s.opx i,i,o.lock,o.kind,o.ttl,o.began,s.tr.length,false,0,zVl,zVl,0⟩:=rfl;have M:∀j,(iH f s i o).cl j=if j=i then{s.cl i with round:=(s.cl i).round+1,doing:=some (fB o (s.cl i))}else s.cl j:=fun j=>rfl
  have eB:(fB o (s.cl i)).att.bal=(gL (s.cl i)).bal:=rfl;generalize hB:(gL (s.cl i)).bal=B at*;have A:∀b,(iH f s i o).bl b=if b=B then⟨true,s.opx i,i,o.lock,o.kind,o.ttl,o.began,s.tr.length,false,0,zVl,zVl,0⟩else s.bl b:=fun b=>by rw[F];rfl
  have a4:s.opx i<s.tr.length:=(aF.1 a.ev).1;have Q:∀b,(s.bl b).used=true→b≠B:=fun b v e=>by rw[e,a7]at v;cases v
  have g:Ext s (iH f s i o):=⟨⟨_,C⟩,fun b v=>by
   rw[A,if_neg (Q b v)];exact⟨v,rfl,rfl,rfl,rfl,rfl,rfl,rfl⟩,fun b v=>by
   rw[A,if_neg (Q b (h.ask b v))]⟩
  refine⟨fun j y z p hp=>?_,fun b v=>?_,fun b v=>?_,fun k e I hk1=>?_,fun j=>?_⟩
  ·rw[M]at hp;by_cases q:j=i
   ·subst q;rw[if_pos rfl]at hp;cases hp;have u:(iH f s j o).bl (fB o (s.cl j)).att.bal=⟨true,s.opx j,j,o.lock,o.kind,o.ttl,o.began,s.tr.length,false,0,zVl,zVl,0⟩:=by rw[eB,A,if_pos rfl]
    refine⟨a.k1,a.k4,a.l0,a.l3,a.t0,a.t1,a.t2,a.g0,by rw[M,if_pos rfl];exact a.g1,g.at_ a.ev,fun _=>?_,fun _=>?_,aL _,fun q=>?_⟩
    ·rw[u];exact⟨rfl,rfl,rfl,rfl,rfl⟩
    ·rw[u];exact⟨fun q=>(by cases q),fun q=>absurd (show(2:Int)=4 from q) (by decide)⟩
    ·exact absurd (show(2:Int)=4 from q) (by decide)
   ·rw[if_neg q]at hp;refine(h.on j y z p hp).go2 g (fun N=>?_) (fun h4=>?_) rfl (by rw[M,if_neg q];exact aL _)
    ·rcases h0.bal j y z p hp with K|⟨K,_⟩
     ·exact absurd K.1 N
     ·rw[A,if_neg (Q _ K)]
    ·rcases h0.bal j y z p hp with K|⟨K,_⟩
     ·omega
     ·have:=(h0.fr0 _ K).1;omega
  ·by_cases q:b=B
   ·subst q;rw[A,if_pos rfl];refine⟨a.k1,a.k4,a.l0,a.l3,a.g0,a4,?_,?_,fun q=>(by cases q),fun q=>(by cases q)⟩
    ·show s.tr.length≤_;rw[C,aD];omega
    ·exact g.at_ a.ev
   ·rw[A,if_neg q]at v;exact g.bg v (by rw[A,if_neg q]) (h.bg b v)
  ·rw[A]at v⊢;by_cases q:b=B
   ·rw[if_pos q]
   ·rw[if_neg q]at v⊢;exact h.ask b v
  ·rw[C]at I;by_cases R:k<s.tr.length
   ·rw[bJ R]at I;exact g.msg (h.ms k e I hk1)
   ·rw[bK (by omega)]at I;obtain⟨d,_,rfl⟩:=bN.1 (List.mem_of_getElem? I);have u:(iH f s i o).bl (fB o (s.cl i)).att.bal=⟨true,s.opx i,i,o.lock,o.kind,o.ttl,o.began,s.tr.length,false,0,zVl,zVl,0⟩:=by rw[eB,A,if_pos rfl]
    refine⟨?_,?_,?_,Or.inl ⟨rfl,?_⟩⟩
    ·show((iH f s i o).bl (fB o (s.cl i)).att.bal).used=true;rw[u]
    ·show o.lock=((iH f s i o).bl (fB o (s.cl i)).att.bal).lock;rw[u]
    ·show((iH f s i o).bl (fB o (s.cl i)).att.bal).t0≤k;rw[u];show s.tr.length≤k;omega
    ·show _=aHK (fB o (s.cl i)).att.bal ((iH f s i o).bl (fB o (s.cl i)).att.bal) _;rw[u];show(⟨1,(s.cl i).num,_,o.lock,_,0,zVl⟩:Mg)=⟨1,i,_,o.lock,_,0,zVl⟩;rw[h0.num i D E]
     rfl
  ·rw[C,aD];have:=h.ol j;show s.opx j≤_;omega
 case endU=>
  intro i o V D E L O hr;refine h.quiet (s':=vB s i o V) (e:=lO (s.cl i) o V 0 0) rfl rfl uC (fun j=>by
   show s.opx j≤(s.tr++_).length;rw[aD];have:=h.ol j;omega) (fun j y z p hp=>?_)
  have g:Ext s (vB s i o V):=Ext.of_bl ⟨_,rfl⟩ rfl;have e:(vB s i o V).cl j=if j=i then{s.cl i with doing:=none}else s.cl j:=rfl
  rw[e]at hp;by_cases q:j=i
  ·rw[if_pos q]at hp;cases hp
  ·rw[if_neg q]at hp;exact(h.on j y z p hp).go g rfl rfl (by rw[e,if_neg q];exact aL _)
 case endQ=>
  intro i o D E L O h4 hq;obtain⟨sc,a0⟩:=rI (s.cl i) o o.att.eres o.att.etok o.att.val;refine h.quiet (s':=qJ s i o) (e:=lO (s.cl i) o o.att.eres o.att.eown o.att.etok) rfl rfl uC (fun j=>by
   show s.opx j≤(s.tr++_).length;rw[aD];have:=h.ol j;omega) (fun j y z p hp=>?_)
  have g:Ext s (qJ s i o):=Ext.of_bl ⟨_,rfl⟩ rfl;have e:(qJ s i o).cl j=if j=i then gA (s.cl i) o o.att.eres o.att.etok o.att.val else s.cl j:=rfl
  rw[e]at hp;by_cases q:j=i
  ·rw[if_pos q,a0]at hp;cases hp
  ·rw[if_neg q]at hp;exact(h.on j y z p hp).go g rfl rfl (by rw[e,if_neg q];exact aL _)
 case hear=>
  intro i o m D E L O hm v b6 I ha;refine h.quiet (s':=kJ s i o m) (e:=[]) rfl rfl (fun x g=>by cases g) (fun j=>by show s.opx j≤(s.tr++[]).length;rw[aC];exact h.ol j) (fun j y z p hp=>?_);have g:Ext s (kJ s i o m):=Ext.of_bl ⟨[],rfl⟩ rfl;have e:(kJ s i o m).cl j=if j=i then{s.cl i with doing:=some (heardOn o m)}else s.cl j:=rfl
  rw[e]at hp;by_cases q:j=i
  ·subst q;rw[if_pos rfl]at hp;cases hp;have k:=h.on j y z o O;refine⟨k.k1,k.k4,k.l0,k.l3,k.t0,k.t1,k.t2,k.g0,by rw[e,if_pos rfl];exact k.g1,g.at_ k.ev,k.lk,k.ask,?_,fun h4=>?_⟩
   ·show 0≤(if o.att.base<m.base then m.base else o.att.base);have:=k.e0;split<;>omega
   have b4:o.att.awaited=4:=h4;obtain⟨kk,_,Z⟩:=h.sent hm;have N:m.base=0:=by
    rcases Z.ca with⟨c,_⟩|⟨c,_⟩|⟨_,_,_,_,c⟩
    ·omega
    ·omega
    ·exact(c (by omega)).2.2
   obtain⟨v1,v2⟩:=k.av b4;have S:¬o.att.base<m.base:=by
    have:=k.e0;omega
   show(s.bl o.att.bal).base=(if o.att.base<m.base then m.base else o.att.base)∧(s.bl o.att.bal).pv=(if o.att.base<m.base then m.val else o.att.val);rw[if_neg S,if_neg S];exact⟨v1,v2⟩
  ·rw[if_neg q]at hp;exact(h.on j y z p hp).go g rfl rfl (by rw[e,if_neg q];exact aL _)
 case prop=>
  intro i o D E L O h2 hq hr;have a:=h.on i D E o O;have G:o.att.bal≠0∧(s.bl o.att.bal).used=true∧(s.bl o.att.bal).cl=i:=by
   rcases h0.bal i D E o O with K|⟨K,q2,_⟩
   ·omega
   ·exact⟨by have:=(h0.fr0 _ K).1;omega,K,q2⟩
  obtain⟨N,W,a5⟩:=G;have a8:(s.bl o.att.bal).asked=false:=by
   cases q:(s.bl o.att.bal).asked with
   |false=>rfl
   |true=>have:=(a.ask N).1 q;omega
  have U:=a.lk N;have H:=h.bg _ W;obtain⟨w,hw⟩:=aJ8 (dD f (s.cl i) o o.att.val);have C:(gP f s i o).tr=s.tr++fD (s.cl i) (eV o w) 3 o.att.base w.next (gB f):=by rw[←hw];rfl
  have F:∀b,(gP f s i o).bl b=if b=o.att.bal then{s.bl o.att.bal with asked:=true,base:=o.att.base,pv:=o.att.val,val:=w.next,t1:=s.tr.length}else s.bl b:=fun b=>by rw[←hw];rfl
  have M:∀j,(gP f s i o).cl j=if j=i then{s.cl i with doing:=some (eV o w)}else s.cl j:=fun j=>by rw[←hw];rfl
  have T:(gP f s i o).opx=s.opx:=rfl;have g:Ext s (gP f s i o):=⟨⟨_,C⟩,fun b v=>by
   rw[F];by_cases q:b=o.att.bal
   ·rw[if_pos q,q];exact⟨W,rfl,rfl,rfl,rfl,rfl,rfl,rfl⟩
   ·rw[if_neg q];exact⟨v,rfl,rfl,rfl,rfl,rfl,rfl,rfl⟩,fun b v=>by
   rw[F,if_neg (fun e=>by rw[e,a8]at v;cases v)]⟩
  generalize hS:gP f s i o=s' at*;have hn:0<gB f:=by unfold gB;omega
  have X:s'.tr[s.tr.length]?=some (fI ⟨3,i,0,o.lock,o.att.bal,o.att.base,w.next⟩):=by
   rw[C,bK (aE _),Nat.sub_self];unfold fD;obtain⟨n,b0⟩:∃n,gB f=n+1:=⟨gB f-1,by omega⟩;rw[b0,List.range_succ_eq_map];simp[eV,h0.num i D E]
  refine⟨fun j y z p hp=>?_,fun b v=>?_,fun b v=>?_,fun k e I hk1=>?_,fun j=>?_⟩
  ·rw[M]at hp;by_cases q:j=i
   ·subst q;rw[if_pos rfl]at hp;cases hp;have u:s'.bl (eV o w).att.bal={s.bl o.att.bal with asked:=true,base:=o.att.base,pv:=o.att.val,val:=w.next,t1:=s.tr.length}:=by
     show s'.bl o.att.bal=_;rw[F,if_pos rfl]
    refine⟨a.k1,a.k4,a.l0,a.l3,a.t0,a.t1,a.t2,a.g0,by rw[M,if_pos rfl];exact a.g1,by rw[T];exact g.at_ a.ev,fun _=>?_,fun _=>?_,a.e0,fun _=>?_⟩
    ·rw[u,T];exact U
    ·rw[u];exact⟨fun _=>rfl,fun _=>rfl⟩
    ·rw[u];exact⟨rfl,rfl⟩
   ·rw[if_neg q]at hp;have Q:p.att.bal≠o.att.bal:=h0.other D E y z (fun e=>q e.symm) O hp N;refine(h.on j y z p hp).go2 g (fun _=>by rw[F,if_neg Q]) (fun h4=>?_) (by rw[T]) (by rw[M,if_neg q];exact aL _);rcases h0.bal j y z p hp with K|⟨K,_⟩
    ·omega
    ·have:=(h0.fr0 _ K).1;omega
  ·by_cases q:b=o.att.bal
   ·subst q;rw[F,if_pos rfl];refine⟨H.k1,H.k4,H.l0,H.l3,H.g0,H.op,bU H.t0 g.len,g.at_ H.ev,fun _=>H.t0,fun _=>?_⟩;show s'.tr[s.tr.length]?=some (fI ⟨3,(s.bl o.att.bal).cl,0,(s.bl o.att.bal).lock,o.att.bal,o.att.base,w.next⟩);rw[a5,U.2.1];exact X
   ·rw[F,if_neg q]at v;exact g.bg v (by rw[F,if_neg q]) (h.bg b v)
  ·rw[F]at v⊢;by_cases q:b=o.att.bal
   ·rw[if_pos q];exact W
   ·rw[if_neg q]at v⊢;exact h.ask b v
  ·rw[C]at I;by_cases R:k<s.tr.length
   ·rw[bJ R]at I;exact g.msg (h.ms k e I hk1)
   ·rw[bK (by omega)]at I;obtain⟨d,_,rfl⟩:=bN.1 (List.mem_of_getElem? I);have u:s'.bl o.att.bal={s.bl o.att.bal with asked:=true,base:=o.att.base,pv:=o.att.val,val:=w.next,t1:=s.tr.length}:=by rw[F,if_pos rfl]
    refine⟨?_,?_,?_,Or.inr (Or.inl ⟨rfl,?_,?_,?_⟩)⟩
    ·show(s'.bl o.att.bal).used=true;rw[u];exact W
    ·show o.lock=(s'.bl o.att.bal).lock;rw[u];exact U.2.1.symm
    ·show(s'.bl o.att.bal).t0≤k;rw[u];show(s.bl o.att.bal).t0≤k;have:=H.t0;omega
    ·show(s'.bl o.att.bal).asked=true;rw[u]
    ·show(s'.bl o.att.bal).t1≤k;rw[u];show s.tr.length≤k;omega
    ·show(⟨3,(s.cl i).num,(d:Int),o.lock,o.att.bal,o.att.base,w.next⟩:Mg)=aAs o.att.bal (s'.bl o.att.bal) (d:Int);rw[u,h0.num i D E];show _=(⟨3,(s.bl o.att.bal).cl,(d:Int),(s.bl o.att.bal).lock,o.att.bal,o.att.base,w.next⟩:Mg);rw[a5,U.2.1]
  ·rw[C,aD,T];have:=h.ol j;omega
 case lose=>
  intro i D E L;have et:(sM s i).tr=s.tr++[gD (-1-(s.cl i).num)]:=by
   show s.tr++jU (s.cl i)=_;unfold jU;rw[if_neg (by rw[L];decide)]
  refine h.quiet (s':=sM s i) et rfl (fun x g=>by rw[List.mem_singleton]at g;subst g;show(4:Int)≠1;decide) (fun j=>by
   rw[et,aD];have:=h.ol j;show s.opx j≤_;omega) (fun j y z p hp=>?_)
  have g:Ext s (sM s i):=Ext.of_bl ⟨_,et⟩ rfl;have e:(sM s i).cl j=if j=i then mX (s.cl i)else s.cl j:=rfl
  rw[e]at hp;by_cases q:j=i
  ·rw[if_pos q,uE L]at hp;cases hp
  ·rw[if_neg q]at hp;exact(h.on j y z p hp).go g rfl rfl (by rw[e,if_neg q];exact aL _)
 case ret=>
  intro i D E L hi;have et:(uL s i).tr=s.tr++[pD (-1-(s.cl i).num)]:=by
   show s.tr++fW (s.cl i)=_;have e:dW (s.cl i)=0:=by unfold dW;rw[if_neg (by rw[L];decide),if_neg (by omega)]
   unfold fW;rw[e,if_neg (by decide)]
  refine h.quiet (s':=uL s i) et rfl (fun x g=>by rw[List.mem_singleton]at g;subst g;show(5:Int)≠1;decide) (fun j=>by
   rw[et,aD];have:=h.ol j;show s.opx j≤_;omega) (fun j y z p hp=>?_)
  have g:Ext s (uL s i):=Ext.of_bl ⟨_,et⟩ rfl;have e:(uL s i).cl j=if j=i then jC (s.cl i)else s.cl j:=rfl
  rw[e]at hp;by_cases q:j=i
  ·rw[if_pos q,uV L hi]at hp;rw[show({s.cl i with inc:=(s.cl i).inc+1,up:=true}:Ct).doing=(s.cl i).doing from rfl,(h0.gone i D E L).2.2.2.2.2]at hp;cases hp
  ·rw[if_neg q]at hp;exact(h.on j y z p hp).go g rfl rfl (by rw[e,if_neg q];exact aL _)
 case acc=>
  intro j m e y z hm I he;have g:Ext s (sD s j m e):=Ext.of_bl ⟨e,rfl⟩ rfl;have a4:(sD s j m e).opx=s.opx:=rfl;refine⟨fun i D E p hp=>(h.on i D E p hp).go g rfl rfl (aL _),fun b v=>g.bg v rfl (h.bg b v),h.ask,fun k x hk' hk1=>?_,fun i=>?_⟩
  ·have J:(s.tr++e)[k]?=some x:=hk';by_cases R:k<s.tr.length
   ·rw[bJ R]at J;exact g.msg (h.ms k x J hk1)
   ·rw[bK (by omega)]at J;rcases he with rfl|rfl
    ·simp at J
    ·have a9:x=fI (jH j (s.tb j m.lock) m):=by
      have:=List.mem_of_getElem? J;rw[List.mem_singleton]at this;exact this
     subst a9;obtain⟨kk,b7,Z⟩:=h.sent hm;have G:(jH j (s.tb j m.lock) m).bal=m.bal:=rfl;have a2:(jH j (s.tb j m.lock) m).lock=m.lock:=rfl;have Y:(jH j (s.tb j m.lock) m).src=j:=rfl;have a6:(jH j (s.tb j m.lock) m).dst=m.src:=rfl;have b3:m.src=(s.bl m.bal).cl:=by
      rcases Z.ca with⟨_,c⟩|⟨_,_,_,c⟩|⟨c,_⟩
      ·have:=congrArg Mg.src c;exact this
      ·have:=congrArg Mg.src c;exact this
      ·omega
     have a3:((jH j (s.tb j m.lock) m).kind=2∨(jH j (s.tb j m.lock) m).kind=4∨(jH j (s.tb j m.lock) m).kind=5)∧((jH j (s.tb j m.lock) m).kind=4→m.kind=3∧(jH j (s.tb j m.lock) m).base=0):=by
      unfold jH decMsg;by_cases K:m.bal<(s.tb j m.lock).prom
      ·rw[if_pos K];exact⟨Or.inr (Or.inr rfl),fun q=>absurd (show(5:Int)=4 from q) (by decide)⟩
      ·rw[if_neg K];by_cases q2:m.kind=1
       ·rw[if_pos q2];exact⟨Or.inl rfl,fun q=>absurd (show(2:Int)=4 from q) (by decide)⟩
       ·rw[if_neg q2];exact⟨Or.inr (Or.inl rfl),fun _=>⟨by omega,rfl⟩⟩
     show zE f (sD s j m _) k (jH j (s.tb j m.lock) m);refine⟨?_,?_,?_,Or.inr (Or.inr ⟨a3.1,by rw[Y];exact y,by rw[Y];exact z,?_,fun q=>?_⟩)⟩
     ·rw[G];exact Z.us
     ·rw[G,a2];exact Z.lk
     ·rw[G];have:=Z.t0;show(s.bl m.bal).t0≤k;omega
     ·rw[G,a6];exact b3
     ·rw[G];obtain⟨q3,q4⟩:=a3.2 q;rcases Z.ca with⟨c,_⟩|⟨_,c1,c2,c3⟩|⟨c,_⟩
      ·omega
      ·refine⟨c1,?_,q4⟩;show(s.bl m.bal).t1<k;omega
      ·omega
  ·show s.opx i≤(s.tr++e).length;rw[aD];have:=h.ol i;omega
 case ev=>
  intro j k y I;have g:Ext s (sEv s j k):=Ext.of_bl ⟨_,rfl⟩ rfl;refine h.quiet (s':=sEv s j k) rfl rfl (fun x g=>by rw[List.mem_singleton]at g;subst g;show k≠1;omega) (fun i=>by
   show s.opx i≤(s.tr++_).length;rw[aD];have:=h.ol i;omega) (fun i D E p hp=>(h.on i D E p hp).go g rfl rfl (aL _))
end Go.Proofs.YtbbdgokdfhdpiaaGreatDoor
