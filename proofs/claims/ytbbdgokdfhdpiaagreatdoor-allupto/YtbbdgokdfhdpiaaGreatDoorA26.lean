/- A part of the proof: PMor3. -/
import Derived.Test.YtbbdgokdfhdpiaaGreatDoorA24
namespace Go.Proofs.YtbbdgokdfhdpiaaGreatDoor
set_option linter.all false
set_option maxRecDepth 100000
set_option maxHeartbeats 40000000
open Go.Proofs.Tryz Go.RowKit
section
variable (W:World) (own:Nat→Nat) (g:Nat) (x:Mo) (N i:Int)
theorem aFI(l:Int)(h:Moor W own g x)(hok:MoOk N x):
 Calls prog 16 #[.pointer (some ⟨g,0,none⟩),.int .i64 i,.int .i64 l] W fun r W'=>r= .returned (.bool (aC9 x i l))∧Below W.heap.size W W':=by
 obtain⟨J,O,L,I,h⟩:=h;have E:=hok.nc;have F:=fJ hok.conf;obtain⟨M,R,s,_⟩:=h.cells;obtain⟨p,n,rfl,c⟩:=fK h.rcv;have v:W.cell? ⟨g,1,none⟩=some (.slice p x.cls.length n):=cO s 1 _ rfl;have o:=cN (lF W g i p x.cls.length n (by omega) v);have H:=cN h;have A:=cN c;clear s c;unfold aC9;by_cases d:dT i x.cls.length=true
 ·rw[d,Bool.true_and];rw[d]at o;obtain⟨K,Q⟩:=(dY _ _).1 d;obtain⟨m,q⟩:=hok.cl d;obtain⟨a,f⟩:=mL d;obtain⟨j,rfl⟩:∃j:Nat,i=j:=⟨i.toNat,by omega⟩;have t:j<x.cls.length:=by omega
  obtain⟨k,rfl,P⟩:=A.out j t;have B:((j:Int).toNat)=j:=by omega
  simp only[B]at f m;obtain⟨z,y,D,wt,w,b⟩:=h.cls j t;rw[←f]at b;have C:=cN (aIk W _ _ g x.cf (clM x j) z y D wt w l b);clear m q f a h hok b;go_enter func16,ntmps16;go_wp2_with (first|(go_at_call 47;refine o.out.mono ?_;rintro e u ⟨rfl,rfl⟩)|(go_at_call 48;refine C.out.mono ?_;rintro r G ⟨rfl,rfl⟩));all_goals
   go_ret;exact⟨by simp_all,by first|exact aJ _ _|exact(aJ _ _).drew⟩
 ·have a:dT i x.cls.length=false:=by simpa using d
  rw[a,Bool.false_and];rw[a]at o;clear h hok d a;go_enter func16,ntmps16;go_wp2_with (go_at_call 47;refine o.out.mono ?_;rintro e u ⟨rfl,rfl⟩);go_ret;exact⟨rfl,aJ _ _⟩
theorem aG5(h:Moor W own g x)(hok:MoOk N x):
 Calls prog 109 #[.pointer (some ⟨g,0,none⟩),.int .i64 i] W fun r W'=>r= .returned (.bool (aGw x i))∧Below W.heap.size W W':=by
 obtain⟨I,M,K,G,h⟩:=h;have D:=hok.nc;have E:=fJ hok.conf;obtain⟨L,Q,q,_⟩:=h.cells;obtain⟨p,m,rfl,c⟩:=fK h.rcv;have u:W.cell? ⟨g,1,none⟩=some (.slice p x.cls.length m):=cO q 1 _ rfl;have n:=cN (lF W g i p x.cls.length m (by omega) u);have H:=cN h;have z:=cN c;clear q c;unfold aGw;by_cases d:dT i x.cls.length=true
 ·rw[d,Bool.true_and];rw[d]at n;obtain⟨J,P⟩:=(dY _ _).1 d;obtain⟨l,o⟩:=hok.cl d;obtain⟨a,f⟩:=mL d;obtain⟨j,rfl⟩:∃j:Nat,i=j:=⟨i.toNat,by omega⟩;have s:j<x.cls.length:=by omega
  obtain⟨k,rfl,O⟩:=z.out j s;have A:((j:Int).toNat)=j:=by omega
  simp only[A]at f l;obtain⟨y,w,C,wt,v,b⟩:=h.cls j s;rw[←f]at b;have B:=cN (aJo W _ _ g x.cf (clM x j) y w C wt v b);clear l o f a h hok b;go_enter func109,ntmps109;go_wp2_with (first|(go_at_call 47;refine n.out.mono ?_;rintro e t ⟨rfl,rfl⟩)|(go_at_call 148;refine B.out.mono ?_;rintro r F ⟨rfl,rfl⟩));all_goals
   go_ret;exact⟨by simp_all,by first|exact aJ _ _|exact(aJ _ _).drew⟩
 ·have a:dT i x.cls.length=false:=by simpa using d
  rw[a,Bool.false_and];rw[a]at n;clear h hok d a;go_enter func109,ntmps109;go_wp2_with (go_at_call 47;refine n.out.mono ?_;rintro e t ⟨rfl,rfl⟩);go_ret;exact⟨rfl,aJ _ _⟩
end
theorem aAZ{x:Mo}{N:Int}(hok:MoOk N x){i:Int}(hi:dT i x.cls.length=true)(hN:N≤90000000000):aAr (clM x i):=by
 have c:=hok.nc;have d:=fJ hok.conf;obtain⟨a,b⟩:=hok.cl hi;exact⟨by rw[a.core.num];omega,by rw[a.core.num];omega,a.core.i1,a.core.i2,a.core.c1,by have:=a.core.c2;omega,a.core.r1,a.core.r2⟩
theorem aA4(x:Mo)(i kk l t:Int):lT x i kk l t=(!(dT i x.cls.length)|| !(wiB kk 1 4)|| !(wiB l 0 3)||(decide (kk≤2)&& !(wiB t 1 1000))):=by
 unfold lT wiB;simp only[Bool.decide_and]
theorem aE3(W:World)(own:Nat→Nat)(g:Nat)(x:Mo)(N i kk l t:Int)(h:Moor W own g x)(hok:MoOk N x)(hN:N≤90000000000):
 Calls prog 37 #[.pointer (some ⟨g,0,none⟩),.int .i64 i,.int .i64 kk,.int .i64 l,.int .i64 t] W fun r W'=>r= .returned (.int .i64 (yK x i kk l t))∧MoTo W own g (oW x i kk l t) W':=by
 obtain⟨av,cv,bA,bC,h⟩:=h;have a6:=hok.nc;have a2:=fJ hok.conf;obtain⟨nv,tv,hb,_⟩:=h.cells;obtain⟨p,D,rfl,R⟩:=fK h.rcv;have c1:W.cell? ⟨g,1,none⟩=some (.slice p x.cls.length D):=cO hb 1 _ rfl;have I:=cN (lF W g i p x.cls.length D (by omega) c1);have H:=cN h;have HP:=cN R;have HB:=cN hb;clear hb R;unfold yK oW;rw[aA4];by_cases A:dT i x.cls.length=true
 ·rw[A]at I⊢;by_cases M:wiB kk 1 4=true
  ·rw[M];by_cases O:wiB l 0 3=true
   ·rw[O];have L:1≤kk∧kk≤4:=by simpa[wiB]using M
    have X:0≤l∧l≤3:=by simpa[wiB]using O
    obtain⟨h0,h1⟩:=(dY _ _).1 A;obtain⟨a9,P⟩:=mL A;have a3:=aAZ hok A hN;obtain⟨j,rfl⟩:∃j:Nat,i=j:=⟨i.toNat,by omega⟩;have J:j<x.cls.length:=by omega
    obtain⟨k,rfl,ck⟩:=HP.out j J;have T:=h.sys j J;have ej:((j:Int).toNat)=j:=by omega
    simp only[ej]at P;rw[←P]at T;have y:=cN a2;have U:=cN a3;have Q:clM x (j:Int)=x.cls[j]'J:=P;have V:=cN Q;have EJ:=cN ej;have Y:=cN (show(x.net.length:Int)≤90000000000 by have:=hok.nl;omega);have Z:=cN (show(x.tr.length:Int)≤90000000000 by have:=hok.tl;omega);clear a2 a3 Q P ej a9 T hok h a6;by_cases o:kk≤2
    ·have z:(decide (kk≤2))=true:=by simpa using o
     rw[z];have w:qW kk t=t:=by unfold qW;rw[if_pos o]
     by_cases ht:wiB t 1 1000=true
     ·have a8:1≤t∧t≤1000:=by simpa[wiB]using ht
      rw[ht];simp only[Bool.not_true,Bool.or_self,Bool.and_false,aU,if_false];rw[w];have HK:=cN L;have G:kk=1∨kk=2:=by omega
      clear z o w A X L;have K:=cN a8;rcases G with u|u
      ·subst u;go_enter func37,ntmps37;go_wp2_with (first|(go_at_call 47;refine I.out.mono ?_;rintro e s ⟨rfl,b⟩;have a:=b.symm;subst a;clear b)|(go_at_call 80;refine(iI _ _ _ _).mono ?_;rintro e s ⟨rfl,b⟩;have a:=b.symm;subst a;clear b));generalize m:W.alloc (.cells #[.int .i64 1,.int .i64 l,.int .i64 t] 68)=W1;have n:W1.heap[W.heap.size]?=some (.cells #[.int .i64 1,.int .i64 l,.int .i64 t] 68 (0,0)):=by rw[←m];exact aA W _
       have c:Chg (fun q=>W.heap.size≤q) W W1:=by rw[←m];exact(Chg.refl _ _).alloc _
       have f:=H.out.kept c (fun q hq h=>by have:=H.out.lt q hq;omega);have E:=H.out.lt k (by rw[H.out.cvb k rfl];decide);have a0:W1.cell? ⟨g,1,none⟩=some (.slice (some ⟨k,0,none⟩) x.cls.length D):=cO (c.kept HB.out (by have:=dG HB.out;omega)) 1 _ rfl;have a1:=(aW (c.block k E (by omega))).trans ck;have HL:=cN (cR (W:=W1.drew) n);have d:=f.sys j J;rw[←V.out]at d;have HT:=cN (yX W1.drew _ _ _ g x.cf _ _ (clM x j) x.net x.tr 1 l t d.drew y.out.1.1 y.out.1.2 U.out (by have:=K.out.1;omega) (K.out.2) (by have:=Y.out;omega) (by have:=Z.out;omega));have B:=cN f;have F:=cN c;clear n c f d m ck c1;refine eD [0,0,0,1,0,0,1,1] (by kernel_rfl) (fun _ _ _ _=>rfl) ?_;simp only[dC,dB];iterate 7 (apply sB rfl rfl;·(intro x h;(try cases h rfl);go_simp;with_reducible rfl))
       try simp only[pA]
       refine dA (v:=opV 1 l t) rfl (fun x hx=>cU 68 _ rfl ⟨W.heap.size,0,none⟩ rfl [.int .i64 1,.int .i64 l,.int .i64 t] _ (by subst hx;exact HL.out) underlying68 rfl (by kernel_rfl)) ?_;refine cP ?_;(try simp only[pA]);go_wp2_with (go_at_call 81;refine HT.out.mono ?_;rintro r W5 ⟨rfl,k1⟩);go_ret;refine⟨rfl,?_⟩;have C:=B.out.clientTo j J (After.drew k1);have e:gC x (j:Int) (gU (clM x j) 1 l t) (iB x.cf (clM x j) 1 l t)={x with cls:=x.cls.set j (gU (clM x j) 1 l t),net:=x.net++dJ (iB x.cf (clM x j) 1 l t),tr:=x.tr++iB x.cf (clM x j) 1 l t}:=by unfold gC;rw[EJ.out]
       rw[e];exact MoTo.trans (own1:=own) (F.out.mono (fun q hq h=>by omega)) (fun q h=>Or.inl h) C
      ·subst u;go_enter func37,ntmps37;go_wp2_with (first|(go_at_call 47;refine I.out.mono ?_;rintro e s ⟨rfl,b⟩;have a:=b.symm;subst a;clear b)|(go_at_call 80;refine(iI _ _ _ _).mono ?_;rintro e s ⟨rfl,b⟩;have a:=b.symm;subst a;clear b));generalize m:W.alloc (.cells #[.int .i64 2,.int .i64 l,.int .i64 t] 68)=W1;have n:W1.heap[W.heap.size]?=some (.cells #[.int .i64 2,.int .i64 l,.int .i64 t] 68 (0,0)):=by rw[←m];exact aA W _
       have c:Chg (fun q=>W.heap.size≤q) W W1:=by rw[←m];exact(Chg.refl _ _).alloc _
       have f:=H.out.kept c (fun q hq h=>by have:=H.out.lt q hq;omega);have E:=H.out.lt k (by rw[H.out.cvb k rfl];decide);have a0:W1.cell? ⟨g,1,none⟩=some (.slice (some ⟨k,0,none⟩) x.cls.length D):=cO (c.kept HB.out (by have:=dG HB.out;omega)) 1 _ rfl;have a1:=(aW (c.block k E (by omega))).trans ck;have HL:=cN (cR (W:=W1.drew) n);have d:=f.sys j J;rw[←V.out]at d;have HT:=cN (yX W1.drew _ _ _ g x.cf _ _ (clM x j) x.net x.tr 2 l t d.drew y.out.1.1 y.out.1.2 U.out (by have:=K.out.1;omega) (K.out.2) (by have:=Y.out;omega) (by have:=Z.out;omega));have B:=cN f;have F:=cN c;clear n c f d m ck c1;refine eD [0,0,0,1,0,0,1,1] (by kernel_rfl) (fun _ _ _ _=>rfl) ?_;simp only[dC,dB];iterate 7 (apply sB rfl rfl;·(intro x h;(try cases h rfl);go_simp;with_reducible rfl))
       try simp only[pA]
       refine dA (v:=opV 2 l t) rfl (fun x hx=>cU 68 _ rfl ⟨W.heap.size,0,none⟩ rfl [.int .i64 2,.int .i64 l,.int .i64 t] _ (by subst hx;exact HL.out) underlying68 rfl (by kernel_rfl)) ?_;refine cP ?_;(try simp only[pA]);go_wp2_with (go_at_call 81;refine HT.out.mono ?_;rintro r W5 ⟨rfl,k1⟩);go_ret;refine⟨rfl,?_⟩;have C:=B.out.clientTo j J (After.drew k1);have e:gC x (j:Int) (gU (clM x j) 2 l t) (iB x.cf (clM x j) 2 l t)={x with cls:=x.cls.set j (gU (clM x j) 2 l t),net:=x.net++dJ (iB x.cf (clM x j) 2 l t),tr:=x.tr++iB x.cf (clM x j) 2 l t}:=by unfold gC;rw[EJ.out]
       rw[e];exact MoTo.trans (own1:=own) (F.out.mono (fun q hq h=>by omega)) (fun q h=>Or.inl h) C
     ·have a7:wiB t 1 1000=false:=by simpa using ht
      rw[a7];simp only[Bool.not_true,Bool.not_false,Bool.or_self,Bool.false_or,Bool.and_true,Bool.or_true,if_true];clear z w A X ht;have G:kk=1∨kk=2:=by omega
      rcases G with u|u;all_goals
       subst u;clear o L;go_enter func37,ntmps37;go_wp2_with (first|(go_at_call 47;refine I.out.mono ?_;rintro e s ⟨rfl,b⟩;have a:=b.symm;subst a;clear b)|(go_at_call 80;refine(iI _ _ _ _).mono ?_;rintro e s ⟨rfl,b⟩;have a:=b.symm;subst a;clear b));go_ret;exact⟨rfl,MoTo.kept (S:=fun q=>W.heap.size≤q) ⟨_,_,bA,bC,H.out⟩ (by first|exact Chg.refl _ _|exact(Chg.refl _ _).alloc _) (fun q hq h=>by have:=H.out.lt q hq;omega) (fun q hq h=>by omega)⟩
    ·have z:(decide (kk≤2))=false:=by simpa using o
     have e1:(kk==1)=false:=by rw[beq_eq_false_iff_ne];omega
     have e2:(kk==2)=false:=by rw[beq_eq_false_iff_ne];omega
     have w:qW kk t=0:=by unfold qW;rw[if_neg o]
     rw[z];simp only[Bool.not_true,Bool.or_self,Bool.false_and,aU,if_false];rw[w];clear z o w A X L;go_enter func37,ntmps37;go_wp2_with (first|(go_at_call 47;refine I.out.mono ?_;rintro e s ⟨rfl,b⟩;have a:=b.symm;subst a;clear b)|(go_at_call 80;refine(iI _ _ _ _).mono ?_;rintro e s ⟨rfl,b⟩;have a:=b.symm;subst a;clear b));generalize m:W.alloc (.cells #[.int .i64 kk,.int .i64 l,.int .i64 0] 68)=W1;have n:W1.heap[W.heap.size]?=some (.cells #[.int .i64 kk,.int .i64 l,.int .i64 0] 68 (0,0)):=by rw[←m];exact aA W _
     have c:Chg (fun q=>W.heap.size≤q) W W1:=by rw[←m];exact(Chg.refl _ _).alloc _
     have f:=H.out.kept c (fun q hq h=>by have:=H.out.lt q hq;omega);have E:=H.out.lt k (by rw[H.out.cvb k rfl];decide);have a0:W1.cell? ⟨g,1,none⟩=some (.slice (some ⟨k,0,none⟩) x.cls.length D):=cO (c.kept HB.out (by have:=dG HB.out;omega)) 1 _ rfl;have a1:=(aW (c.block k E (by omega))).trans ck;have HL:=cN (cR (W:=W1.drew) n);have d:=f.sys j J;rw[←V.out]at d;have HT:=cN (yX W1.drew _ _ _ g x.cf _ _ (clM x j) x.net x.tr kk l 0 d.drew y.out.1.1 y.out.1.2 U.out (aL 0) (by decide) (by have:=Y.out;omega) (by have:=Z.out;omega));have B:=cN f;have F:=cN c;clear n c f d m ck c1;refine eD [0,0,0,1,0,0,1,1] (by kernel_rfl) (fun _ _ _ _=>rfl) ?_;simp only[dC,dB];iterate 7 (apply sB rfl rfl;·(intro x h;(try cases h rfl);go_simp;with_reducible rfl))
     try simp only[pA]
     refine dA (v:=opV kk l 0) rfl (fun x hx=>cU 68 _ rfl ⟨W.heap.size,0,none⟩ rfl [.int .i64 kk,.int .i64 l,.int .i64 0] _ (by subst hx;exact HL.out) underlying68 rfl (by kernel_rfl)) ?_;refine cP ?_;(try simp only[pA]);go_wp2_with (go_at_call 81;refine HT.out.mono ?_;rintro r W5 ⟨rfl,k1⟩);go_ret;refine⟨rfl,?_⟩;have C:=B.out.clientTo j J (After.drew k1);have e:gC x (j:Int) (gU (clM x j) kk l 0) (iB x.cf (clM x j) kk l 0)={x with cls:=x.cls.set j (gU (clM x j) kk l 0),net:=x.net++dJ (iB x.cf (clM x j) kk l 0),tr:=x.tr++iB x.cf (clM x j) kk l 0}:=by unfold gC;rw[EJ.out]
     rw[e];exact MoTo.trans (own1:=own) (F.out.mono (fun q hq h=>by omega)) (fun q h=>Or.inl h) C
   ·have a5:wiB l 0 3=false:=by simpa using O
    rw[a5];simp only[Bool.not_true,Bool.not_false,Bool.or_self,Bool.false_or,Bool.or_true,Bool.true_or,if_true];clear A O hok h;go_enter func37,ntmps37;go_wp2_with (first|(go_at_call 47;refine I.out.mono ?_;rintro e s ⟨rfl,b⟩;have a:=b.symm;subst a;clear b)|(go_at_call 80;refine(iI _ _ _ _).mono ?_;rintro e s ⟨rfl,b⟩;have a:=b.symm;subst a;clear b));go_ret;exact⟨rfl,MoTo.of ⟨_,_,bA,bC,H.out⟩⟩
  ·have a4:wiB kk 1 4=false:=by simpa using M
   rw[a4];simp only[Bool.not_true,Bool.not_false,Bool.or_self,Bool.false_or,Bool.or_true,Bool.true_or,if_true];clear A M hok h;go_enter func37,ntmps37;go_wp2_with (first|(go_at_call 47;refine I.out.mono ?_;rintro e s ⟨rfl,b⟩;have a:=b.symm;subst a;clear b)|(go_at_call 80;refine(iI _ _ _ _).mono ?_;rintro e s ⟨rfl,b⟩;have a:=b.symm;subst a;clear b));go_ret;exact⟨rfl,MoTo.of ⟨_,_,bA,bC,H.out⟩⟩
 ·have b0:dT i x.cls.length=false:=by simpa using A
  rw[b0]at I⊢;simp only[Bool.not_true,Bool.not_false,Bool.or_self,Bool.false_or,Bool.or_true,Bool.true_or,if_true];clear A hok h;go_enter func37,ntmps37;go_wp2_with (first|(go_at_call 47;refine I.out.mono ?_;rintro e s ⟨rfl,b⟩;have a:=b.symm;subst a;clear b)|(go_at_call 80;refine(iI _ _ _ _).mono ?_;rintro e s ⟨rfl,b⟩;have a:=b.symm;subst a;clear b));go_ret;exact⟨rfl,MoTo.of ⟨_,_,bA,bC,H.out⟩⟩
end Go.Proofs.YtbbdgokdfhdpiaaGreatDoor
