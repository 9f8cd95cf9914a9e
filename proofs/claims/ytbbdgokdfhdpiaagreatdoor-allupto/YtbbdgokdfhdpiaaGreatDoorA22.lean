/- A part. -/
import Derived.Test.YtbbdgokdfhdpiaaGreatDoorA15
import Derived.Test.YtbbdgokdfhdpiaaGreatDoorA16
namespace Go.Proofs.YtbbdgokdfhdpiaaGreatDoor
set_option linter.all false
set_option maxRecDepth 100000
set_option maxHeartbeats 0
open Go.Proofs.Tryz Go.RowKit
theorem aJU{rs:List Rw}{r:Rw}(h:r ∈ eG rs 4):dX rs r.lock.toNat=some r∧0≤r.lock:=by
 simp only[eG,List.mem_filterMap,List.mem_range]at h;obtain⟨k,c,a⟩:=h;have b:r.lock=(k:Int):=by
  unfold dX at a;simpa using List.find?_some a
 rw[b];exact⟨by simpa using a,by omega⟩
theorem aKp{rs:List Rw}{l:Nat}(hl:l<4){r:Rw}(h:dX rs l=some r):r ∈ eG rs 4∧r.lock=(l:Int):=by
 refine⟨?_,?_⟩
 ·simp only[eG,List.mem_filterMap,List.mem_range];exact⟨l,hl,h⟩
 ·unfold dX at h;simpa using List.find?_some h
theorem aAT{w:World}{base:Nat}{v:Value}{n:Nat}{xs:List Value}{t:TypeId}{sz:Nat}(h:w.ownsRow base t sz v n xs):∃p cap,v= .slice p n cap∧(0<n→∃g,p=some ⟨g,0,none⟩):=by
 rcases h.2 with⟨rfl,rfl⟩|⟨g,cap,a,rfl,_⟩
 ·exact⟨none,0,rfl,fun h=>absurd h (by omega)⟩
 ·exact⟨some ⟨g,0,none⟩,cap,rfl,fun _=>⟨g,rfl⟩⟩
theorem aIP(W:World)(b:Nat)(f:Cf)(a:Ra)(l:Int)(h:RaAt W b f a)(hl:a.log.length≤1000000000)(hby:∀x ∈ a.log,0≤x∧x<256)(hl0:0≤l)(hl3:l≤3):
 Calls prog 183 #[.pointer (some ⟨b,0,none⟩),.int .i64 l] W fun r W'=>r= .returned (rwV (uC a l))∧Below W.heap.size W W':=by
 have C:=fun x (hx:RaAt x b f a)=>xC x b f a hx hl hby;have c:∀(k:Nat) (V:k<(eG (dO a.log) 4).length),(eG (dO a.log) 4)[k].lock=l→uC a l=(eG (dO a.log) 4)[k]:=fun k V he=>by
  unfold uC;rw[←he,(aJU (bF V)).1]
  rfl
 have q:(∀(j:Nat) (m:j<(eG (dO a.log) 4).length),(eG (dO a.log) 4)[j].lock≠l)→uC a l={zRw with lock:=l}:=fun hn=>by
  unfold uC;cases hq:dX (dO a.log) l.toNat with
  |none=>rfl
  |some r=>
   obtain⟨hm,he⟩:=aKp (by omega) hq;obtain⟨j,m,a5⟩:=List.mem_iff_getElem.1 hm;exact absurd (by rw[a5,he];omega) (hn j m)
 have a2:(eG (dO a.log) 4).length≤4:=lC _ _;generalize eG (dO a.log) 4=T at*;have S:=aA W (.cells #[.int .i64 0,.int .i64 0,.int .i64 0,.int .i64 0,.int .i64 0,.int .i64 0,.int .i64 0] 58);have F:Below W.heap.size W (W.alloc (.cells #[.int .i64 0,.int .i64 0,.int .i64 0,.int .i64 0,.int .i64 0,.int .i64 0,.int .i64 0] 58)):=(aJ _ W).alloc (aE _) _;have O:(W.alloc (.cells #[.int .i64 0,.int .i64 0,.int .i64 0,.int .i64 0,.int .i64 0,.int .i64 0,.int .i64 0] 58)).heap.size=W.heap.size+1:=by simp
 have h1:=RaAt.below h F;generalize L:W.alloc (.cells #[.int .i64 0,.int .i64 0,.int .i64 0,.int .i64 0,.int .i64 0,.int .i64 0,.int .i64 0] 58)=W1 at*;have a6:=cN L;have K:=cN (C W1 h1);have z:=cN (aLp S F O);have HF:=cN c;have HN:=cN q;clear L h1 h C S F O c q;go_enter func183,ntmps183;go_wp2_with (first|rw[a6.out]|(go_at_call 149;refine K.out.mono ?_;rintro e Z ⟨v,rfl,X,J⟩;refine cQ ?_));have u:∀(g A:Nat),v= .slice (some ⟨g,0,none⟩) T.length A→sP Z g T:=fun g A e=>by subst e;exact mL X
 obtain⟨p,A,rfl,hp⟩:=aAT X;have s:Z.heap[W.heap.size]?=some (.cells (rwL zRw).toArray 58 (0,0)):=(J.block _ (by have:=z.out.2.2;omega)).trans z.out.1;have t:=cN s;have B:=cN (z.out.2.1.trans (J.mono z.out.2.1.size));have HR:=cN u;clear X J s u;refine cN ?_;obtain⟨N,U⟩:=aLA (T.length);rw[U]at hp a2;simp only[U];have P:=cN U;clear U K;go_wp2;go_loopw [6] (fun i wr=>∃(k:Nat),k≤N∧i= .int .i64 k∧(∀(j:Nat) (m:j<T.length),j<k→T[j].lock≠l)∧wr=Z) (fun i _=>N-(intOf i).toNat)
 case atStart=>exact⟨0,aI _,rfl,fun j _ h=>absurd h (by omega),rfl⟩
 case round=>
  obtain⟨k,V,rfl,Q,rfl⟩:=hrel;have I:=cN Q;clear Q;by_cases a0:k<N
  ·obtain⟨g,rfl⟩:=hp (by omega);have M:k<T.length:=by rw[P.out];exact a0
   have D:=HR.out g A rfl k M;have a4:=cN (HF.out k M);have w:T[k].lock≠l→∀(j:Nat) (m:j<T.length),j<k+1→T[j].lock≠l:=fun w j m hjk=>by
    rcases Nat.lt_or_ge j k with h'|h'
    ·exact I.out j m h'
    ·have:j=k:=by omega
     subst this;exact w
   have a3:=cN w;clear w I;generalize T[k]=R at*;have c0:wr.cell? ⟨g,k*7,none⟩=some (.int .i64 R.lock):=D 0 _ rfl;have HL:Hid (∀j y,(rwL R)[j]?=some y→wr.cell? ((⟨g,k*7,none⟩:Addr).add j)=some y):=fun j y m=>by
    have e:(⟨g,k*7,none⟩:Addr).add j=⟨g,k*7+j,none⟩:=by unfold Addr.add;split<;>simp_all
    rw[e];exact D j y m
   clear D;by_cases d:R.lock=l
   ·have J:(R.lock==l)=true:=by simp[d]
    have Y:=cN d;clear d;go_wp2_with (first|(refine cW rfl 58 _ rfl ⟨g,k*7,none⟩ rfl (rwL R) _ HL.out underlying58 rfl (by kernel_rfl) ?_)|(refine cV rfl 58 _ _ rfl W.heap.size 0 58 _ _ (rwL R) rfl rfl t.out (by kernel_rfl) (by simp[Value.oneCell']) (by simp) rfl ?_;intro W3 n E o;refine cQ ?_));have G:=cN (B.out.trans (n.below (fun x hx=>by omega) B.out.size));have H:=cN o;clear n E o;refine cN ?_;go_wp2_with fail;exact bodyPost_ret (zJ _ results183 _ W.heap.size R _ rfl H.out) rfl ⟨by rw[a4.out Y.out],G.out⟩
   ·have J:(R.lock==l)=false:=by simp[d]
    have Y:=cN d;clear d;go_wp2_with fail;go_roundw
    case rel=>exact⟨k+1,by omega,by go_num,a3.out Y.out,by trivial⟩
    case measure=>simp[intOf];omega
  ·have a1:=cN (HN.out (fun j m=>I.out j m (by rw[P.out]at m;omega)));go_wp2_with (refine cV rfl 58 _ _ rfl W.heap.size 0 58 _ _ (rwL {zRw with lock:=l}) rfl rfl t.out (by kernel_rfl) (by simp[Value.oneCell']) (by simp) rfl ?_;intro W3 n E o;refine cQ ?_);have G:=cN (B.out.trans (n.below (fun x hx=>by omega) B.out.size));have H:=cN o;clear n E o;refine cN ?_;go_wp2_with fail;exact bodyPost_ret (zJ _ results183 _ W.heap.size {zRw with lock:=l} _ rfl H.out) rfl ⟨by rw[a1.out],G.out⟩
theorem xE(r:Rw):(dW r).length≤25:=by
 unfold dW;split
 ·rw[oC];exact aE _
 ·simp
theorem aCy(a:Ra):(stepR a).log=a.log:=by unfold stepR;split<;>rfl
theorem aFu(a:Ra):(stepR a).keep=a.keep:=by unfold stepR;split<;>rfl
theorem aBs(a:Ra)(h: -1≤a.left)(h0:a.left≠0): -1≤(stepR a).left∧(stepR a).left≤a.left:=by unfold stepR;split<;>constructor<;>(try dsimp only)<;>omega
theorem aFK(W:World)(b:Nat)(f:Cf)(a:Ra)(r:Rw)(h:RaAt W b f a)(hl:a.log.length≤1000000000)(h1: -1≤a.left)(h2:a.left≤9223372036854775807)(hk:0≤a.keep):
 Calls prog 156 #[.pointer (some ⟨b,0,none⟩),rwV r] W fun e W'=>e= .returned (.bool (dR f.room a r).2)∧RaTo W b f (dR f.room a r).1 W':=by
 have V:Below W.heap.size W (W.alloc (.cells #[.int .i64 r.lock,.int .i64 r.prom,.int .i64 r.acc,.int .i64 r.own,.int .i64 r.tok,.int .i64 r.ttl,.int .i64 r.seq] 58)):=(aJ _ W).alloc (aE _) _;have v:=RaAt.below h V;have a8:∀j y,(rwL r)[j]?=some y→(W.alloc (.cells #[.int .i64 r.lock,.int .i64 r.prom,.int .i64 r.acc,.int .i64 r.own,.int .i64 r.tok,.int .i64 r.ttl,.int .i64 r.seq] 58)).cell? ((⟨W.heap.size,0,none⟩:Addr).add j)=some y:=cR (cs:=rwL r) (aA W _);generalize hX:W.alloc (.cells #[.int .i64 r.lock,.int .i64 r.prom,.int .i64 r.acc,.int .i64 r.own,.int .i64 r.tok,.int .i64 r.ttl,.int .i64 r.seq] 58)=W0 at*;have M:=cN hX;have O:=cN a8;have C:=cN (nX r W0);have H:=cN (RaTo.below h V);have c7:W0.cell? ⟨b,7,none⟩=some (.string (strOfNums a.log)):=cO v 7 _ rfl;have b1:=xE r;have s:=fun x (hx:RaAt x b f a)=>zF x b f a hx h1 h2;clear hX a8 V;by_cases F:a.left=0
 ·have G:dR f.room a r=(fW a a.log,false):=by unfold dR;rw[if_pos F]
  rw[G];simp only[F,decide_true,Bool.not_true,if_true]at s;have I:=cN s;have l:=cN v;clear s v F G h;generalize hS:strOfNums (dW r)=S at*;go_enter func156,ntmps156;go_wp2_with (first|rw[M.out]|(refine cW rfl 58 _ rfl ⟨W.heap.size,0,none⟩ rfl (rwL r) _ O.out underlying58 rfl (by kernel_rfl) ?_)|(go_at_call 70;refine C.out.mono ?_;rintro e W1 ⟨rfl,i⟩;have d:=cN i;clear i;refine cQ ?_));refine cN ?_;have A:=cN (RaAt.below l.out d.out);go_wp2_with (first|(go_at_call 184;refine(I.out _ A.out).mono ?_;rintro e K ⟨rfl,g⟩;have c:=cN g;clear g;refine cQ ?_));refine cN ?_;have z:=cN (pQ K b f a a.log c.out.1);go_wp2_with (first|(go_at_call 161;refine z.out.mono ?_;rintro e R ⟨rfl,B⟩));go_ret;exact⟨rfl,H.out.trans ((RaTo.below l.out d.out).trans (c.out.trans B))⟩
 ·simp only[F,decide_false,Bool.not_false,if_false]at s;have I:=cN s;have l:=cN v;have a3:=aBs a h1 F;have Y:=aCy a;have Q:=aFu a;generalize u:stepR a=a1 at*;have b5:=cN u;have b8:IntKind.i64.wrap ((a.log.length:Int)+(dW r).length)=(a.log.length:Int)+(dW r).length:=fV (by omega) (by omega);have b2:=kH a.log;have b3:=kH (dW r);by_cases T:f.room<(a.log.length:Int)+(dW r).length
  ·have G:dR f.room a r=({a1 with silent:=true},false):=by unfold dR;rw[if_neg F];dsimp only;rw[u,if_pos T]
   rw[G];have a9:decide (f.room<(a.log.length:Int)+(dW r).length)=true:=by simp[T]
   clear s v F G h T u Y Q a3;generalize b6:strOfNums (dW r)=S at*;generalize ((dW r).length:Int)=n at*;go_enter func156,ntmps156;go_wp2_with (first|rw[M.out]|(refine cW rfl 58 _ rfl ⟨W.heap.size,0,none⟩ rfl (rwL r) _ O.out underlying58 rfl (by kernel_rfl) ?_)|(go_at_call 70;refine C.out.mono ?_;rintro e W1 ⟨rfl,i⟩;have d:=cN i;clear i;refine cQ ?_));refine cN ?_;have A:=cN (RaAt.below l.out d.out);go_wp2_with (first|(go_at_call 184;refine(I.out _ A.out).mono ?_;rintro e K ⟨rfl,g⟩;have c:=cN g;clear g;refine cQ ?_));refine cN ?_;have d6:K.cell? ⟨b,6,none⟩=some (.int .i64 f.room):=cO c.out.1 6 _ rfl;have d9:K.cell? ⟨b,9,none⟩=some (.bool a1.silent):=cO c.out.1 9 _ rfl;have z9:=cX c.out.1 9;have HT:Hid (RaTo K b f {a1 with silent:=true} (K.setCell ⟨b,9,none⟩ (.bool true))):=⟨dD c.out.1 9 _,cY _ _ _ _⟩;go_wp2_with fail;go_ret;exact⟨rfl,H.out.trans ((RaTo.below l.out d.out).trans (c.out.trans HT.out))⟩
  ·have a9:decide (f.room<(a.log.length:Int)+(dW r).length)=false:=by simp[T]
   have o:=fun x (hx:RaAt x b f a1)=>zF x b f a1 hx (by omega) (by omega);by_cases E:a1.left=0
   ·have G:dR f.room a r=(fW a1 (a.log++(dW r).take (min a1.keep (dW r).length).toNat),false):=by unfold dR;rw[if_neg F];dsimp only;rw[u,if_neg T,if_pos E]
    rw[G];simp only[E,decide_true,Bool.not_true,if_true]at o;have J:=cN o;have b4:0≤a1.keep:=by rw[Q];exact hk
    clear s o v F G h T u Y Q a3 E;obtain⟨q,hq⟩:=aLz (min a1.keep (dW r).length);rw[←hq];generalize hT:dW r=t at*;have a7:0≤q:=by omega
    have a5:q≤t.length:=by omega
    have k:=fun w=>run_string_add_sum (P:=prog) w (strOfNums a.log) (strOfNums (t.take q.toNat)) (by rw[dU,dU,bD];omega);have U:=fun x (hx:RaAt x b f a1)=>pQ x b f a1 (a.log++t.take q.toNat) hx;rw[←fS]at U;have a6:=cN U;have HQ:=cN hq;have N:=cN k;clear U hT k hq;go_enter func156,ntmps156;go_wp2_with (first|rw[M.out]|(refine cW rfl 58 _ rfl ⟨W.heap.size,0,none⟩ rfl (rwL r) _ O.out underlying58 rfl (by kernel_rfl) ?_)|(go_at_call 70;refine C.out.mono ?_;rintro e W1 ⟨rfl,i⟩;have d:=cN i;clear i;refine cQ ?_));refine cN ?_;have A:=cN (RaAt.below l.out d.out);go_wp2_with (first|(go_at_call 184;refine(I.out _ A.out).mono ?_;rintro e K ⟨rfl,g⟩;have c:=cN g;clear g;refine cQ ?_));refine cN ?_;have d6:K.cell? ⟨b,6,none⟩=some (.int .i64 f.room):=cO c.out.1 6 _ rfl;go_wp2_with (first|(go_at_call 184;refine(J.out _ c.out.1).mono ?_;rintro e R ⟨rfl,B⟩;have m:=cN B;clear B;refine cQ ?_));clear d6;refine cN ?_;have b7:R.cell? ⟨b,11,none⟩=some (.int .i64 a1.keep):=cO m.out.1 11 _ rfl;by_cases L:(t.length:Int)<a1.keep
    ·have b0:decide ((t.length:Int)<a1.keep)=true:=by simp[L]
     have p:q=t.length:=by have:=HQ.out;omega
     have k:=N.out;have D:=pH t q.toNat;have X:t.take q.toNat=t:=by rw[p,bB,bR]
     have z:=cN (a6.out R m.out.1);rw[X]at k D z;rw[p,bB]at D;have a4:=cN X;clear p L a7 a5 N X;go_wp2_with (first|rw[D]|(go_at_call 161;refine z.out.mono ?_;rintro e W4 ⟨rfl,a0⟩));go_ret;rw[a4.out];exact⟨rfl,H.out.trans ((RaTo.below l.out d.out).trans (c.out.trans (m.out.trans a0)))⟩
    ·have b0:decide ((t.length:Int)<a1.keep)=false:=by simp[L]
     have p:q=a1.keep:=by have:=HQ.out;omega
     have k:=N.out;have D:=pH t q.toNat;rw[p]at k D a7 a5;have z:=cN (a6.out R m.out.1);rw[p]at z;have a4:=cN p;clear p L N;go_wp2_with (first|rw[D]|(go_at_call 161;refine z.out.mono ?_;rintro e W4 ⟨rfl,a0⟩));go_ret;rw[a4.out];exact⟨rfl,H.out.trans ((RaTo.below l.out d.out).trans (c.out.trans (m.out.trans a0)))⟩
   ·have G:dR f.room a r=({stepR a1 with log:=a.log++dW r},true):=by unfold dR;rw[if_neg F];dsimp only;rw[u,if_neg T,if_neg E]
    rw[G];simp only[E,decide_false,Bool.not_false,if_false]at o;have J:=cN o;generalize hT:dW r=t at*;have k:=fun w=>run_string_add_sum (P:=prog) w (strOfNums a.log) (strOfNums t) (by rw[dU,dU];omega);generalize stepR a1=a2 at*;clear s o v F G h T u Y Q a3 E hT;go_enter func156,ntmps156;go_wp2_with (first|rw[M.out]|(refine cW rfl 58 _ rfl ⟨W.heap.size,0,none⟩ rfl (rwL r) _ O.out underlying58 rfl (by kernel_rfl) ?_)|(go_at_call 70;refine C.out.mono ?_;rintro e W1 ⟨rfl,i⟩;have d:=cN i;clear i;refine cQ ?_));refine cN ?_;have A:=cN (RaAt.below l.out d.out);go_wp2_with (first|(go_at_call 184;refine(I.out _ A.out).mono ?_;rintro e K ⟨rfl,g⟩;have c:=cN g;clear g;refine cQ ?_));refine cN ?_;have d6:K.cell? ⟨b,6,none⟩=some (.int .i64 f.room):=cO c.out.1 6 _ rfl;go_wp2_with (first|(go_at_call 184;refine(J.out _ c.out.1).mono ?_;rintro e R ⟨rfl,B⟩;have m:=cN B;clear B;refine cQ ?_));clear d6;refine cN ?_;have d7:R.cell? ⟨b,7,none⟩=some (.string (strOfNums a2.log)):=cO m.out.1 7 _ rfl;have z7:=cX m.out.1 7;have Z:=dD m.out.1 7 (.string (strOfNums a.log++strOfNums t));have HT:Hid (RaTo R b f {a2 with log:=a.log++t} (R.setCell ⟨b,7,none⟩ (.string (strOfNums a.log++strOfNums t)))):=by
     refine⟨?_,cY _ _ _ _⟩;rw[fS]at Z⊢;exact Z
    clear Z;go_wp2_with fail;go_ret;exact⟨rfl,H.out.trans ((RaTo.below l.out d.out).trans (c.out.trans (m.out.trans HT.out)))⟩
theorem aEN(rs:List Rw):(fA rs).length≤100:=by
 unfold fA;have a:=lC rs 4;generalize eG rs 4=T at*;have:∀(l:List Rw),(l.flatMap dW).length≤25*l.length:=by
  intro l;induction l with
  |nil=>simp
  |cons r l ih=>simp only[List.flatMap_cons,aD,bI];have:=xE r;omega
 have:=this T;omega
theorem aID(l:List Rw):(l.flatMap dW).length≤25*l.length:=by
 induction l with
 |nil=>simp
 |cons r l ih=>simp only[List.flatMap_cons,aD,bI];have:=xE r;omega
theorem aHu{T:List Rw}{k:Nat}(hk:k<T.length):(T.take (k+1)).flatMap dW=(T.take k).flatMap dW++dW T[k]:=by
 rw[List.take_succ_eq_append_getElem hk,List.flatMap_append];simp
theorem wB(room:Int)(s:List Int)(n:Nat)(x:Ra):kF room s (n+1) x=if x.left=0 then fW x x.log else if n=3∧room<((stepR x).log.length:Int)+s.length then{stepR x with silent:=true}else kF room s n (stepR x):=rfl
section
variable (W:World) (b:Nat) (f:Cf) (a:Ra)
theorem yG(h:RaAt W b f a)(hl:a.log.length≤1000000000)(hby:∀x ∈ a.log,0≤x∧x<256)(h1: -1≤a.left)(h2:a.left≤9223372036854775807):
 Calls prog 160 #[.pointer (some ⟨b,0,none⟩)] W fun e W'=>e= .returned (.tuple #[])∧RaTo W b f (gY f.room a) W':=by
 have hS:gY f.room a=kF f.room (fA (dO a.log)) 5 a:=rfl;have K:=aEN (dO a.log);rw[hS];have J:=xC W b f a h hl hby;have c2:(eG (dO a.log) 4).length≤4:=lC _ _;have a2:fA (dO a.log)=(eG (dO a.log) 4).flatMap dW:=rfl;rw[a2]at K⊢;generalize eG (dO a.log) 4=T at*;have Z:=cN J;have HH:=cN h;obtain⟨S,U⟩:=aLA (T.flatMap dW);rw[U]at K⊢;obtain⟨A,hA⟩:=aLA (kF f.room S 5 a);rw[hA];have c0:=cN U;have HA:=cN hA;clear hS a2 J h U hA;go_enter func160,ntmps160;go_wp2_with (go_at_call 149;refine Z.out.mono ?_;rintro e W1 ⟨v,rfl,ho,hb⟩;refine cQ ?_);have D:∀(g H:Nat),v= .slice (some ⟨g,0,none⟩) T.length H→sP W1 g T:=fun g H e=>by subst e;exact mL ho
 have F:=ho.lt;obtain⟨p,H,rfl,hp⟩:=aAT ho;have Q:=cN (RaTo.below HH.out hb);have HR:=cN D;have L:∀g,p=some ⟨g,0,none⟩→g<W1.heap.size:=fun g e=>by subst e;exact(F g rfl).2
 have b3:=cN L;clear ho hb D L F;refine cN ?_;obtain⟨N,hN⟩:=aLA (T.length);rw[hN]at hp c2;simp only[hN];have a6:=cN hN;clear hN Z;go_wp2;go_loopw [3,4] (fun s i wr=>∃(k:Nat),k≤N∧i= .int .i64 k∧s= .string (strOfNums ((T.take k).flatMap dW))∧Below W1.heap.size W1 wr) (fun _ i _=>N-(intOf i).toNat)
 case atStart=>exact⟨0,aI _,rfl,by simp[strOfNums],aJ _ _⟩
 case round=>
  obtain⟨k,hk,rfl,rfl,u⟩:=hrel;by_cases F:k<N
  ·obtain⟨g,rfl⟩:=hp (by omega);have a1:k<T.length:=by rw[a6.out];exact F
   have a0:=HR.out g H rfl k a1;have a7:=aHu a1;have d0:=aID (T.take k);have c6:(T.take k).length≤4:=by rw[bD];omega
   have c3:=b3.out g rfl;generalize T[k]=R at*;have HL:Hid (∀j y,(rwL R)[j]?=some y→wr.cell? ((⟨g,k*7,none⟩:Addr).add j)=some y):=fun j y hj=>by
    have e:(⟨g,k*7,none⟩:Addr).add j=⟨g,k*7+j,none⟩:=by unfold Addr.add;split<;>simp_all
    rw[e,u.cell (p:=⟨g,k*7+j,none⟩) c3];exact a0 j y hj
   have b0:=cN (nX R wr);have d1:=xE R;have c8:=fun w=>run_string_add_sum (P:=prog) w (strOfNums ((T.take k).flatMap dW)) (strOfNums (dW R)) (by rw[dU,dU];omega);have HB:=cN u;have c4:=cN a7;generalize (T.take k).flatMap dW=S at*;clear a0 u a7;go_wp2_with (first|(refine cW rfl 58 _ rfl ⟨g,k*7,none⟩ rfl (rwL R) _ HL.out underlying58 rfl (by kernel_rfl) ?_)|(go_at_call 70;refine b0.out.mono ?_;rintro e W2 ⟨rfl,b8⟩));go_roundw
   case rel=>exact⟨k+1,by omega,by go_num,by rw[c4.out,fS],HB.out.trans (b8.mono HB.out.size)⟩
   case measure=>simp[intOf];omega
  ·have b1:k=N:=by omega
   have a3:T.take k=T:=aY (by rw[a6.out];omega);have b5:Hid (RaTo W b f a wr):=Q.out.trans (RaTo.below Q.out.1 u);rw[a3,c0.out];clear u a3 b1 Q;have b6:=kH S;go_wp2;go_loopw [5] (fun i wx=>∃(j:Nat) (x:Ra),j≤5∧i= .int .i64 j∧RaTo W b f x wx∧x.log=a.log∧ -1≤x.left∧x.left≤9223372036854775807∧kF f.room S (5-j) x=A) (fun i _=>5-(intOf i).toNat)
   case atStart=>exact⟨0,a,by omega,rfl,b5.out,rfl,h1,h2,HA.out⟩
   case round=>
    obtain⟨j,x,hj,rfl,I,G,a4,b2,l⟩:=hrel;have X:=cN I;by_cases d2:j<5
    ·have d:=zF wr b f x I.1 a4 b2;obtain⟨n,hn⟩:∃n,5-j=n+1:=⟨4-j,by omega⟩;rw[hn]at l;by_cases M:x.left=0
     ·have z:kF f.room S (n+1) x=fW x x.log:=by rw[wB,if_pos M]
      rw[z]at l;simp only[M,decide_true,Bool.not_true,if_true]at d;have C:=cN d;have E:=cN l;clear d l z I M G;go_wp2_with (go_at_call 184;refine C.out.mono ?_;rintro e q ⟨rfl,c⟩;refine cQ ?_);have d7:q.cell? ⟨b,7,none⟩=some (.string (strOfNums x.log)):=cO c.1 7 _ rfl;have b7:=cN (pQ q b f x x.log c.1);have m:=cN c;clear c;refine cN ?_;go_wp2_with (go_at_call 161;refine b7.out.mono ?_;rintro e W4 ⟨rfl,c5⟩)
      (first|go_end0|((try simp only[Exit.inBlock,Exit.then]);refine bodyPost_ret (results_none rfl _ _ _) rfl ?_))
      exact⟨rfl,by rw[←E.out];exact X.out.trans (m.out.trans c5)⟩
     ·have z:kF f.room S (n+1) x=if n=3∧f.room<((stepR x).log.length:Int)+S.length then{stepR x with silent:=true}else kF f.room S n (stepR x):=by rw[wB,if_neg M]
      rw[z]at l;simp only[M,decide_false,Bool.not_false,if_false]at d;have c9:=aBs x a4 M;have o:=aCy x;rw[o,G]at l;rw[G]at o;generalize stepR x=x1 at*;have C:=cN d;have E:=cN l;have a8:=kH a.log;have a9:=kH S;have b4:IntKind.i64.wrap ((a.log.length:Int)+S.length)=(a.log.length:Int)+S.length:=fV (by omega) (by omega);clear d l z I M G;have a5:=cN o;by_cases O:j=1
      ·have t:n=3:=by omega
       by_cases V:f.room<(a.log.length:Int)+S.length
       ·have c1:decide (f.room<(a.log.length:Int)+S.length)=true:=by simp[V]
        have r:=E.out;rw[if_pos ⟨t,V⟩]at r;have B:=cN r;clear r E V t hn;subst O;go_wp2_with (go_at_call 184;refine C.out.mono ?_;rintro e q ⟨rfl,c⟩;refine cQ ?_);have d7:q.cell? ⟨b,7,none⟩=some (.string (strOfNums a.log)):=by rw[←o];exact cO c.1 7 _ rfl
        have d6:q.cell? ⟨b,6,none⟩=some (.int .i64 f.room):=cO c.1 6 _ rfl;have d9:q.cell? ⟨b,9,none⟩=some (.bool x1.silent):=cO c.1 9 _ rfl;have z9:=cX c.1 9;have HT:Hid (RaTo q b f {x1 with silent:=true} (q.setCell ⟨b,9,none⟩ (.bool true))):=⟨dD c.1 9 _,cY _ _ _ _⟩;have b9:Hid (RaTo q b f {x1 with silent:=true} (q.drew.setCell ⟨b,9,none⟩ (.bool true))):=⟨dD (show q.drew.heap[b]?=_ from c.1) 9 _,(cY _ _ _ _).of_drew⟩;have m:=cN c;clear c o;refine cN ?_;go_wp2_with fail;refine eD [0,0,0,0,0,0,1,1,0,1,0,0,0,0,0,1,0,0] (by kernel_rfl) (fun _ _ _ _=>rfl) ?_;simp only[dC,dB];iterate 18 ((try simp only[pA]);first|(apply sB rfl rfl;·(intro x h;(try cases h rfl);go_simp;with_reducible rfl))|apply dN rfl|apply dL rfl)
        refine cP ?_;try simp only[pA]
        go_wp2_with fail
        (first|go_end0|((try simp only[Exit.inBlock,Exit.then]);refine bodyPost_ret (results_none rfl _ _ _) rfl ?_))
        exact⟨rfl,by rw[←B.out];exact X.out.trans (m.out.trans b9.out)⟩
       ·have c1:decide (f.room<(a.log.length:Int)+S.length)=false:=by simp[V]
        have r:=E.out;rw[if_neg (fun h=>V h.2)]at r;have B:=cN r;clear r E V;subst O;go_wp2_with (go_at_call 184;refine C.out.mono ?_;rintro e q ⟨rfl,c⟩;refine cQ ?_);have d7:q.cell? ⟨b,7,none⟩=some (.string (strOfNums a.log)):=by rw[←o];exact cO c.1 7 _ rfl
        have d6:q.cell? ⟨b,6,none⟩=some (.int .i64 f.room):=cO c.1 6 _ rfl;have m:=cN c;clear c o;refine cN ?_;go_wp2_with fail;refine eD [0,0,0,0,0,0,1,1,0,1,0,0,0,0,0,1,0,0] (by kernel_rfl) (fun _ _ _ _=>rfl) ?_;simp only[dC,dB];iterate 18 ((try simp only[pA]);first|(apply sB rfl rfl;·(intro x h;(try cases h rfl);go_simp;with_reducible rfl))|apply dN rfl|apply dL rfl)
        refine cP ?_;try simp only[pA]
        go_wp2_with fail;go_roundw
        case rel=>exact⟨2,x1,by omega,by go_num,X.out.trans ⟨m.out.1,m.out.2.drew⟩,a5.out,by omega,by omega,by rw[←B.out];congr 1;omega⟩
        case measure=>simp[intOf]
      ·have t:n≠3:=by omega
       have d3:((j:Int)==1)=false:=by simp;omega
       have r:=E.out;rw[if_neg (fun h=>t h.1)]at r;have B:=cN r;have HN:=cN hn;clear r E t O hn;go_wp2_with (go_at_call 184;refine C.out.mono ?_;rintro e q ⟨rfl,c⟩;refine cQ ?_);have m:=cN c;clear c o b4 a8 a9 b6;refine cN ?_;go_wp2_with fail;refine eD [0,0,0,0,0,0,1,1,0,1,0,0,0,0,0,1,0,0] (by kernel_rfl) (fun _ _ _ _=>rfl) ?_;simp only[dC,dB];iterate 18 ((try simp only[pA]);first|(apply sB rfl rfl;·(intro x h;(try cases h rfl);go_simp;with_reducible rfl))|apply dN rfl|apply dL rfl)
       refine cP ?_;try simp only[pA]
       go_wp2_with fail;go_roundw
       case rel=>exact⟨j+1,x1,by omega,by go_num,X.out.trans ⟨m.out.1,m.out.2.drew⟩,a5.out,by omega,by omega,by rw[←B.out];congr 1;have:=HN.out;omega⟩
       case measure=>simp[intOf];omega
    ·have Y:5-j=0:=by omega
     rw[Y]at l;have z7:=cX I.1 7;have c7:wr.cell? ⟨b,7,none⟩=some (.string (strOfNums x.log)):=cO I.1 7 _ rfl;have HT:Hid (RaTo wr b f {x with log:=S} (wr.setCell ⟨b,7,none⟩ (.string (strOfNums S)))):=⟨dD I.1 7 _,cY _ _ _ _⟩;have E:=cN (show{x with log:=S}=_ from l);clear l I Y;go_wp2_with fail;go_end0;exact⟨rfl,by rw[←E.out];exact X.out.trans HT.out⟩
theorem aAn(h:RaAt W b f a)(hl:a.log.length≤1000000000)(hby:∀x ∈ a.log,0≤x∧x<256)(h1: -1≤a.left)(h2:a.left≤9223372036854775807):
 Calls prog 162 #[.pointer (some ⟨b,0,none⟩)] W fun e W'=>e= .returned (.tuple #[])∧RaTo W b f (jF f a) W':=by
 have H:W.cell? ⟨b,8,none⟩=some (.bool a.up):=cO h 8 _ rfl;have L:=cX h 8;have g:RaAt (W.setCell ⟨b,8,none⟩ (.bool true)) b f {a with up:=true}:=dD h 8 (.bool true);have n:RaTo W b f {a with up:=true} (W.setCell ⟨b,8,none⟩ (.bool true)):=⟨g,cY _ _ _ _⟩;generalize y:W.setCell ⟨b,8,none⟩ (.bool true)=W1 at*;have B:=cN y;have o:=cN n;have I:W1.cell? ⟨b,7,none⟩=some (.string (strOfNums a.log)):=cO g 7 _ rfl;have d:=qR (strOfNums a.log) W1 (by rw[dU];omega);rw[nJ hby]at d;have F:25*(dO a.log).length≤a.log.length:=pE _ _;unfold jF;dsimp only;generalize (eG (dO a.log) 4)=T at d⊢;generalize (dO a.log).length=N at*;have A:=cN d;have E:=kH a.log;have M:IntKind.i64.wrap (25*(N:Int) / 25)=N:=by rw[fV (by omega) (by omega)];omega
 have p:(25*(N:Int)) / 25=N:=by omega
 have G:Int.tdiv ((25:Int)*(N:Int)) 25=N:=by rw[Int.tdiv_eq_ediv_of_nonneg (by omega)];omega
 rw[p];clear y n d h;by_cases l:25*(N:Int)<a.log.length∨f.compact<(N:Int)
 ·rw[if_pos l];have m:=fun x (hx:RaAt x b f {a with up:=true})=>yG x b f {a with up:=true} hx hl hby h1 h2;have t:=cN m;have J:=cN l;have c:=cN g;have j:decide (25*(N:Int)<a.log.length)=true∨(decide (25*(N:Int)<a.log.length)=false∧decide (f.compact<(N:Int))=true):=by
   rcases l with h|h
   ·left;simp[h]
   ·by_cases z:25*(N:Int)<a.log.length
    ·left;simp[z]
    ·right;exact⟨by simp[z],by simp[h]⟩
  clear m l g;rcases j with j|⟨j,s⟩;all_goals
   go_enter func162,ntmps162;go_wp2_with (first|rw[B.out]|(go_at_call 103;refine A.out.mono ?_;rintro e k ⟨v,rfl,r,i⟩;refine cQ ?_));have q:=cN i;have C:k.cell? ⟨b,7,none⟩=some (.string (strOfNums a.log)):=cO (RaAt.below c.out i) 7 _ rfl;have D:k.cell? ⟨b,5,none⟩=some (.int .i64 f.compact):=cO (RaAt.below c.out i) 5 _ rfl;have u:=cN (t.out k (RaAt.below c.out i));clear r i;refine cN ?_;go_wp2_with (go_at_call 160;refine u.out.mono ?_;rintro e K ⟨rfl,w⟩);go_end0;exact⟨rfl,o.out.trans ((RaTo.below c.out q.out).trans w)⟩
 ·rw[if_neg l];have c:=cN g;have j:decide (25*(N:Int)<a.log.length)=false:=by simp;omega
  have s:decide (f.compact<(N:Int))=false:=by simp;omega
  clear l g;go_enter func162,ntmps162;go_wp2_with (first|rw[B.out]|(go_at_call 103;refine A.out.mono ?_;rintro e k ⟨v,rfl,r,i⟩;refine cQ ?_));have q:=cN i;have C:k.cell? ⟨b,7,none⟩=some (.string (strOfNums a.log)):=cO (RaAt.below c.out i) 7 _ rfl;have D:k.cell? ⟨b,5,none⟩=some (.int .i64 f.compact):=cO (RaAt.below c.out i) 5 _ rfl;clear r i;refine cN ?_;go_wp2_with fail;go_end0;exact⟨rfl,o.out.trans (RaTo.below c.out q.out)⟩
end
theorem sN(fn:Func)(hr:fn.results=#[.cell 4 58,.cell 5 66])(tmps:Array Value)(x y:Nat)(r:Rw)(m:Mg)(W:World)(h4:tmps.getD 4 undef= .pointer (some ⟨x,0,none⟩))(h5:tmps.getD 5 undef= .pointer (some ⟨y,0,none⟩))(hb:W.heap[x]?=some (.cells (rwL r).toArray 58 (0,0)))(hc:W.heap[y]?=some (.cells (mgL m).toArray 66 (0,0))):
 (results fn tmps).run prog W= .ok (.tuple #[rwV r,mgV m]) W:=by
 have b:(loadVar 58 ⟨x,0,none⟩).run prog W= .ok (rwV r) W:=fC W ⟨x,0,none⟩ 58 (rwL r) _ (cR hb) underlying58 rfl (by kernel_rfl);have a:(loadVar 66 ⟨y,0,none⟩).run prog W= .ok (mgV m) W:=fC W ⟨y,0,none⟩ 66 (mgL m) _ (cR hc) underlying66 rfl (by kernel_rfl);unfold results;rw[hr];simp only[cK]at h4 h5;simp[h4,h5,asAddr,aT,b,a]
structure AnsSt(n0 q:Nat)(W0 W:World)(m:Mg)(R4:Rw)(M5:Mg)(R6:Rw)(X:Mg):Prop where
 bm:W.heap[n0]?=some (.cells (mgL m).toArray 66 (0,0))
 b4:W.heap[n0+1]?=some (.cells (rwL R4).toArray 58 (0,0))
 b5:W.heap[n0+2]?=some (.cells (mgL M5).toArray 66 (0,0))
 b6:W.heap[q]?=some (.cells (rwL R6).toArray 58 (0,0))
 b7:W.heap[q+1]?=some (.cells (mgL X).toArray 66 (0,0))
 b8:W.heap[q+2]?=some (.cells (rwL {zRw with lock:= -1}).toArray 58 (0,0))
 q:n0+3≤q
 be:Below n0 W0 W
theorem AnsSt.drew{n0 q:Nat}{W0 W:World}{m:Mg}{R4:Rw}{M5:Mg}{R6:Rw}{X:Mg}(h:AnsSt n0 q W0 W m R4 M5 R6 X):AnsSt n0 q W0 W.drew m R4 M5 R6 X:=⟨h.bm,h.b4,h.b5,h.b6,h.b7,h.b8,h.q,⟨h.be.os,h.be.tape,h.be.output,h.be.size,h.be.block⟩⟩
theorem uY{n b:Nat}{A B C:World}(h:Below n A B)(hc:Chg (fun k=>k=b) B C)(hb:n≤b)(hn:n≤B.heap.size):Below n A C:=h.trans (hc.below (fun k hk=>by omega) hn)
theorem AnsSt.n0{n0 q:Nat}{W0 W:World}{m:Mg}{R4:Rw}{M5:Mg}{R6:Rw}{X:Mg}(h:AnsSt n0 q W0 W m R4 M5 R6 X):n0≤W.heap.size:=Nat.le_of_lt (dG h.bm)
section
variable {n0 q:Nat} {W0 W W':World} {m:Mg}
theorem AnsSt.put4{R4 R4':Rw}{M5:Mg}{R6:Rw}{X:Mg}(h:AnsSt n0 q W0 W m R4 M5 R6 X)(hc:Chg (fun k=>k=n0+1) W W')(hb:W'.heap[n0+1]?=some (.cells (rwL R4').toArray 58 (0,0))):AnsSt n0 q W0 W' m R4' M5 R6 X:=
 have:=h.q
 ⟨hc.kept h.bm (by omega),hb,hc.kept h.b5 (by omega),hc.kept h.b6 (by omega),hc.kept h.b7 (by omega),hc.kept h.b8 (by omega),h.q,uY h.be hc (by omega) h.n0⟩
theorem AnsSt.put5{R4:Rw}{M5 M5':Mg}{R6:Rw}{X:Mg}(h:AnsSt n0 q W0 W m R4 M5 R6 X)(hc:Chg (fun k=>k=n0+2) W W')(hb:W'.heap[n0+2]?=some (.cells (mgL M5').toArray 66 (0,0))):AnsSt n0 q W0 W' m R4 M5' R6 X:=
 have:=h.q
 ⟨hc.kept h.bm (by omega),hc.kept h.b4 (by omega),hb,hc.kept h.b6 (by omega),hc.kept h.b7 (by omega),hc.kept h.b8 (by omega),h.q,uY h.be hc (by omega) h.n0⟩
theorem AnsSt.put6{R4:Rw}{M5:Mg}{R6 R6':Rw}{X:Mg}(h:AnsSt n0 q W0 W m R4 M5 R6 X)(hc:Chg (fun k=>k=q) W W')(hb:W'.heap[q]?=some (.cells (rwL R6').toArray 58 (0,0))):AnsSt n0 q W0 W' m R4 M5 R6' X:=
 have:=h.q
 ⟨hc.kept h.bm (by omega),hc.kept h.b4 (by omega),hc.kept h.b5 (by omega),hb,hc.kept h.b7 (by omega),hc.kept h.b8 (by omega),h.q,uY h.be hc (by omega) h.n0⟩
theorem AnsSt.put7{R4:Rw}{M5:Mg}{R6:Rw}{X X':Mg}(h:AnsSt n0 q W0 W m R4 M5 R6 X)(hc:Chg (fun k=>k=q+1) W W')(hb:W'.heap[q+1]?=some (.cells (mgL X').toArray 66 (0,0))):AnsSt n0 q W0 W' m R4 M5 R6 X':=
 have:=h.q
 ⟨hc.kept h.bm (by omega),hc.kept h.b4 (by omega),hc.kept h.b5 (by omega),hc.kept h.b6 (by omega),hb,hc.kept h.b8 (by omega),h.q,uY h.be hc (by omega) h.n0⟩
end
theorem aCt(a:Ra)(l:Int)(h0:0≤l):(uC a l).lock=l:=by
 unfold uC;cases hq:dX (dO a.log) l.toNat with
 |none=>rfl
 |some r=>
  unfold dX at hq;have:=List.find?_some hq;simp only[Option.getD_some];simp at this;omega
def sG:Option Rw→Rw
 |none=>{zRw with lock:= -1}
 |some r=>r
theorem aDw(W:World)(b:Nat)(f:Cf)(a:Ra)(m:Mg)(h:RaAt W b f a)(hl:a.log.length≤1000000000)(hby:∀x ∈ a.log,0≤x∧x<256)(hl0:0≤m.lock)(hl3:m.lock≤3)(hk:m.kind=1∨m.kind=3):
 Calls prog 155 #[.pointer (some ⟨b,0,none⟩),mgV m] W fun e W'=>e= .returned (.tuple #[rwV (sG (kD a m).1),mgV (kD a m).2])∧Below W.heap.size W W':=by
 have f4:=aCt a m.lock hl0;have a6:=fun x (w:RaAt x b f a)=>aIP x b f a m.lock w hl hby hl0 hl3;unfold kD;dsimp only;generalize uC a m.lock=R at*;obtain⟨U,I⟩:=aLz (((W.alloc (.cells (mgL m).toArray 66)).alloc (.cells (rwL zRw).toArray 58)).alloc (.cells (mgL zMg).toArray 66));have c7:((W.alloc (.cells #[.int .i64 m.kind,.int .i64 m.src,.int .i64 m.dst,.int .i64 m.lock,.int .i64 m.bal,.int .i64 m.base,.int .i64 m.val.own,.int .i64 m.val.tok,.int .i64 m.val.ttl,.int .i64 m.val.seq] 66)).alloc (.cells #[.int .i64 0,.int .i64 0,.int .i64 0,.int .i64 0,.int .i64 0,.int .i64 0,.int .i64 0] 58)).alloc (.cells #[.int .i64 0,.int .i64 0,.int .i64 0,.int .i64 0,.int .i64 0,.int .i64 0,.int .i64 0,.int .i64 0,.int .i64 0,.int .i64 0] 66)=U:=I.symm;have c4:U.heap[W.heap.size]?=some (.cells (mgL m).toArray 66 (0,0)):=by rw[I];exact dM _ (dM _ (aA W _))
 have e0:U.heap[W.heap.size+1]?=some (.cells (rwL zRw).toArray 58 (0,0)):=by
  rw[I];have:=aA (W.alloc (.cells (mgL m).toArray 66)) (.cells (rwL zRw).toArray 58);simp only[bK]at this;exact dM _ this
 have d0:U.heap[W.heap.size+2]?=some (.cells (mgL zMg).toArray 66 (0,0)):=by
  rw[I];have:=aA ((W.alloc (.cells (mgL m).toArray 66)).alloc (.cells (rwL zRw).toArray 58)) (.cells (mgL zMg).toArray 66);simpa only[bK]using this
 have b2:Below W.heap.size W U:=by
  rw[I];exact(((aJ _ W).alloc (aE _) _).alloc (by simp) _).alloc (by simp;omega) _
 have e6:U.heap.size=W.heap.size+3:=by rw[I];simp
 have e9:=RaAt.below h b2;have f0:=cN (a6 U e9);have f3:=cN c7;have m3:U.cell? ⟨W.heap.size,3,none⟩=some (.int .i64 m.lock):=cO c4 3 _ rfl;have X:=cN (aLr c4 e0 d0 b2 e6);clear I c7 c4 e0 d0 b2 e6 e9 a6 h;obtain⟨o,ho⟩:=aLA (sG (if mV m R=true then some (iR m R)else none));obtain⟨xo,c0⟩:=aLA (aJk (kA m R) m);rw[ho,c0];have HO:=cN ho;have Y:=cN c0;clear ho c0;go_enter func155,ntmps155;go_wp2_with (first|rw[f3.out]|(go_at_call 183;refine f0.out.mono ?_;rintro e W2 ⟨rfl,K⟩;refine cQ ?_));have a3:=(K.block W.heap.size (by have:=X.out.2.2.2.2;omega)).trans X.out.1;have a7:=(K.block (W.heap.size+1) (by have:=X.out.2.2.2.2;omega)).trans X.out.2.1;have b0:=(K.block (W.heap.size+2) (by have:=X.out.2.2.2.2;omega)).trans X.out.2.2.1;have d8:=X.out.2.2.2.1.trans (K.mono X.out.2.2.2.1.size);have d1:W.heap.size+3≤W2.heap.size:=by have:=K.size;have:=X.out.2.2.2.2;omega
 have T:=cN (aLr a3 a7 b0 d8 d1);clear a3 a7 b0 d8 d1 K m3;refine cN ?_;go_wp2_with (refine cV rfl 58 _ _ rfl (W2.heap.size) 0 58 _ _ (rwL R) rfl rfl (aA W2 _) (by kernel_rfl) (by simp[Value.oneCell']) (by simp) rfl ?_;intro Z e1 c6 c3;refine cQ ?_);have A:=((Chg.refl NoS W2).alloc _).nos.trans e1 (fun _ _ h=>h);have S:Z.heap.size=W2.heap.size+1:=by rw[c6];simp
 obtain⟨q,hq⟩:=aLA (W2.heap.size);rw[hq]at A c3 S;have B:=A.kept T.out.1 (by have:=T.out.2.2.2.2;omega);have a0:=A.kept T.out.2.1 (by have:=T.out.2.2.2.2;omega);have a8:=A.kept T.out.2.2.1 (by have:=T.out.2.2.2.2;omega);have d2:=T.out.2.2.2.1.trans (A.below (fun k hk=>by have:=T.out.2.2.2.2;omega) (by have:=T.out.2.2.2.2;omega));have H3:=cN (aLr B a0 a8 d2 c3);have m1:Z.cell? ⟨W.heap.size,1,none⟩=some (.int .i64 m.src):=cO B 1 _ rfl;have m2:Z.cell? ⟨W.heap.size,2,none⟩=some (.int .i64 m.dst):=cO B 2 _ rfl;have m3:Z.cell? ⟨W.heap.size,3,none⟩=some (.int .i64 m.lock):=cO B 3 _ rfl;have m4:Z.cell? ⟨W.heap.size,4,none⟩=some (.int .i64 m.bal):=cO B 4 _ rfl;have V:Hid (W.heap.size+3≤q):=by have:=T.out.2.2.2.2;rw[hq]at this;exact this
 have b9:=cN S;clear A B a0 a8 d2 c3 e1 c6 S;refine cN ?_;simp only[hq];clear hq;obtain⟨x,w⟩:∃x:Mg,x=⟨0,m.dst,m.src,m.lock,m.bal,0,zVl⟩:=⟨_,rfl⟩;have Q:=cN w;clear w;go_wp2_with (refine cV rfl 66 _ _ rfl (Z.heap.size) 0 66 _ _ (mgL ⟨0,m.dst,m.src,m.lock,m.bal,0,zVl⟩) rfl rfl (aA Z _) (by kernel_rfl) (by simp[Value.oneCell']) (by simp) rfl ?_;intro W4 d7 e4 b3;refine cQ ?_);have t:=((Chg.refl NoS Z).alloc _).nos.trans d7 (fun _ _ h=>h);have a5:W4.heap.size=q+2:=by rw[e4];simp;have:=b9.out;omega
 rw[b9.out]at t b3;have a1:=t.kept H3.out.1 (by have:=V.out;omega);have a4:=t.kept H3.out.2.1 (by have:=V.out;omega);have a2:=t.kept H3.out.2.2.1 (by have:=V.out;omega);have a9:=t.kept H3.out.2.2.2.2 (by omega);have d6:=H3.out.2.2.2.1.trans (t.below (fun k hk=>by have:=V.out;omega) H3.out.2.2.2.1.size);have c9:W4.heap[q+1]?=some (.cells (mgL x).toArray 66 (0,0)):=by rw[Q.out];exact b3
 have H4:=cN (aLs a1 a4 a2 d6 a9 c9);have e2:=cN a5;clear t a1 a4 a2 a9 d6 c9 b3 d7 e4 a5 m1 m2 m3 m4;refine cN ?_;simp only[b9.out];go_wp2_with (refine cV rfl 58 _ _ rfl (W4.heap.size) 0 58 _ _ (rwL {zRw with lock:= -1}) rfl rfl (aA W4 _) (by kernel_rfl) (by simp[Value.oneCell']) (by simp) rfl ?_;intro M l D i;refine cQ ?_);have n:=((Chg.refl NoS W4).alloc _).nos.trans l (fun _ _ h=>h);rw[e2.out]at n i;have hA:AnsSt W.heap.size q W M m zRw zMg R x:=⟨n.kept H4.out.1 (by have:=V.out;omega),n.kept H4.out.2.1 (by have:=V.out;omega),n.kept H4.out.2.2.1 (by have:=V.out;omega),n.kept H4.out.2.2.2.2.1 (by omega),n.kept H4.out.2.2.2.2.2 (by omega),i,V.out,H4.out.2.2.2.1.trans (n.below (fun k hk=>by have:=V.out;omega) H4.out.2.2.2.1.size)⟩;have J:=cN hA;clear n i hA l D;refine cN ?_;simp only[e2.out];have m4:M.cell? ⟨W.heap.size,4,none⟩=some (.int .i64 m.bal):=cO J.out.bm 4 _ rfl;have r1:M.cell? ⟨q,1,none⟩=some (.int .i64 R.prom):=cO J.out.b6 1 _ rfl;by_cases F:m.bal<R.prom
 ·have s:Hid (o={zRw with lock:= -1}∧xo={x with kind:=5,base:=R.prom}):=by
   refine⟨?_,?_⟩
   ·rw[←HO.out];simp[mV,sG,F]
   ·rw[←Y.out,Q.out];simp[kA,aJk,F,zMg]
  have hb:decide (m.bal<R.prom)=true:=by simpa using F
  clear F;have k0:M.cell? ⟨q+1,0,none⟩=some (.int .i64 x.kind):=cO J.out.b7 0 _ rfl;have z0:=cX J.out.b7 0;have g:=J.out.put7 (X':={x with kind:=5}) (cY M (q+1) 0 (.int .i64 5)) (dD J.out.b7 0 (.int .i64 5));generalize G:M.setCell ⟨q+1,0,none⟩ (.int .i64 5)=W6 at*;have N:=cN G;have f6:W6.cell? ⟨q,1,none⟩=some (.int .i64 R.prom):=cO g.b6 1 _ rfl;have k5:W6.cell? ⟨q+1,5,none⟩=some (.int .i64 x.base):=cO g.b7 5 _ rfl;have z5:=cX g.b7 5;have L:=g.put7 (X':={x with kind:=5,base:=R.prom}) (cY W6 (q+1) 5 (.int .i64 R.prom)) (dD g.b7 5 (.int .i64 R.prom));generalize P:W6.setCell ⟨q+1,5,none⟩ (.int .i64 R.prom)=W7 at*;have c1:=cN P;have u:=cN L;clear G P g L;go_wp2_with (first|rw[N.out]|rw[c1.out]);clear k0 z0 f6 k5 z5 m4 r1;refine rlx [1,1,2] (fun z=>(∀j y,(rwL {zRw with lock:= -1})[j]?=some y→z.cell? ((⟨q+2,0,none⟩:Addr).add j)=some y)∧(∀j y,(mgL {x with kind:=5,base:=R.prom})[j]?=some y→z.cell? ((⟨q+1,0,none⟩:Addr).add j)=some y)) (by kernel_rfl) (fun _ _ _ _=>rfl) ?_ ?_
  ·exact⟨cR (W:=W7.drew) u.out.b8,cR (W:=W7.drew) u.out.b7⟩
  simp only[dC,dB];refine dA (v:=rwV {zRw with lock:= -1}) rfl (fun zz w=>cU 58 _ rfl ⟨q+2,0,none⟩ rfl (rwL {zRw with lock:= -1}) _ w.1 underlying58 rfl (by kernel_rfl)) ?_;(try simp only[pA]);refine dA (v:=mgV {x with kind:=5,base:=R.prom}) rfl (fun zz w=>cU 66 _ rfl ⟨q+1,0,none⟩ rfl (mgL {x with kind:=5,base:=R.prom}) _ w.2 underlying66 rfl (by kernel_rfl)) ?_;(try simp only[pA]);refine dI rfl (fun C hC=>?_);refine eM 58 _ _ rfl (W.heap.size+1) 0 58 _ _ (rwL {zRw with lock:= -1}) rfl rfl u.out.drew.b4 (by kernel_rfl) (by simp[Value.oneCell']) (by simp) rfl ?_;intro c5 l D i;have c:=cN (u.out.drew.put4 l i);refine hC _ _ ⟨cR c.out.b8,cR c.out.b7⟩ ?_;clear hC C;refine cP ?_;clear l D i;(try simp only[pA]);go_wp2_with (refine cV rfl 66 _ _ rfl (W.heap.size+2) 0 66 _ _ (mgL {x with kind:=5,base:=R.prom}) rfl rfl c.out.b5 (by kernel_rfl) (by simp[Value.oneCell']) (by simp) rfl ?_;intro c2 r H p;refine cQ ?_);have d:=cN (c.out.put5 r p);clear r H p;refine cN ?_;go_wp2_with fail;exact bodyPost_ret (sN _ results155 _ (W.heap.size+1) (W.heap.size+2) {zRw with lock:= -1} {x with kind:=5,base:=R.prom} _ rfl rfl d.out.b4 d.out.b5) rfl ⟨by rw[s.out.1,s.out.2],d.out.be⟩
 ·have hb:decide (m.bal<R.prom)=false:=by simpa using F
  have m0:M.cell? ⟨W.heap.size,0,none⟩=some (.int .i64 m.kind):=cO J.out.bm 0 _ rfl;have k0:M.cell? ⟨q+1,0,none⟩=some (.int .i64 x.kind):=cO J.out.b7 0 _ rfl;have z0:=cX J.out.b7 0;by_cases h3:m.kind=3
  ·have s:Hid (o=⟨m.lock,m.bal,m.bal,m.val.own,m.val.tok,m.val.ttl,m.val.seq⟩∧xo={x with kind:=4}):=by
    refine⟨?_,?_⟩
    ·rw[←HO.out];simp[mV,iR,sG,F,h3,f4]
    ·rw[←Y.out,Q.out];simp[kA,aJk,F,h3,zMg]
   have f5:(m.kind==3)=true:=by simp[h3]
   clear F h3 hk;have g:=J.out.put7 (X':={x with kind:=4}) (cY M (q+1) 0 (.int .i64 4)) (dD J.out.b7 0 (.int .i64 4));generalize G:M.setCell ⟨q+1,0,none⟩ (.int .i64 4)=W6 at*;have N:=cN G;have u:=cN g;clear G g;go_wp2_with (first|rw[N.out]);clear k0 z0 r1 m0 m4;refine rlx [0,1,0,1,0,1,0,1,0,1,2] (fun z=>z.cell? ⟨W.heap.size,3,none⟩=some (.int .i64 m.lock)∧z.cell? ⟨W.heap.size,4,none⟩=some (.int .i64 m.bal)∧(∀j y,(vlL m.val)[j]?=some y→z.cell? ((⟨W.heap.size,6,none⟩:Addr).add j)=some y)∧(∀j y,(mgL {x with kind:=4})[j]?=some y→z.cell? ((⟨q+1,0,none⟩:Addr).add j)=some y)) (by kernel_rfl) (fun _ _ _ _=>rfl) ?_ ?_
   ·exact⟨cO u.out.drew.bm 3 _ rfl,cO u.out.drew.bm 4 _ rfl,eL u.out.drew.bm 6 _ (aC8 m),cR (W:=W6.drew) u.out.b7⟩
   simp only[dC,dB];iterate 7 (apply sB rfl rfl;·(intro x h;(try have h:=h rfl);(try dsimp only at h);go_simp;with_reducible rfl))
   try simp only[pA]
   refine dA (v:=vlV m.val) rfl (fun zz w=>cU 56 _ rfl ⟨W.heap.size,6,none⟩ rfl (vlL m.val) _ w.2.2.1 underlying56 rfl (by kernel_rfl)) ?_;(try simp only[pA]);iterate 1 (apply sB rfl rfl;·(intro x h;(try have h:=h rfl);(try dsimp only at h);go_simp;with_reducible rfl))
   try simp only[pA]
   refine dA (v:=mgV {x with kind:=4}) rfl (fun zz w=>cU 66 _ rfl ⟨q+1,0,none⟩ rfl (mgL {x with kind:=4}) _ w.2.2.2 underlying66 rfl (by kernel_rfl)) ?_;(try simp only[pA]);refine dI rfl (fun C hC=>?_);refine eM 58 _ _ rfl (W.heap.size+1) 0 58 _ _ (rwL ⟨m.lock,m.bal,m.bal,m.val.own,m.val.tok,m.val.ttl,m.val.seq⟩) rfl rfl u.out.drew.b4 (by kernel_rfl) (by simp[Value.oneCell']) (by simp) rfl ?_;intro c5 l D i;have c:=cN (u.out.drew.put4 l i);refine hC _ _ ⟨cO c.out.bm 3 _ rfl,cO c.out.bm 4 _ rfl,eL c.out.bm 6 _ (aC8 m),cR c.out.b7⟩ ?_;clear hC C;refine cP ?_;clear l D i;(try simp only[pA]);go_wp2_with (refine cV rfl 66 _ _ rfl (W.heap.size+2) 0 66 _ _ (mgL {x with kind:=4}) rfl rfl c.out.b5 (by kernel_rfl) (by simp[Value.oneCell']) (by simp) rfl ?_;intro c2 r H p;refine cQ ?_);have d:=cN (c.out.put5 r p);clear r H p;refine cN ?_;go_wp2_with fail;exact bodyPost_ret (sN _ results155 _ (W.heap.size+1) (W.heap.size+2) ⟨m.lock,m.bal,m.bal,m.val.own,m.val.tok,m.val.ttl,m.val.seq⟩ {x with kind:=4} _ rfl rfl d.out.b4 d.out.b5) rfl ⟨by rw[s.out.1,s.out.2],d.out.be⟩
  ·have E:m.kind=1:=by omega
   have f5:(m.kind==3)=false:=by simp[h3]
   have g:=J.out.put7 (X':={x with kind:=2}) (cY M (q+1) 0 (.int .i64 2)) (dD J.out.b7 0 (.int .i64 2));generalize G:M.setCell ⟨q+1,0,none⟩ (.int .i64 2)=W6 at*;have N:=cN G;have f1:W6.cell? ⟨q,2,none⟩=some (.int .i64 R.acc):=cO g.b6 2 _ rfl;have k5:W6.cell? ⟨q+1,5,none⟩=some (.int .i64 x.base):=cO g.b7 5 _ rfl;have z5:=cX g.b7 5;have L:=g.put7 (X':={x with kind:=2,base:=R.acc}) (cY W6 (q+1) 5 (.int .i64 R.acc)) (dD g.b7 5 (.int .i64 R.acc));generalize P:W6.setCell ⟨q+1,5,none⟩ (.int .i64 R.acc)=W7 at*;have c1:=cN P;have e8:=cN L;have g0:=cN (eL L.b6 3 _ (aDl R));have e3:=cN (aLo F E);clear G P g L F h3 hk E;go_wp2_with (first|rw[N.out]|rw[c1.out]|(refine cW rfl 56 _ rfl ⟨q,3,none⟩ rfl (vlL (oW R)) _ g0.out underlying56 rfl (by kernel_rfl) ?_)|(refine cV rfl 56 _ _ rfl (q+1) 6 66 _ _ (mgL {x with kind:=2,base:=R.acc,val:=oW R}) rfl rfl e8.out.b7 (by kernel_rfl) (by simp[Value.oneCell']) (by simp) rfl ?_;intro W8 d9 f2 e7;refine cQ ?_));have O:=e8.out.put7 d9 e7;have b1:=cN O;have e5:W8.cell? ⟨W.heap.size,4,none⟩=some (.int .i64 m.bal):=cO O.bm 4 _ rfl;have d3:W8.cell? ⟨q,1,none⟩=some (.int .i64 R.prom):=cO O.b6 1 _ rfl;have d4:=cX O.b6 1;clear d9 f2 e7 k0 z0 f1 k5 z5 m0 m4 r1 O;refine cN ?_;by_cases h4:m.bal=R.prom
   ·have s:Hid (o={zRw with lock:= -1}∧xo={x with kind:=2,base:=R.acc,val:=oW R}):=by
     obtain⟨f8,E⟩:=e3.out;have F:¬m.bal<R.prom:=by omega
     refine⟨?_,?_⟩
     ·have h5:¬R.prom<m.bal:=by omega
      rw[←HO.out];simp[mV,sG,F,E,h5]
     ·rw[←Y.out,Q.out,(show kA m R={zMg with kind:=2,base:=R.acc,val:=oW R}from(if_neg F).trans (if_pos E))];rfl
    have f9:(m.bal==R.prom)=true:=by simp[h4]
    clear h4;have u:=cN b1.out;go_wp2_with fail;clear e5 d3 d4;refine rlx [1,1,2] (fun z=>(∀j y,(rwL {zRw with lock:= -1})[j]?=some y→z.cell? ((⟨q+2,0,none⟩:Addr).add j)=some y)∧(∀j y,(mgL {x with kind:=2,base:=R.acc,val:=oW R})[j]?=some y→z.cell? ((⟨q+1,0,none⟩:Addr).add j)=some y)) (by kernel_rfl) (fun _ _ _ _=>rfl) ?_ ?_
    ·exact⟨cR (W:=W8.drew) u.out.b8,cR (W:=W8.drew) u.out.b7⟩
    simp only[dC,dB];refine dA (v:=rwV {zRw with lock:= -1}) rfl (fun zz w=>cU 58 _ rfl ⟨q+2,0,none⟩ rfl (rwL {zRw with lock:= -1}) _ w.1 underlying58 rfl (by kernel_rfl)) ?_;(try simp only[pA]);refine dA (v:=mgV {x with kind:=2,base:=R.acc,val:=oW R}) rfl (fun zz w=>cU 66 _ rfl ⟨q+1,0,none⟩ rfl (mgL {x with kind:=2,base:=R.acc,val:=oW R}) _ w.2 underlying66 rfl (by kernel_rfl)) ?_;(try simp only[pA]);refine dI rfl (fun C hC=>?_);refine eM 58 _ _ rfl (W.heap.size+1) 0 58 _ _ (rwL {zRw with lock:= -1}) rfl rfl u.out.drew.b4 (by kernel_rfl) (by simp[Value.oneCell']) (by simp) rfl ?_;intro c5 l D i;have c:=cN (u.out.drew.put4 l i);refine hC _ _ ⟨cR c.out.b8,cR c.out.b7⟩ ?_;clear hC C;refine cP ?_;clear l D i;(try simp only[pA]);go_wp2_with (refine cV rfl 66 _ _ rfl (W.heap.size+2) 0 66 _ _ (mgL {x with kind:=2,base:=R.acc,val:=oW R}) rfl rfl c.out.b5 (by kernel_rfl) (by simp[Value.oneCell']) (by simp) rfl ?_;intro c2 r H p;refine cQ ?_);have d:=cN (c.out.put5 r p);clear r H p;refine cN ?_;go_wp2_with fail;exact bodyPost_ret (sN _ results155 _ (W.heap.size+1) (W.heap.size+2) {zRw with lock:= -1} {x with kind:=2,base:=R.acc,val:=oW R} _ rfl rfl d.out.b4 d.out.b5) rfl ⟨by rw[s.out.1,s.out.2],d.out.be⟩
   ·have s:Hid (o={R with prom:=m.bal}∧xo={x with kind:=2,base:=R.acc,val:=oW R}):=by
     obtain⟨f8,E⟩:=e3.out;have F:¬m.bal<R.prom:=by omega
     refine⟨?_,?_⟩
     ·have h5:R.prom<m.bal:=by omega
      rw[←HO.out,(show mV m R=true from(if_neg F).trans ((if_pos E).trans (by simp[h5]))),(show iR m R={R with prom:=m.bal}from(if_neg F).trans (if_pos E))];rfl
     ·rw[←Y.out,Q.out,(show kA m R={zMg with kind:=2,base:=R.acc,val:=oW R}from(if_neg F).trans (if_pos E))];rfl
    have f9:(m.bal==R.prom)=false:=by simp[h4]
    have d5:=b1.out.put6 (R6':={R with prom:=m.bal}) (cY W8 q 1 (.int .i64 m.bal)) (dD b1.out.b6 1 (.int .i64 m.bal));generalize c8:W8.setCell ⟨q,1,none⟩ (.int .i64 m.bal)=W9 at*;have f7:=cN c8;have u:=cN d5;clear c8 d5 h4;go_wp2_with (first|rw[f7.out]);clear e5 d3 d4;refine rlx [1,1,2] (fun z=>(∀j y,(rwL {R with prom:=m.bal})[j]?=some y→z.cell? ((⟨q,0,none⟩:Addr).add j)=some y)∧(∀j y,(mgL {x with kind:=2,base:=R.acc,val:=oW R})[j]?=some y→z.cell? ((⟨q+1,0,none⟩:Addr).add j)=some y)) (by kernel_rfl) (fun _ _ _ _=>rfl) ?_ ?_
    ·exact⟨cR (W:=W9.drew) u.out.b6,cR (W:=W9.drew) u.out.b7⟩
    simp only[dC,dB];refine dA (v:=rwV {R with prom:=m.bal}) rfl (fun zz w=>cU 58 _ rfl ⟨q,0,none⟩ rfl (rwL {R with prom:=m.bal}) _ w.1 underlying58 rfl (by kernel_rfl)) ?_;(try simp only[pA]);refine dA (v:=mgV {x with kind:=2,base:=R.acc,val:=oW R}) rfl (fun zz w=>cU 66 _ rfl ⟨q+1,0,none⟩ rfl (mgL {x with kind:=2,base:=R.acc,val:=oW R}) _ w.2 underlying66 rfl (by kernel_rfl)) ?_;(try simp only[pA]);refine dI rfl (fun C hC=>?_);refine eM 58 _ _ rfl (W.heap.size+1) 0 58 _ _ (rwL {R with prom:=m.bal}) rfl rfl u.out.drew.b4 (by kernel_rfl) (by simp[Value.oneCell']) (by simp) rfl ?_;intro c5 l D i;have c:=cN (u.out.drew.put4 l i);refine hC _ _ ⟨cR c.out.b6,cR c.out.b7⟩ ?_;clear hC C;refine cP ?_;clear l D i;(try simp only[pA]);go_wp2_with (refine cV rfl 66 _ _ rfl (W.heap.size+2) 0 66 _ _ (mgL {x with kind:=2,base:=R.acc,val:=oW R}) rfl rfl c.out.b5 (by kernel_rfl) (by simp[Value.oneCell']) (by simp) rfl ?_;intro c2 r H p;refine cQ ?_);have d:=cN (c.out.put5 r p);clear r H p;refine cN ?_;go_wp2_with fail;exact bodyPost_ret (sN _ results155 _ (W.heap.size+1) (W.heap.size+2) {R with prom:=m.bal} {x with kind:=2,base:=R.acc,val:=oW R} _ rfl rfl d.out.b4 d.out.b5) rfl ⟨by rw[s.out.1,s.out.2],d.out.be⟩
end Go.Proofs.YtbbdgokdfhdpiaaGreatDoor
