/- A part of the proof: RfAc2, RfAc3, RfAc4. -/
import Derived.Test.YtbbdgokdfhdpiaaGreatDoorA15
import Derived.Test.YtbbdgokdfhdpiaaGreatDoorA16
namespace Go.Proofs.YtbbdgokdfhdpiaaGreatDoor
set_option linter.all false
set_option maxRecDepth 100000
set_option maxHeartbeats 40000000
open Go.Proofs.Tryz Go.RowKit
theorem aJI{rs:List Rw}{r:Rw}(h:r ∈ eG rs 4):dX rs r.lock.toNat=some r∧0≤r.lock:=by
 simp only[eG,List.mem_filterMap,List.mem_range]at h;obtain⟨k,c,a⟩:=h;have b:r.lock=(k:Int):=by
  unfold dX at a;simpa using List.find?_some a
 rw[b];exact⟨by simpa using a,by omega⟩
theorem aJW{rs:List Rw}{l:Nat}(hl:l<4){r:Rw}(h:dX rs l=some r):r ∈ eG rs 4∧r.lock=(l:Int):=by
 refine⟨?_,?_⟩
 ·simp only[eG,List.mem_filterMap,List.mem_range];exact⟨l,hl,h⟩
 ·unfold dX at h;simpa using List.find?_some h
theorem aAO{w:World}{base:Nat}{v:Value}{n:Nat}{xs:List Value}{t:TypeId}{sz:Nat}(h:w.ownsRow base t sz v n xs):∃p cap,v= .slice p n cap∧(0<n→∃g,p=some ⟨g,0,none⟩):=by
 rcases h.2 with⟨rfl,rfl⟩|⟨g,cap,a,rfl,_⟩
 ·exact⟨none,0,rfl,fun h=>absurd h (by omega)⟩
 ·exact⟨some ⟨g,0,none⟩,cap,rfl,fun _=>⟨g,rfl⟩⟩
theorem aIR(W:World)(b:Nat)(f:Cf)(a:Ra)(l:Int)(h:RaAt W b f a)(hl:a.log.length≤1000000000)(hby:∀x ∈ a.log,0≤x∧x<256)(hl0:0≤l)(hl3:l≤3):
 Calls prog 183 #[.pointer (some ⟨b,0,none⟩),.int .i64 l] W fun r W'=>r= .returned (rwV (uT a l))∧Below W.heap.size W W':=by
 have C:=fun x (hx:RaAt x b f a)=>wY x b f a hx hl hby;have c:∀(k:Nat) (X:k<(eG (dO a.log) 4).length),(eG (dO a.log) 4)[k].lock=l→uT a l=(eG (dO a.log) 4)[k]:=fun k X Y=>by
  unfold uT;rw[←Y,(aJI (bF X)).1]
  rfl
 have q:(∀(j:Nat) (m:j<(eG (dO a.log) 4).length),(eG (dO a.log) 4)[j].lock≠l)→uT a l={zRw with lock:=l}:=fun hn=>by
  unfold uT;cases hq:dX (dO a.log) l.toNat with
  |none=>rfl
  |some r=>
   obtain⟨hm,Y⟩:=aJW (by omega) hq;obtain⟨j,m,a2⟩:=List.mem_iff_getElem.1 hm;exact absurd (by rw[a2,Y];omega) (hn j m)
 have a5:(eG (dO a.log) 4).length≤4:=lD _ _;generalize eG (dO a.log) 4=T at*;have Q:=aA W (.cells #[.int .i64 0,.int .i64 0,.int .i64 0,.int .i64 0,.int .i64 0,.int .i64 0,.int .i64 0] 58);have E:Below W.heap.size W (W.alloc (.cells #[.int .i64 0,.int .i64 0,.int .i64 0,.int .i64 0,.int .i64 0,.int .i64 0,.int .i64 0] 58)):=(aJ _ W).alloc (aE _) _;have K:(W.alloc (.cells #[.int .i64 0,.int .i64 0,.int .i64 0,.int .i64 0,.int .i64 0,.int .i64 0,.int .i64 0] 58)).heap.size=W.heap.size+1:=by simp
 have h1:=RaAt.below h E;generalize L:W.alloc (.cells #[.int .i64 0,.int .i64 0,.int .i64 0,.int .i64 0,.int .i64 0,.int .i64 0,.int .i64 0] 58)=W1 at*;have a1:=cN L;have P:=cN (C W1 h1);have A:=cN (aLm Q E K);have HF:=cN c;have HN:=cN q;clear L h1 h C Q E K c q;go_enter func183,ntmps183;go_wp2_with (first|rw[a1.out]|(go_at_call 149;refine P.out.mono ?_;rintro e V ⟨v,rfl,ho,J⟩;refine cQ ?_));have u:∀(g B:Nat),v= .slice (some ⟨g,0,none⟩) T.length B→sJ V g T:=fun g B e=>by subst e;exact mQ ho
 obtain⟨p,B,rfl,hp⟩:=aAO ho;have t:V.heap[W.heap.size]?=some (.cells (rwL zRw).toArray 58 (0,0)):=(J.block _ (by have:=A.out.2.2;omega)).trans A.out.1;have s:=cN t;have z:=cN (A.out.2.1.trans (J.mono A.out.2.1.size));have HR:=cN u;clear ho J t u;refine cN ?_;obtain⟨N,U⟩:=aLx (T.length);rw[U]at hp a5;simp only[U];have O:=cN U;clear U P;go_wp2;go_loopw [6] (fun i wr=>∃(k:Nat),k≤N∧i= .int .i64 k∧(∀(j:Nat) (m:j<T.length),j<k→T[j].lock≠l)∧wr=V) (fun i _=>N-(intOf i).toNat)
 case atStart=>exact⟨0,aI _,rfl,fun j _ h=>absurd h (by omega),rfl⟩
 case round=>
  obtain⟨k,X,rfl,M,rfl⟩:=hrel;have D:=cN M;clear M;by_cases a3:k<N
  ·obtain⟨g,rfl⟩:=hp (by omega);have S:k<T.length:=by rw[O.out];exact a3
   have I:=HR.out g B rfl k S;have a0:=cN (HF.out k S);have w:T[k].lock≠l→∀(j:Nat) (m:j<T.length),j<k+1→T[j].lock≠l:=fun w j m hjk=>by
    rcases Nat.lt_or_ge j k with h'|h'
    ·exact D.out j m h'
    ·have:j=k:=by omega
     subst this;exact w
   have a4:=cN w;clear w D;generalize T[k]=R at*;have c0:wr.cell? ⟨g,k*7,none⟩=some (.int .i64 R.lock):=I 0 _ rfl;have HL:Hid (∀j y,(rwL R)[j]?=some y→wr.cell? ((⟨g,k*7,none⟩:Addr).add j)=some y):=fun j y m=>by
    have e:(⟨g,k*7,none⟩:Addr).add j=⟨g,k*7+j,none⟩:=by unfold Addr.add;split<;>simp_all
    rw[e];exact I j y m
   clear I;by_cases d:R.lock=l
   ·have J:(R.lock==l)=true:=by simp[d]
    have Z:=cN d;clear d;go_wp2_with (first|(refine cW rfl 58 _ rfl ⟨g,k*7,none⟩ rfl (rwL R) _ HL.out underlying58 rfl (by kernel_rfl) ?_)|(refine cV rfl 58 _ _ rfl W.heap.size 0 58 _ _ (rwL R) rfl rfl s.out (by kernel_rfl) (by simp[Value.oneCell']) (by simp) rfl ?_;intro W3 o F n;refine cQ ?_));have H:=cN (z.out.trans (o.below (fun x hx=>by omega) z.out.size));have G:=cN n;clear o F n;refine cN ?_;go_wp2_with fail;exact bodyPost_ret (yS _ results183 _ W.heap.size R _ rfl G.out) rfl ⟨by rw[a0.out Z.out],H.out⟩
   ·have J:(R.lock==l)=false:=by simp[d]
    have Z:=cN d;clear d;go_wp2_with fail;go_roundw
    case rel=>exact⟨k+1,by omega,by go_num,a4.out Z.out,by trivial⟩
    case measure=>simp[intOf];omega
  ·have a6:=cN (HN.out (fun j m=>D.out j m (by rw[O.out]at m;omega)));go_wp2_with (refine cV rfl 58 _ _ rfl W.heap.size 0 58 _ _ (rwL {zRw with lock:=l}) rfl rfl s.out (by kernel_rfl) (by simp[Value.oneCell']) (by simp) rfl ?_;intro W3 o F n;refine cQ ?_);have H:=cN (z.out.trans (o.below (fun x hx=>by omega) z.out.size));have G:=cN n;clear o F n;refine cN ?_;go_wp2_with fail;exact bodyPost_ret (yS _ results183 _ W.heap.size {zRw with lock:=l} _ rfl G.out) rfl ⟨by rw[a6.out],H.out⟩
theorem oE(r:Rw):(dW r).length≤25:=by
 unfold dW;split
 ·rw[oB];exact aE _
 ·simp
theorem aCm(a:Ra):(stepR a).log=a.log:=by unfold stepR;split<;>rfl
theorem aFs(a:Ra):(stepR a).keep=a.keep:=by unfold stepR;split<;>rfl
theorem aA1(a:Ra)(h: -1≤a.left)(h0:a.left≠0): -1≤(stepR a).left∧(stepR a).left≤a.left:=by unfold stepR;split<;>constructor<;>(try dsimp only)<;>omega
theorem aFg(W:World)(b:Nat)(f:Cf)(a:Ra)(r:Rw)(h:RaAt W b f a)(hl:a.log.length≤1000000000)(h1: -1≤a.left)(h2:a.left≤9223372036854775807)(hk:0≤a.keep):
 Calls prog 156 #[.pointer (some ⟨b,0,none⟩),rwV r] W fun e W'=>e= .returned (.bool (dR f.room a r).2)∧RaTo W b f (dR f.room a r).1 W':=by
 have Z:Below W.heap.size W (W.alloc (.cells #[.int .i64 r.lock,.int .i64 r.prom,.int .i64 r.acc,.int .i64 r.own,.int .i64 r.tok,.int .i64 r.ttl,.int .i64 r.seq] 58)):=(aJ _ W).alloc (aE _) _;have v:=RaAt.below h Z;have a7:∀j y,(rwL r)[j]?=some y→(W.alloc (.cells #[.int .i64 r.lock,.int .i64 r.prom,.int .i64 r.acc,.int .i64 r.own,.int .i64 r.tok,.int .i64 r.ttl,.int .i64 r.seq] 58)).cell? ((⟨W.heap.size,0,none⟩:Addr).add j)=some y:=cR (cs:=rwL r) (aA W _);generalize hX:W.alloc (.cells #[.int .i64 r.lock,.int .i64 r.prom,.int .i64 r.acc,.int .i64 r.own,.int .i64 r.tok,.int .i64 r.ttl,.int .i64 r.seq] 58)=W0 at*;have O:=cN hX;have M:=cN a7;have C:=cN (nX r W0);have H:=cN (RaTo.below h Z);have c7:W0.cell? ⟨b,7,none⟩=some (.string (strOfNums a.log)):=cO v 7 _ rfl;have b2:=oE r;have p:=fun x (hx:RaAt x b f a)=>yU x b f a hx h1 h2;clear hX a7 Z;by_cases G:a.left=0
 ·have F:dR f.room a r=(fV a a.log,false):=by unfold dR;rw[if_pos G]
  rw[F];simp only[G,decide_true,Bool.not_true,if_true]at p;have I:=cN p;have m:=cN v;clear p v G F h;generalize hS:strOfNums (dW r)=S at*;go_enter func156,ntmps156;go_wp2_with (first|rw[O.out]|(refine cW rfl 58 _ rfl ⟨W.heap.size,0,none⟩ rfl (rwL r) _ M.out underlying58 rfl (by kernel_rfl) ?_)|(go_at_call 70;refine C.out.mono ?_;rintro e W1 ⟨rfl,g⟩;have d:=cN g;clear g;refine cQ ?_));refine cN ?_;have A:=cN (RaAt.below m.out d.out);go_wp2_with (first|(go_at_call 184;refine(I.out _ A.out).mono ?_;rintro e K ⟨rfl,i⟩;have c:=cN i;clear i;refine cQ ?_));refine cN ?_;have z:=cN (pN K b f a a.log c.out.1);go_wp2_with (first|(go_at_call 161;refine z.out.mono ?_;rintro e R ⟨rfl,B⟩));go_ret;exact⟨rfl,H.out.trans ((RaTo.below m.out d.out).trans (c.out.trans B))⟩
 ·simp only[G,decide_false,Bool.not_false,if_false]at p;have I:=cN p;have m:=cN v;have U:=aA1 a h1 G;have a0:=aCm a;have L:=aFs a;generalize u:stepR a=a1 at*;have b6:=cN u;have b4:IntKind.i64.wrap ((a.log.length:Int)+(dW r).length)=(a.log.length:Int)+(dW r).length:=fX (by omega) (by omega);have b3:=kI a.log;have b1:=kI (dW r);by_cases T:f.room<(a.log.length:Int)+(dW r).length
  ·have F:dR f.room a r=({a1 with silent:=true},false):=by unfold dR;rw[if_neg G];dsimp only;rw[u,if_pos T]
   rw[F];have b0:decide (f.room<(a.log.length:Int)+(dW r).length)=true:=by simp[T]
   clear p v G F h T u a0 L U;generalize b7:strOfNums (dW r)=S at*;generalize ((dW r).length:Int)=n at*;go_enter func156,ntmps156;go_wp2_with (first|rw[O.out]|(refine cW rfl 58 _ rfl ⟨W.heap.size,0,none⟩ rfl (rwL r) _ M.out underlying58 rfl (by kernel_rfl) ?_)|(go_at_call 70;refine C.out.mono ?_;rintro e W1 ⟨rfl,g⟩;have d:=cN g;clear g;refine cQ ?_));refine cN ?_;have A:=cN (RaAt.below m.out d.out);go_wp2_with (first|(go_at_call 184;refine(I.out _ A.out).mono ?_;rintro e K ⟨rfl,i⟩;have c:=cN i;clear i;refine cQ ?_));refine cN ?_;have d6:K.cell? ⟨b,6,none⟩=some (.int .i64 f.room):=cO c.out.1 6 _ rfl;have d9:K.cell? ⟨b,9,none⟩=some (.bool a1.silent):=cO c.out.1 9 _ rfl;have z9:=cX c.out.1 9;have HT:Hid (RaTo K b f {a1 with silent:=true} (K.setCell ⟨b,9,none⟩ (.bool true))):=⟨dD c.out.1 9 _,cY _ _ _ _⟩;go_wp2_with fail;go_ret;exact⟨rfl,H.out.trans ((RaTo.below m.out d.out).trans (c.out.trans HT.out))⟩
  ·have b0:decide (f.room<(a.log.length:Int)+(dW r).length)=false:=by simp[T]
   have o:=fun x (hx:RaAt x b f a1)=>yU x b f a1 hx (by omega) (by omega);by_cases E:a1.left=0
   ·have F:dR f.room a r=(fV a1 (a.log++(dW r).take (min a1.keep (dW r).length).toNat),false):=by unfold dR;rw[if_neg G];dsimp only;rw[u,if_neg T,if_pos E]
    rw[F];simp only[E,decide_true,Bool.not_true,if_true]at o;have J:=cN o;have b8:0≤a1.keep:=by rw[L];exact hk
    clear p o v G F h T u a0 L U E;obtain⟨q,hq⟩:=aLw (min a1.keep (dW r).length);rw[←hq];generalize hT:dW r=t at*;have a5:0≤q:=by omega
    have a6:q≤t.length:=by omega
    have k:=fun w=>run_string_add_sum (P:=prog) w (strOfNums a.log) (strOfNums (t.take q.toNat)) (by rw[dU,dU,bD];omega);have V:=fun x (hx:RaAt x b f a1)=>pN x b f a1 (a.log++t.take q.toNat) hx;rw[←fT]at V;have a8:=cN V;have HQ:=cN hq;have Q:=cN k;clear V hT k hq;go_enter func156,ntmps156;go_wp2_with (first|rw[O.out]|(refine cW rfl 58 _ rfl ⟨W.heap.size,0,none⟩ rfl (rwL r) _ M.out underlying58 rfl (by kernel_rfl) ?_)|(go_at_call 70;refine C.out.mono ?_;rintro e W1 ⟨rfl,g⟩;have d:=cN g;clear g;refine cQ ?_));refine cN ?_;have A:=cN (RaAt.below m.out d.out);go_wp2_with (first|(go_at_call 184;refine(I.out _ A.out).mono ?_;rintro e K ⟨rfl,i⟩;have c:=cN i;clear i;refine cQ ?_));refine cN ?_;have d6:K.cell? ⟨b,6,none⟩=some (.int .i64 f.room):=cO c.out.1 6 _ rfl;go_wp2_with (first|(go_at_call 184;refine(J.out _ c.out.1).mono ?_;rintro e R ⟨rfl,B⟩;have l:=cN B;clear B;refine cQ ?_));clear d6;refine cN ?_;have b5:R.cell? ⟨b,11,none⟩=some (.int .i64 a1.keep):=cO l.out.1 11 _ rfl;by_cases N:(t.length:Int)<a1.keep
    ·have a9:decide ((t.length:Int)<a1.keep)=true:=by simp[N]
     have s:q=t.length:=by have:=HQ.out;omega
     have k:=Q.out;have D:=pX t q.toNat;have a4:t.take q.toNat=t:=by rw[s,bB,bR]
     have z:=cN (a8.out R l.out.1);rw[a4]at k D z;rw[s,bB]at D;have a3:=cN a4;clear s N a5 a6 Q a4;go_wp2_with (first|rw[D]|(go_at_call 161;refine z.out.mono ?_;rintro e W4 ⟨rfl,Y⟩));go_ret;rw[a3.out];exact⟨rfl,H.out.trans ((RaTo.below m.out d.out).trans (c.out.trans (l.out.trans Y)))⟩
    ·have a9:decide ((t.length:Int)<a1.keep)=false:=by simp[N]
     have s:q=a1.keep:=by have:=HQ.out;omega
     have k:=Q.out;have D:=pX t q.toNat;rw[s]at k D a5 a6;have z:=cN (a8.out R l.out.1);rw[s]at z;have a3:=cN s;clear s N Q;go_wp2_with (first|rw[D]|(go_at_call 161;refine z.out.mono ?_;rintro e W4 ⟨rfl,Y⟩));go_ret;rw[a3.out];exact⟨rfl,H.out.trans ((RaTo.below m.out d.out).trans (c.out.trans (l.out.trans Y)))⟩
   ·have F:dR f.room a r=({stepR a1 with log:=a.log++dW r},true):=by unfold dR;rw[if_neg G];dsimp only;rw[u,if_neg T,if_neg E]
    rw[F];simp only[E,decide_false,Bool.not_false,if_false]at o;have J:=cN o;generalize hT:dW r=t at*;have k:=fun w=>run_string_add_sum (P:=prog) w (strOfNums a.log) (strOfNums t) (by rw[dU,dU];omega);generalize stepR a1=a2 at*;clear p o v G F h T u a0 L U E hT;go_enter func156,ntmps156;go_wp2_with (first|rw[O.out]|(refine cW rfl 58 _ rfl ⟨W.heap.size,0,none⟩ rfl (rwL r) _ M.out underlying58 rfl (by kernel_rfl) ?_)|(go_at_call 70;refine C.out.mono ?_;rintro e W1 ⟨rfl,g⟩;have d:=cN g;clear g;refine cQ ?_));refine cN ?_;have A:=cN (RaAt.below m.out d.out);go_wp2_with (first|(go_at_call 184;refine(I.out _ A.out).mono ?_;rintro e K ⟨rfl,i⟩;have c:=cN i;clear i;refine cQ ?_));refine cN ?_;have d6:K.cell? ⟨b,6,none⟩=some (.int .i64 f.room):=cO c.out.1 6 _ rfl;go_wp2_with (first|(go_at_call 184;refine(J.out _ c.out.1).mono ?_;rintro e R ⟨rfl,B⟩;have l:=cN B;clear B;refine cQ ?_));clear d6;refine cN ?_;have d7:R.cell? ⟨b,7,none⟩=some (.string (strOfNums a2.log)):=cO l.out.1 7 _ rfl;have z7:=cX l.out.1 7;have X:=dD l.out.1 7 (.string (strOfNums a.log++strOfNums t));have HT:Hid (RaTo R b f {a2 with log:=a.log++t} (R.setCell ⟨b,7,none⟩ (.string (strOfNums a.log++strOfNums t)))):=by
     refine⟨?_,cY _ _ _ _⟩;rw[fT]at X⊢;exact X
    clear X;go_wp2_with fail;go_ret;exact⟨rfl,H.out.trans ((RaTo.below m.out d.out).trans (c.out.trans (l.out.trans HT.out)))⟩
theorem aEy(rs:List Rw):(eZ rs).length≤100:=by
 unfold eZ;have a:=lD rs 4;generalize eG rs 4=T at*;have:∀(l:List Rw),(l.flatMap dW).length≤25*l.length:=by
  intro l;induction l with
  |nil=>simp
  |cons r l ih=>simp only[List.flatMap_cons,aD,bI];have:=oE r;omega
 have:=this T;omega
theorem tX(l:List Rw):(l.flatMap dW).length≤25*l.length:=by
 induction l with
 |nil=>simp
 |cons r l ih=>simp only[List.flatMap_cons,aD,bI];have:=oE r;omega
theorem aG1{T:List Rw}{k:Nat}(hk:k<T.length):(T.take (k+1)).flatMap dW=(T.take k).flatMap dW++dW T[k]:=by
 rw[List.take_succ_eq_append_getElem hk,List.flatMap_append];simp
theorem wK(room:Int)(s:List Int)(n:Nat)(x:Ra):kG room s (n+1) x=if x.left=0 then fV x x.log else if n=3∧room<((stepR x).log.length:Int)+s.length then{stepR x with silent:=true}else kG room s n (stepR x):=rfl
section
variable (W:World) (b:Nat) (f:Cf) (a:Ra)
theorem xS(h:RaAt W b f a)(hl:a.log.length≤1000000000)(hby:∀x ∈ a.log,0≤x∧x<256)(h1: -1≤a.left)(h2:a.left≤9223372036854775807):
 Calls prog 160 #[.pointer (some ⟨b,0,none⟩)] W fun e W'=>e= .returned (.tuple #[])∧RaTo W b f (gX f.room a) W':=by
 have hS:gX f.room a=kG f.room (eZ (dO a.log)) 5 a:=rfl;have K:=aEy (dO a.log);rw[hS];have J:=wY W b f a h hl hby;have b9:(eG (dO a.log) 4).length≤4:=lD _ _;have a5:eZ (dO a.log)=(eG (dO a.log) 4).flatMap dW:=rfl;rw[a5]at K⊢;generalize eG (dO a.log) 4=T at*;have a2:=cN J;have HH:=cN h;obtain⟨S,U⟩:=aLx (T.flatMap dW);rw[U]at K⊢;obtain⟨A,hA⟩:=aLx (kG f.room S 5 a);rw[hA];have c3:=cN U;have HA:=cN hA;clear hS a5 J h U hA;go_enter func160,ntmps160;go_wp2_with (go_at_call 149;refine a2.out.mono ?_;rintro e W1 ⟨v,rfl,ho,hb⟩;refine cQ ?_);have D:∀(g F:Nat),v= .slice (some ⟨g,0,none⟩) T.length F→sJ W1 g T:=fun g F e=>by subst e;exact mQ ho
 have H:=ho.lt;obtain⟨p,F,rfl,hp⟩:=aAO ho;have O:=cN (RaTo.below HH.out hb);have HR:=cN D;have L:∀g,p=some ⟨g,0,none⟩→g<W1.heap.size:=fun g e=>by subst e;exact(H g rfl).2
 have b8:=cN L;clear ho hb D L H;refine cN ?_;obtain⟨N,hN⟩:=aLx (T.length);rw[hN]at hp b9;simp only[hN];have a3:=cN hN;clear hN a2;go_wp2;go_loopw [3,4] (fun s i wr=>∃(k:Nat),k≤N∧i= .int .i64 k∧s= .string (strOfNums ((T.take k).flatMap dW))∧Below W1.heap.size W1 wr) (fun _ i _=>N-(intOf i).toNat)
 case atStart=>exact⟨0,aI _,rfl,by simp[strOfNums],aJ _ _⟩
 case round=>
  obtain⟨k,hk,rfl,rfl,t⟩:=hrel;by_cases H:k<N
  ·obtain⟨g,rfl⟩:=hp (by omega);have a1:k<T.length:=by rw[a3.out];exact H
   have a6:=HR.out g F rfl k a1;have Z:=aG1 a1;have d3:=tX (T.take k);have c6:(T.take k).length≤4:=by rw[bD];omega
   have b7:=b8.out g rfl;generalize T[k]=R at*;have HL:Hid (∀j y,(rwL R)[j]?=some y→wr.cell? ((⟨g,k*7,none⟩:Addr).add j)=some y):=fun j y hj=>by
    have e:(⟨g,k*7,none⟩:Addr).add j=⟨g,k*7+j,none⟩:=by unfold Addr.add;split<;>simp_all
    rw[e,t.cell (p:=⟨g,k*7+j,none⟩) b7];exact a6 j y hj
   have a8:=cN (nX R wr);have d2:=oE R;have c8:=fun w=>run_string_add_sum (P:=prog) w (strOfNums ((T.take k).flatMap dW)) (strOfNums (dW R)) (by rw[dU,dU];omega);have HB:=cN t;have b1:=cN Z;generalize (T.take k).flatMap dW=S at*;clear a6 t Z;go_wp2_with (first|(refine cW rfl 58 _ rfl ⟨g,k*7,none⟩ rfl (rwL R) _ HL.out underlying58 rfl (by kernel_rfl) ?_)|(go_at_call 70;refine a8.out.mono ?_;rintro e W2 ⟨rfl,c5⟩));go_roundw
   case rel=>exact⟨k+1,by omega,by go_num,by rw[b1.out,fT],HB.out.trans (c5.mono HB.out.size)⟩
   case measure=>simp[intOf];omega
  ·have c2:k=N:=by omega
   have a0:T.take k=T:=aY (by rw[a3.out];omega);have b2:Hid (RaTo W b f a wr):=O.out.trans (RaTo.below O.out.1 t);rw[a0,c3.out];clear t a0 c2 O;have c0:=kI S;go_wp2;go_loopw [5] (fun i wx=>∃(j:Nat) (x:Ra),j≤5∧i= .int .i64 j∧RaTo W b f x wx∧x.log=a.log∧ -1≤x.left∧x.left≤9223372036854775807∧kG f.room S (5-j) x=A) (fun i _=>5-(intOf i).toNat)
   case atStart=>exact⟨0,a,by omega,rfl,b2.out,rfl,h1,h2,HA.out⟩
   case round=>
    obtain⟨j,x,hj,rfl,I,G,a4,c4,l⟩:=hrel;have X:=cN I;by_cases d1:j<5
    ·have d:=yU wr b f x I.1 a4 c4;obtain⟨n,hn⟩:∃n,5-j=n+1:=⟨4-j,by omega⟩;rw[hn]at l;by_cases M:x.left=0
     ·have z:kG f.room S (n+1) x=fV x x.log:=by rw[wK,if_pos M]
      rw[z]at l;simp only[M,decide_true,Bool.not_true,if_true]at d;have u:=cN d;have E:=cN l;clear d l z I M G;go_wp2_with (go_at_call 184;refine u.out.mono ?_;rintro e q ⟨rfl,c⟩;refine cQ ?_);have d7:q.cell? ⟨b,7,none⟩=some (.string (strOfNums x.log)):=cO c.1 7 _ rfl;have c1:=cN (pN q b f x x.log c.1);have m:=cN c;clear c;refine cN ?_;go_wp2_with (go_at_call 161;refine c1.out.mono ?_;rintro e W4 ⟨rfl,b3⟩)
      (first|go_end0|((try simp only[Exit.inBlock,Exit.then]);refine bodyPost_ret (results_none rfl _ _ _) rfl ?_))
      exact⟨rfl,by rw[←E.out];exact X.out.trans (m.out.trans b3)⟩
     ·have z:kG f.room S (n+1) x=if n=3∧f.room<((stepR x).log.length:Int)+S.length then{stepR x with silent:=true}else kG f.room S n (stepR x):=by rw[wK,if_neg M]
      rw[z]at l;simp only[M,decide_false,Bool.not_false,if_false]at d;have d0:=aA1 x a4 M;have o:=aCm x;rw[o,G]at l;rw[G]at o;generalize stepR x=x1 at*;have u:=cN d;have E:=cN l;have a9:=kI a.log;have b0:=kI S;have b6:IntKind.i64.wrap ((a.log.length:Int)+S.length)=(a.log.length:Int)+S.length:=fX (by omega) (by omega);clear d l z I M G;have a7:=cN o;by_cases Q:j=1
      ·have C:n=3:=by omega
       by_cases V:f.room<(a.log.length:Int)+S.length
       ·have b5:decide (f.room<(a.log.length:Int)+S.length)=true:=by simp[V]
        have r:=E.out;rw[if_pos ⟨C,V⟩]at r;have B:=cN r;clear r E V C hn;subst Q;go_wp2_with (go_at_call 184;refine u.out.mono ?_;rintro e q ⟨rfl,c⟩;refine cQ ?_);have d7:q.cell? ⟨b,7,none⟩=some (.string (strOfNums a.log)):=by rw[←o];exact cO c.1 7 _ rfl
        have d6:q.cell? ⟨b,6,none⟩=some (.int .i64 f.room):=cO c.1 6 _ rfl;have d9:q.cell? ⟨b,9,none⟩=some (.bool x1.silent):=cO c.1 9 _ rfl;have z9:=cX c.1 9;have HT:Hid (RaTo q b f {x1 with silent:=true} (q.setCell ⟨b,9,none⟩ (.bool true))):=⟨dD c.1 9 _,cY _ _ _ _⟩;have b4:Hid (RaTo q b f {x1 with silent:=true} (q.drew.setCell ⟨b,9,none⟩ (.bool true))):=⟨dD (show q.drew.heap[b]?=_ from c.1) 9 _,(cY _ _ _ _).of_drew⟩;have m:=cN c;clear c o;refine cN ?_;go_wp2_with fail;refine eD [0,0,0,0,0,0,1,1,0,1,0,0,0,0,0,1,0,0] (by kernel_rfl) (fun _ _ _ _=>rfl) ?_;simp only[dC,dB];iterate 18 ((try simp only[pA]);first|(apply sB rfl rfl;·(intro x h;(try cases h rfl);go_simp;with_reducible rfl))|apply dN rfl|apply dL rfl)
        refine cP ?_;try simp only[pA]
        go_wp2_with fail
        (first|go_end0|((try simp only[Exit.inBlock,Exit.then]);refine bodyPost_ret (results_none rfl _ _ _) rfl ?_))
        exact⟨rfl,by rw[←B.out];exact X.out.trans (m.out.trans b4.out)⟩
       ·have b5:decide (f.room<(a.log.length:Int)+S.length)=false:=by simp[V]
        have r:=E.out;rw[if_neg (fun h=>V h.2)]at r;have B:=cN r;clear r E V;subst Q;go_wp2_with (go_at_call 184;refine u.out.mono ?_;rintro e q ⟨rfl,c⟩;refine cQ ?_);have d7:q.cell? ⟨b,7,none⟩=some (.string (strOfNums a.log)):=by rw[←o];exact cO c.1 7 _ rfl
        have d6:q.cell? ⟨b,6,none⟩=some (.int .i64 f.room):=cO c.1 6 _ rfl;have m:=cN c;clear c o;refine cN ?_;go_wp2_with fail;refine eD [0,0,0,0,0,0,1,1,0,1,0,0,0,0,0,1,0,0] (by kernel_rfl) (fun _ _ _ _=>rfl) ?_;simp only[dC,dB];iterate 18 ((try simp only[pA]);first|(apply sB rfl rfl;·(intro x h;(try cases h rfl);go_simp;with_reducible rfl))|apply dN rfl|apply dL rfl)
        refine cP ?_;try simp only[pA]
        go_wp2_with fail;go_roundw
        case rel=>exact⟨2,x1,by omega,by go_num,X.out.trans ⟨m.out.1,m.out.2.drew⟩,a7.out,by omega,by omega,by rw[←B.out];congr 1;omega⟩
        case measure=>simp[intOf]
      ·have C:n≠3:=by omega
       have c9:((j:Int)==1)=false:=by simp;omega
       have r:=E.out;rw[if_neg (fun h=>C h.1)]at r;have B:=cN r;have HN:=cN hn;clear r E C Q hn;go_wp2_with (go_at_call 184;refine u.out.mono ?_;rintro e q ⟨rfl,c⟩;refine cQ ?_);have m:=cN c;clear c o b6 a9 b0 c0;refine cN ?_;go_wp2_with fail;refine eD [0,0,0,0,0,0,1,1,0,1,0,0,0,0,0,1,0,0] (by kernel_rfl) (fun _ _ _ _=>rfl) ?_;simp only[dC,dB];iterate 18 ((try simp only[pA]);first|(apply sB rfl rfl;·(intro x h;(try cases h rfl);go_simp;with_reducible rfl))|apply dN rfl|apply dL rfl)
       refine cP ?_;try simp only[pA]
       go_wp2_with fail;go_roundw
       case rel=>exact⟨j+1,x1,by omega,by go_num,X.out.trans ⟨m.out.1,m.out.2.drew⟩,a7.out,by omega,by omega,by rw[←B.out];congr 1;have:=HN.out;omega⟩
       case measure=>simp[intOf];omega
    ·have Y:5-j=0:=by omega
     rw[Y]at l;have z7:=cX I.1 7;have c7:wr.cell? ⟨b,7,none⟩=some (.string (strOfNums x.log)):=cO I.1 7 _ rfl;have HT:Hid (RaTo wr b f {x with log:=S} (wr.setCell ⟨b,7,none⟩ (.string (strOfNums S)))):=⟨dD I.1 7 _,cY _ _ _ _⟩;have E:=cN (show{x with log:=S}=_ from l);clear l I Y;go_wp2_with fail;go_end0;exact⟨rfl,by rw[←E.out];exact X.out.trans HT.out⟩
theorem zU(h:RaAt W b f a)(hl:a.log.length≤1000000000)(hby:∀x ∈ a.log,0≤x∧x<256)(h1: -1≤a.left)(h2:a.left≤9223372036854775807):
 Calls prog 162 #[.pointer (some ⟨b,0,none⟩)] W fun e W'=>e= .returned (.tuple #[])∧RaTo W b f (jF f a) W':=by
 have J:W.cell? ⟨b,8,none⟩=some (.bool a.up):=cO h 8 _ rfl;have M:=cX h 8;have g:RaAt (W.setCell ⟨b,8,none⟩ (.bool true)) b f {a with up:=true}:=dD h 8 (.bool true);have n:RaTo W b f {a with up:=true} (W.setCell ⟨b,8,none⟩ (.bool true)):=⟨g,cY _ _ _ _⟩;generalize B:W.setCell ⟨b,8,none⟩ (.bool true)=W1 at*;have z:=cN B;have o:=cN n;have L:W1.cell? ⟨b,7,none⟩=some (.string (strOfNums a.log)):=cO g 7 _ rfl;have d:=rD (strOfNums a.log) W1 (by rw[dU];omega);rw[nN hby]at d;have E:25*(dO a.log).length≤a.log.length:=pC _ _;unfold jF;dsimp only;generalize (eG (dO a.log) 4)=T at d⊢;generalize (dO a.log).length=N at*;have A:=cN d;have F:=kI a.log;have I:IntKind.i64.wrap (25*(N:Int) / 25)=N:=by rw[fX (by omega) (by omega)];omega
 have p:(25*(N:Int)) / 25=N:=by omega
 have H:Int.tdiv ((25:Int)*(N:Int)) 25=N:=by rw[Int.tdiv_eq_ediv_of_nonneg (by omega)];omega
 rw[p];clear B n d h;by_cases l:25*(N:Int)<a.log.length∨f.compact<(N:Int)
 ·rw[if_pos l];have m:=fun x (hx:RaAt x b f {a with up:=true})=>xS x b f {a with up:=true} hx hl hby h1 h2;have u:=cN m;have K:=cN l;have c:=cN g;have j:decide (25*(N:Int)<a.log.length)=true∨(decide (25*(N:Int)<a.log.length)=false∧decide (f.compact<(N:Int))=true):=by
   rcases l with h|h
   ·left;simp[h]
   ·by_cases y:25*(N:Int)<a.log.length
    ·left;simp[y]
    ·right;exact⟨by simp[y],by simp[h]⟩
  clear m l g;rcases j with j|⟨j,t⟩;all_goals
   go_enter func162,ntmps162;go_wp2_with (first|rw[z.out]|(go_at_call 103;refine A.out.mono ?_;rintro e k ⟨v,rfl,r,i⟩;refine cQ ?_));have q:=cN i;have D:k.cell? ⟨b,7,none⟩=some (.string (strOfNums a.log)):=cO (RaAt.below c.out i) 7 _ rfl;have C:k.cell? ⟨b,5,none⟩=some (.int .i64 f.compact):=cO (RaAt.below c.out i) 5 _ rfl;have s:=cN (u.out k (RaAt.below c.out i));clear r i;refine cN ?_;go_wp2_with (go_at_call 160;refine s.out.mono ?_;rintro e G ⟨rfl,w⟩);go_end0;exact⟨rfl,o.out.trans ((RaTo.below c.out q.out).trans w)⟩
 ·rw[if_neg l];have c:=cN g;have j:decide (25*(N:Int)<a.log.length)=false:=by simp;omega
  have t:decide (f.compact<(N:Int))=false:=by simp;omega
  clear l g;go_enter func162,ntmps162;go_wp2_with (first|rw[z.out]|(go_at_call 103;refine A.out.mono ?_;rintro e k ⟨v,rfl,r,i⟩;refine cQ ?_));have q:=cN i;have D:k.cell? ⟨b,7,none⟩=some (.string (strOfNums a.log)):=cO (RaAt.below c.out i) 7 _ rfl;have C:k.cell? ⟨b,5,none⟩=some (.int .i64 f.compact):=cO (RaAt.below c.out i) 5 _ rfl;clear r i;refine cN ?_;go_wp2_with fail;go_end0;exact⟨rfl,o.out.trans (RaTo.below c.out q.out)⟩
end
theorem sE(fn:Func)(hr:fn.results=#[.cell 4 58,.cell 5 66])(tmps:Array Value)(x y:Nat)(r:Rw)(m:Mg)(W:World)(h4:tmps.getD 4 undef= .pointer (some ⟨x,0,none⟩))(h5:tmps.getD 5 undef= .pointer (some ⟨y,0,none⟩))(hb:W.heap[x]?=some (.cells (rwL r).toArray 58 (0,0)))(hc:W.heap[y]?=some (.cells (mgL m).toArray 66 (0,0))):
 (results fn tmps).run prog W= .ok (.tuple #[rwV r,mgV m]) W:=by
 have b:(loadVar 58 ⟨x,0,none⟩).run prog W= .ok (rwV r) W:=fB W ⟨x,0,none⟩ 58 (rwL r) _ (cR hb) underlying58 rfl (by kernel_rfl);have a:(loadVar 66 ⟨y,0,none⟩).run prog W= .ok (mgV m) W:=fB W ⟨y,0,none⟩ 66 (mgL m) _ (cR hc) underlying66 rfl (by kernel_rfl);unfold results;rw[hr];simp only[cK]at h4 h5;simp[h4,h5,asAddr,aT,b,a]
structure AnsSt(n0 q:Nat)(W0 W:World)(m:Mg)(R4:Rw)(M5:Mg)(R6:Rw)(X:Mg):Prop where
 bm:W.heap[n0]?=some (.cells (mgL m).toArray 66 (0,0))
 b4:W.heap[n0+1]?=some (.cells (rwL R4).toArray 58 (0,0))
 b5:W.heap[n0+2]?=some (.cells (mgL M5).toArray 66 (0,0))
 b6:W.heap[q]?=some (.cells (rwL R6).toArray 58 (0,0))
 b7:W.heap[q+1]?=some (.cells (mgL X).toArray 66 (0,0))
 b8:W.heap[q+2]?=some (.cells (rwL {zRw with lock:= -1}).toArray 58 (0,0))
 q:n0+3≤q
 be:Below n0 W0 W
theorem AnsSt.drew{n0 q:Nat}{W0 W:World}{m:Mg}{R4:Rw}{M5:Mg}{R6:Rw}{X:Mg}(h:AnsSt n0 q W0 W m R4 M5 R6 X):AnsSt n0 q W0 W.drew m R4 M5 R6 X:=⟨h.bm,h.b4,h.b5,h.b6,h.b7,h.b8,h.q,⟨h.be.os,h.be.tape,h.be.output,h.be.size,h.be.block⟩⟩
theorem vB{n b:Nat}{A B C:World}(h:Below n A B)(hc:Chg (fun k=>k=b) B C)(hb:n≤b)(hn:n≤B.heap.size):Below n A C:=h.trans (hc.below (fun k hk=>by omega) hn)
theorem AnsSt.n0{n0 q:Nat}{W0 W:World}{m:Mg}{R4:Rw}{M5:Mg}{R6:Rw}{X:Mg}(h:AnsSt n0 q W0 W m R4 M5 R6 X):n0≤W.heap.size:=Nat.le_of_lt (dG h.bm)
section
variable {n0 q:Nat} {W0 W W':World} {m:Mg}
theorem AnsSt.put4{R4 R4':Rw}{M5:Mg}{R6:Rw}{X:Mg}(h:AnsSt n0 q W0 W m R4 M5 R6 X)(hc:Chg (fun k=>k=n0+1) W W')(hb:W'.heap[n0+1]?=some (.cells (rwL R4').toArray 58 (0,0))):AnsSt n0 q W0 W' m R4' M5 R6 X:=
 have:=h.q
 ⟨hc.kept h.bm (by omega),hb,hc.kept h.b5 (by omega),hc.kept h.b6 (by omega),hc.kept h.b7 (by omega),hc.kept h.b8 (by omega),h.q,vB h.be hc (by omega) h.n0⟩
theorem AnsSt.put5{R4:Rw}{M5 M5':Mg}{R6:Rw}{X:Mg}(h:AnsSt n0 q W0 W m R4 M5 R6 X)(hc:Chg (fun k=>k=n0+2) W W')(hb:W'.heap[n0+2]?=some (.cells (mgL M5').toArray 66 (0,0))):AnsSt n0 q W0 W' m R4 M5' R6 X:=
 have:=h.q
 ⟨hc.kept h.bm (by omega),hc.kept h.b4 (by omega),hb,hc.kept h.b6 (by omega),hc.kept h.b7 (by omega),hc.kept h.b8 (by omega),h.q,vB h.be hc (by omega) h.n0⟩
theorem AnsSt.put6{R4:Rw}{M5:Mg}{R6 R6':Rw}{X:Mg}(h:AnsSt n0 q W0 W m R4 M5 R6 X)(hc:Chg (fun k=>k=q) W W')(hb:W'.heap[q]?=some (.cells (rwL R6').toArray 58 (0,0))):AnsSt n0 q W0 W' m R4 M5 R6' X:=
 have:=h.q
 ⟨hc.kept h.bm (by omega),hc.kept h.b4 (by omega),hc.kept h.b5 (by omega),hb,hc.kept h.b7 (by omega),hc.kept h.b8 (by omega),h.q,vB h.be hc (by omega) h.n0⟩
theorem AnsSt.put7{R4:Rw}{M5:Mg}{R6:Rw}{X X':Mg}(h:AnsSt n0 q W0 W m R4 M5 R6 X)(hc:Chg (fun k=>k=q+1) W W')(hb:W'.heap[q+1]?=some (.cells (mgL X').toArray 66 (0,0))):AnsSt n0 q W0 W' m R4 M5 R6 X':=
 have:=h.q
 ⟨hc.kept h.bm (by omega),hc.kept h.b4 (by omega),hc.kept h.b5 (by omega),hc.kept h.b6 (by omega),hb,hc.kept h.b8 (by omega),h.q,vB h.be hc (by omega) h.n0⟩
end
theorem aCk(a:Ra)(l:Int)(h0:0≤l):(uT a l).lock=l:=by
 unfold uT;cases hq:dX (dO a.log) l.toNat with
 |none=>rfl
 |some r=>
  unfold dX at hq;have:=List.find?_some hq;simp only[Option.getD_some];simp at this;omega
def sT:Option Rw→Rw
 |none=>{zRw with lock:= -1}
 |some r=>r
theorem aDd(W:World)(b:Nat)(f:Cf)(a:Ra)(m:Mg)(h:RaAt W b f a)(hl:a.log.length≤1000000000)(hby:∀x ∈ a.log,0≤x∧x<256)(hl0:0≤m.lock)(hl3:m.lock≤3)(hk:m.kind=1∨m.kind=3):
 Calls prog 155 #[.pointer (some ⟨b,0,none⟩),mgV m] W fun e W'=>e= .returned (.tuple #[rwV (sT (kF a m).1),mgV (kF a m).2])∧Below W.heap.size W W':=by
 have f8:=aCk a m.lock hl0;have a1:=fun x (w:RaAt x b f a)=>aIR x b f a m.lock w hl hby hl0 hl3;unfold kF;dsimp only;generalize uT a m.lock=R at*;obtain⟨U,I⟩:=aLw (((W.alloc (.cells (mgL m).toArray 66)).alloc (.cells (rwL zRw).toArray 58)).alloc (.cells (mgL zMg).toArray 66));have d9:((W.alloc (.cells #[.int .i64 m.kind,.int .i64 m.src,.int .i64 m.dst,.int .i64 m.lock,.int .i64 m.bal,.int .i64 m.base,.int .i64 m.val.own,.int .i64 m.val.tok,.int .i64 m.val.ttl,.int .i64 m.val.seq] 66)).alloc (.cells #[.int .i64 0,.int .i64 0,.int .i64 0,.int .i64 0,.int .i64 0,.int .i64 0,.int .i64 0] 58)).alloc (.cells #[.int .i64 0,.int .i64 0,.int .i64 0,.int .i64 0,.int .i64 0,.int .i64 0,.int .i64 0,.int .i64 0,.int .i64 0,.int .i64 0] 66)=U:=I.symm;have b3:U.heap[W.heap.size]?=some (.cells (mgL m).toArray 66 (0,0)):=by rw[I];exact dM _ (dM _ (aA W _))
 have c8:U.heap[W.heap.size+1]?=some (.cells (rwL zRw).toArray 58 (0,0)):=by
  rw[I];have:=aA (W.alloc (.cells (mgL m).toArray 66)) (.cells (rwL zRw).toArray 58);simp only[bK]at this;exact dM _ this
 have e3:U.heap[W.heap.size+2]?=some (.cells (mgL zMg).toArray 66 (0,0)):=by
  rw[I];have:=aA ((W.alloc (.cells (mgL m).toArray 66)).alloc (.cells (rwL zRw).toArray 58)) (.cells (mgL zMg).toArray 66);simpa only[bK]using this
 have c2:Below W.heap.size W U:=by
  rw[I];exact(((aJ _ W).alloc (aE _) _).alloc (by simp) _).alloc (by simp;omega) _
 have d2:U.heap.size=W.heap.size+3:=by rw[I];simp
 have e8:=RaAt.below h c2;have f0:=cN (a1 U e8);have f2:=cN d9;have m3:U.cell? ⟨W.heap.size,3,none⟩=some (.int .i64 m.lock):=cO b3 3 _ rfl;have V:=cN (aLo b3 c8 e3 c2 d2);clear I d9 b3 c8 e3 c2 d2 e8 a1 h;obtain⟨o,ho⟩:=aLx (sT (if mN m R=true then some (iT m R)else none));obtain⟨xo,c5⟩:=aLx (aI1 (jX m R) m);rw[ho,c5];have HO:=cN ho;have Y:=cN c5;clear ho c5;go_enter func155,ntmps155;go_wp2_with (first|rw[f2.out]|(go_at_call 183;refine f0.out.mono ?_;rintro e W2 ⟨rfl,L⟩;refine cQ ?_));have a6:=(L.block W.heap.size (by have:=V.out.2.2.2.2;omega)).trans V.out.1;have a5:=(L.block (W.heap.size+1) (by have:=V.out.2.2.2.2;omega)).trans V.out.2.1;have a7:=(L.block (W.heap.size+2) (by have:=V.out.2.2.2.2;omega)).trans V.out.2.2.1;have e1:=V.out.2.2.2.1.trans (L.mono V.out.2.2.2.1.size);have e6:W.heap.size+3≤W2.heap.size:=by have:=L.size;have:=V.out.2.2.2.2;omega
 have T:=cN (aLo a6 a5 a7 e1 e6);clear a6 a5 a7 e1 e6 L m3;refine cN ?_;go_wp2_with (refine cV rfl 58 _ _ rfl (W2.heap.size) 0 58 _ _ (rwL R) rfl rfl (aA W2 _) (by kernel_rfl) (by simp[Value.oneCell']) (by simp) rfl ?_;intro Z e2 e0 b1;refine cQ ?_);have B:=((Chg.refl NoS W2).alloc _).nos.trans e2 (fun _ _ h=>h);have S:Z.heap.size=W2.heap.size+1:=by rw[e0];simp
 obtain⟨q,hq⟩:=aLx (W2.heap.size);rw[hq]at B b1 S;have A:=B.kept T.out.1 (by have:=T.out.2.2.2.2;omega);have a0:=B.kept T.out.2.1 (by have:=T.out.2.2.2.2;omega);have a9:=B.kept T.out.2.2.1 (by have:=T.out.2.2.2.2;omega);have d1:=T.out.2.2.2.1.trans (B.below (fun k hk=>by have:=T.out.2.2.2.2;omega) (by have:=T.out.2.2.2.2;omega));have H3:=cN (aLo A a0 a9 d1 b1);have m1:Z.cell? ⟨W.heap.size,1,none⟩=some (.int .i64 m.src):=cO A 1 _ rfl;have m2:Z.cell? ⟨W.heap.size,2,none⟩=some (.int .i64 m.dst):=cO A 2 _ rfl;have m3:Z.cell? ⟨W.heap.size,3,none⟩=some (.int .i64 m.lock):=cO A 3 _ rfl;have m4:Z.cell? ⟨W.heap.size,4,none⟩=some (.int .i64 m.bal):=cO A 4 _ rfl;have X:Hid (W.heap.size+3≤q):=by have:=T.out.2.2.2.2;rw[hq]at this;exact this
 have c1:=cN S;clear B A a0 a9 d1 b1 e2 e0 S;refine cN ?_;simp only[hq];clear hq;obtain⟨x,w⟩:∃x:Mg,x=⟨0,m.dst,m.src,m.lock,m.bal,0,zVl⟩:=⟨_,rfl⟩;have O:=cN w;clear w;go_wp2_with (refine cV rfl 66 _ _ rfl (Z.heap.size) 0 66 _ _ (mgL ⟨0,m.dst,m.src,m.lock,m.bal,0,zVl⟩) rfl rfl (aA Z _) (by kernel_rfl) (by simp[Value.oneCell']) (by simp) rfl ?_;intro W4 d3 d4 c3;refine cQ ?_);have t:=((Chg.refl NoS Z).alloc _).nos.trans d3 (fun _ _ h=>h);have a4:W4.heap.size=q+2:=by rw[d4];simp;have:=c1.out;omega
 rw[c1.out]at t c3;have a2:=t.kept H3.out.1 (by have:=X.out;omega);have a3:=t.kept H3.out.2.1 (by have:=X.out;omega);have b0:=t.kept H3.out.2.2.1 (by have:=X.out;omega);have a8:=t.kept H3.out.2.2.2.2 (by omega);have e5:=H3.out.2.2.2.1.trans (t.below (fun k hk=>by have:=X.out;omega) H3.out.2.2.2.1.size);have d8:W4.heap[q+1]?=some (.cells (mgL x).toArray 66 (0,0)):=by rw[O.out];exact c3
 have H4:=cN (aLp a2 a3 b0 e5 a8 d8);have d0:=cN a4;clear t a2 a3 b0 a8 e5 d8 c3 d3 d4 a4 m1 m2 m3 m4;refine cN ?_;simp only[c1.out];go_wp2_with (refine cV rfl 58 _ _ rfl (W4.heap.size) 0 58 _ _ (rwL {zRw with lock:= -1}) rfl rfl (aA W4 _) (by kernel_rfl) (by simp[Value.oneCell']) (by simp) rfl ?_;intro M l D i;refine cQ ?_);have n:=((Chg.refl NoS W4).alloc _).nos.trans l (fun _ _ h=>h);rw[d0.out]at n i;have hA:AnsSt W.heap.size q W M m zRw zMg R x:=⟨n.kept H4.out.1 (by have:=X.out;omega),n.kept H4.out.2.1 (by have:=X.out;omega),n.kept H4.out.2.2.1 (by have:=X.out;omega),n.kept H4.out.2.2.2.2.1 (by omega),n.kept H4.out.2.2.2.2.2 (by omega),i,X.out,H4.out.2.2.2.1.trans (n.below (fun k hk=>by have:=X.out;omega) H4.out.2.2.2.1.size)⟩;have J:=cN hA;clear n i hA l D;refine cN ?_;simp only[d0.out];have m4:M.cell? ⟨W.heap.size,4,none⟩=some (.int .i64 m.bal):=cO J.out.bm 4 _ rfl;have r1:M.cell? ⟨q,1,none⟩=some (.int .i64 R.prom):=cO J.out.b6 1 _ rfl;by_cases F:m.bal<R.prom
 ·have s:Hid (o={zRw with lock:= -1}∧xo={x with kind:=5,base:=R.prom}):=by
   refine⟨?_,?_⟩
   ·rw[←HO.out];simp[mN,sT,F]
   ·rw[←Y.out,O.out];simp[jX,aI1,F,zMg]
  have hb:decide (m.bal<R.prom)=true:=by simpa using F
  clear F;have k0:M.cell? ⟨q+1,0,none⟩=some (.int .i64 x.kind):=cO J.out.b7 0 _ rfl;have z0:=cX J.out.b7 0;have g:=J.out.put7 (X':={x with kind:=5}) (cY M (q+1) 0 (.int .i64 5)) (dD J.out.b7 0 (.int .i64 5));generalize G:M.setCell ⟨q+1,0,none⟩ (.int .i64 5)=W6 at*;have N:=cN G;have f1:W6.cell? ⟨q,1,none⟩=some (.int .i64 R.prom):=cO g.b6 1 _ rfl;have k5:W6.cell? ⟨q+1,5,none⟩=some (.int .i64 x.base):=cO g.b7 5 _ rfl;have z5:=cX g.b7 5;have K:=g.put7 (X':={x with kind:=5,base:=R.prom}) (cY W6 (q+1) 5 (.int .i64 R.prom)) (dD g.b7 5 (.int .i64 R.prom));generalize Q:W6.setCell ⟨q+1,5,none⟩ (.int .i64 R.prom)=W7 at*;have b9:=cN Q;have u:=cN K;clear G Q g K;go_wp2_with (first|rw[N.out]|rw[b9.out]);clear k0 z0 f1 k5 z5 m4 r1;refine rlx [1,1,2] (fun z=>(∀j y,(rwL {zRw with lock:= -1})[j]?=some y→z.cell? ((⟨q+2,0,none⟩:Addr).add j)=some y)∧(∀j y,(mgL {x with kind:=5,base:=R.prom})[j]?=some y→z.cell? ((⟨q+1,0,none⟩:Addr).add j)=some y)) (by kernel_rfl) (fun _ _ _ _=>rfl) ?_ ?_
  ·exact⟨cR (W:=W7.drew) u.out.b8,cR (W:=W7.drew) u.out.b7⟩
  simp only[dC,dB];refine dA (v:=rwV {zRw with lock:= -1}) rfl (fun zz w=>cU 58 _ rfl ⟨q+2,0,none⟩ rfl (rwL {zRw with lock:= -1}) _ w.1 underlying58 rfl (by kernel_rfl)) ?_;(try simp only[pA]);refine dA (v:=mgV {x with kind:=5,base:=R.prom}) rfl (fun zz w=>cU 66 _ rfl ⟨q+1,0,none⟩ rfl (mgL {x with kind:=5,base:=R.prom}) _ w.2 underlying66 rfl (by kernel_rfl)) ?_;(try simp only[pA]);refine dI rfl (fun C hC=>?_);refine eM 58 _ _ rfl (W.heap.size+1) 0 58 _ _ (rwL {zRw with lock:= -1}) rfl rfl u.out.drew.b4 (by kernel_rfl) (by simp[Value.oneCell']) (by simp) rfl ?_;intro b2 l D i;have c:=cN (u.out.drew.put4 l i);refine hC _ _ ⟨cR c.out.b8,cR c.out.b7⟩ ?_;clear hC C;refine cP ?_;clear l D i;(try simp only[pA]);go_wp2_with (refine cV rfl 66 _ _ rfl (W.heap.size+2) 0 66 _ _ (mgL {x with kind:=5,base:=R.prom}) rfl rfl c.out.b5 (by kernel_rfl) (by simp[Value.oneCell']) (by simp) rfl ?_;intro c4 r H p;refine cQ ?_);have d:=cN (c.out.put5 r p);clear r H p;refine cN ?_;go_wp2_with fail;exact bodyPost_ret (sE _ results155 _ (W.heap.size+1) (W.heap.size+2) {zRw with lock:= -1} {x with kind:=5,base:=R.prom} _ rfl rfl d.out.b4 d.out.b5) rfl ⟨by rw[s.out.1,s.out.2],d.out.be⟩
 ·have hb:decide (m.bal<R.prom)=false:=by simpa using F
  have m0:M.cell? ⟨W.heap.size,0,none⟩=some (.int .i64 m.kind):=cO J.out.bm 0 _ rfl;have k0:M.cell? ⟨q+1,0,none⟩=some (.int .i64 x.kind):=cO J.out.b7 0 _ rfl;have z0:=cX J.out.b7 0;by_cases h3:m.kind=3
  ·have s:Hid (o=⟨m.lock,m.bal,m.bal,m.val.own,m.val.tok,m.val.ttl,m.val.seq⟩∧xo={x with kind:=4}):=by
    refine⟨?_,?_⟩
    ·rw[←HO.out];simp[mN,iT,sT,F,h3,f8]
    ·rw[←Y.out,O.out];simp[jX,aI1,F,h3,zMg]
   have f5:(m.kind==3)=true:=by simp[h3]
   clear F h3 hk;have g:=J.out.put7 (X':={x with kind:=4}) (cY M (q+1) 0 (.int .i64 4)) (dD J.out.b7 0 (.int .i64 4));generalize G:M.setCell ⟨q+1,0,none⟩ (.int .i64 4)=W6 at*;have N:=cN G;have u:=cN g;clear G g;go_wp2_with (first|rw[N.out]);clear k0 z0 r1 m0 m4;refine rlx [0,1,0,1,0,1,0,1,0,1,2] (fun z=>z.cell? ⟨W.heap.size,3,none⟩=some (.int .i64 m.lock)∧z.cell? ⟨W.heap.size,4,none⟩=some (.int .i64 m.bal)∧(∀j y,(vlL m.val)[j]?=some y→z.cell? ((⟨W.heap.size,6,none⟩:Addr).add j)=some y)∧(∀j y,(mgL {x with kind:=4})[j]?=some y→z.cell? ((⟨q+1,0,none⟩:Addr).add j)=some y)) (by kernel_rfl) (fun _ _ _ _=>rfl) ?_ ?_
   ·exact⟨cO u.out.drew.bm 3 _ rfl,cO u.out.drew.bm 4 _ rfl,eL u.out.drew.bm 6 _ (aCI m),cR (W:=W6.drew) u.out.b7⟩
   simp only[dC,dB];iterate 7 (apply sB rfl rfl;·(intro x h;(try have h:=h rfl);(try dsimp only at h);go_simp;with_reducible rfl))
   try simp only[pA]
   refine dA (v:=vlV m.val) rfl (fun zz w=>cU 56 _ rfl ⟨W.heap.size,6,none⟩ rfl (vlL m.val) _ w.2.2.1 underlying56 rfl (by kernel_rfl)) ?_;(try simp only[pA]);iterate 1 (apply sB rfl rfl;·(intro x h;(try have h:=h rfl);(try dsimp only at h);go_simp;with_reducible rfl))
   try simp only[pA]
   refine dA (v:=mgV {x with kind:=4}) rfl (fun zz w=>cU 66 _ rfl ⟨q+1,0,none⟩ rfl (mgL {x with kind:=4}) _ w.2.2.2 underlying66 rfl (by kernel_rfl)) ?_;(try simp only[pA]);refine dI rfl (fun C hC=>?_);refine eM 58 _ _ rfl (W.heap.size+1) 0 58 _ _ (rwL ⟨m.lock,m.bal,m.bal,m.val.own,m.val.tok,m.val.ttl,m.val.seq⟩) rfl rfl u.out.drew.b4 (by kernel_rfl) (by simp[Value.oneCell']) (by simp) rfl ?_;intro b2 l D i;have c:=cN (u.out.drew.put4 l i);refine hC _ _ ⟨cO c.out.bm 3 _ rfl,cO c.out.bm 4 _ rfl,eL c.out.bm 6 _ (aCI m),cR c.out.b7⟩ ?_;clear hC C;refine cP ?_;clear l D i;(try simp only[pA]);go_wp2_with (refine cV rfl 66 _ _ rfl (W.heap.size+2) 0 66 _ _ (mgL {x with kind:=4}) rfl rfl c.out.b5 (by kernel_rfl) (by simp[Value.oneCell']) (by simp) rfl ?_;intro c4 r H p;refine cQ ?_);have d:=cN (c.out.put5 r p);clear r H p;refine cN ?_;go_wp2_with fail;exact bodyPost_ret (sE _ results155 _ (W.heap.size+1) (W.heap.size+2) ⟨m.lock,m.bal,m.bal,m.val.own,m.val.tok,m.val.ttl,m.val.seq⟩ {x with kind:=4} _ rfl rfl d.out.b4 d.out.b5) rfl ⟨by rw[s.out.1,s.out.2],d.out.be⟩
  ·have E:m.kind=1:=by omega
   have f5:(m.kind==3)=false:=by simp[h3]
   have g:=J.out.put7 (X':={x with kind:=2}) (cY M (q+1) 0 (.int .i64 2)) (dD J.out.b7 0 (.int .i64 2));generalize G:M.setCell ⟨q+1,0,none⟩ (.int .i64 2)=W6 at*;have N:=cN G;have f6:W6.cell? ⟨q,2,none⟩=some (.int .i64 R.acc):=cO g.b6 2 _ rfl;have k5:W6.cell? ⟨q+1,5,none⟩=some (.int .i64 x.base):=cO g.b7 5 _ rfl;have z5:=cX g.b7 5;have K:=g.put7 (X':={x with kind:=2,base:=R.acc}) (cY W6 (q+1) 5 (.int .i64 R.acc)) (dD g.b7 5 (.int .i64 R.acc));generalize Q:W6.setCell ⟨q+1,5,none⟩ (.int .i64 R.acc)=W7 at*;have b9:=cN Q;have d7:=cN K;have g0:=cN (eL K.b6 3 _ (aC7 R));have c7:=cN (aLl F E);clear G Q g K F h3 hk E;go_wp2_with (first|rw[N.out]|rw[b9.out]|(refine cW rfl 56 _ rfl ⟨q,3,none⟩ rfl (vlL (oP R)) _ g0.out underlying56 rfl (by kernel_rfl) ?_)|(refine cV rfl 56 _ _ rfl (q+1) 6 66 _ _ (mgL {x with kind:=2,base:=R.acc,val:=oP R}) rfl rfl d7.out.b7 (by kernel_rfl) (by simp[Value.oneCell']) (by simp) rfl ?_;intro W8 d6 f9 e7;refine cQ ?_));have P:=d7.out.put7 d6 e7;have c0:=cN P;have e9:W8.cell? ⟨W.heap.size,4,none⟩=some (.int .i64 m.bal):=cO P.bm 4 _ rfl;have c9:W8.cell? ⟨q,1,none⟩=some (.int .i64 R.prom):=cO P.b6 1 _ rfl;have d5:=cX P.b6 1;clear d6 f9 e7 k0 z0 f6 k5 z5 m0 m4 r1 P;refine cN ?_;by_cases h4:m.bal=R.prom
   ·have s:Hid (o={zRw with lock:= -1}∧xo={x with kind:=2,base:=R.acc,val:=oP R}):=by
     obtain⟨f4,E⟩:=c7.out;have F:¬m.bal<R.prom:=by omega
     refine⟨?_,?_⟩
     ·have h5:¬R.prom<m.bal:=by omega
      rw[←HO.out];simp[mN,sT,F,E,h5]
     ·rw[←Y.out,O.out,(show jX m R={zMg with kind:=2,base:=R.acc,val:=oP R}from(if_neg F).trans (if_pos E))];rfl
    have f3:(m.bal==R.prom)=true:=by simp[h4]
    clear h4;have u:=cN c0.out;go_wp2_with fail;clear e9 c9 d5;refine rlx [1,1,2] (fun z=>(∀j y,(rwL {zRw with lock:= -1})[j]?=some y→z.cell? ((⟨q+2,0,none⟩:Addr).add j)=some y)∧(∀j y,(mgL {x with kind:=2,base:=R.acc,val:=oP R})[j]?=some y→z.cell? ((⟨q+1,0,none⟩:Addr).add j)=some y)) (by kernel_rfl) (fun _ _ _ _=>rfl) ?_ ?_
    ·exact⟨cR (W:=W8.drew) u.out.b8,cR (W:=W8.drew) u.out.b7⟩
    simp only[dC,dB];refine dA (v:=rwV {zRw with lock:= -1}) rfl (fun zz w=>cU 58 _ rfl ⟨q+2,0,none⟩ rfl (rwL {zRw with lock:= -1}) _ w.1 underlying58 rfl (by kernel_rfl)) ?_;(try simp only[pA]);refine dA (v:=mgV {x with kind:=2,base:=R.acc,val:=oP R}) rfl (fun zz w=>cU 66 _ rfl ⟨q+1,0,none⟩ rfl (mgL {x with kind:=2,base:=R.acc,val:=oP R}) _ w.2 underlying66 rfl (by kernel_rfl)) ?_;(try simp only[pA]);refine dI rfl (fun C hC=>?_);refine eM 58 _ _ rfl (W.heap.size+1) 0 58 _ _ (rwL {zRw with lock:= -1}) rfl rfl u.out.drew.b4 (by kernel_rfl) (by simp[Value.oneCell']) (by simp) rfl ?_;intro b2 l D i;have c:=cN (u.out.drew.put4 l i);refine hC _ _ ⟨cR c.out.b8,cR c.out.b7⟩ ?_;clear hC C;refine cP ?_;clear l D i;(try simp only[pA]);go_wp2_with (refine cV rfl 66 _ _ rfl (W.heap.size+2) 0 66 _ _ (mgL {x with kind:=2,base:=R.acc,val:=oP R}) rfl rfl c.out.b5 (by kernel_rfl) (by simp[Value.oneCell']) (by simp) rfl ?_;intro c4 r H p;refine cQ ?_);have d:=cN (c.out.put5 r p);clear r H p;refine cN ?_;go_wp2_with fail;exact bodyPost_ret (sE _ results155 _ (W.heap.size+1) (W.heap.size+2) {zRw with lock:= -1} {x with kind:=2,base:=R.acc,val:=oP R} _ rfl rfl d.out.b4 d.out.b5) rfl ⟨by rw[s.out.1,s.out.2],d.out.be⟩
   ·have s:Hid (o={R with prom:=m.bal}∧xo={x with kind:=2,base:=R.acc,val:=oP R}):=by
     obtain⟨f4,E⟩:=c7.out;have F:¬m.bal<R.prom:=by omega
     refine⟨?_,?_⟩
     ·have h5:R.prom<m.bal:=by omega
      rw[←HO.out,(show mN m R=true from(if_neg F).trans ((if_pos E).trans (by simp[h5]))),(show iT m R={R with prom:=m.bal}from(if_neg F).trans (if_pos E))];rfl
     ·rw[←Y.out,O.out,(show jX m R={zMg with kind:=2,base:=R.acc,val:=oP R}from(if_neg F).trans (if_pos E))];rfl
    have f3:(m.bal==R.prom)=false:=by simp[h4]
    have c6:=c0.out.put6 (R6':={R with prom:=m.bal}) (cY W8 q 1 (.int .i64 m.bal)) (dD c0.out.b6 1 (.int .i64 m.bal));generalize e4:W8.setCell ⟨q,1,none⟩ (.int .i64 m.bal)=W9 at*;have f7:=cN e4;have u:=cN c6;clear e4 c6 h4;go_wp2_with (first|rw[f7.out]);clear e9 c9 d5;refine rlx [1,1,2] (fun z=>(∀j y,(rwL {R with prom:=m.bal})[j]?=some y→z.cell? ((⟨q,0,none⟩:Addr).add j)=some y)∧(∀j y,(mgL {x with kind:=2,base:=R.acc,val:=oP R})[j]?=some y→z.cell? ((⟨q+1,0,none⟩:Addr).add j)=some y)) (by kernel_rfl) (fun _ _ _ _=>rfl) ?_ ?_
    ·exact⟨cR (W:=W9.drew) u.out.b6,cR (W:=W9.drew) u.out.b7⟩
    simp only[dC,dB];refine dA (v:=rwV {R with prom:=m.bal}) rfl (fun zz w=>cU 58 _ rfl ⟨q,0,none⟩ rfl (rwL {R with prom:=m.bal}) _ w.1 underlying58 rfl (by kernel_rfl)) ?_;(try simp only[pA]);refine dA (v:=mgV {x with kind:=2,base:=R.acc,val:=oP R}) rfl (fun zz w=>cU 66 _ rfl ⟨q+1,0,none⟩ rfl (mgL {x with kind:=2,base:=R.acc,val:=oP R}) _ w.2 underlying66 rfl (by kernel_rfl)) ?_;(try simp only[pA]);refine dI rfl (fun C hC=>?_);refine eM 58 _ _ rfl (W.heap.size+1) 0 58 _ _ (rwL {R with prom:=m.bal}) rfl rfl u.out.drew.b4 (by kernel_rfl) (by simp[Value.oneCell']) (by simp) rfl ?_;intro b2 l D i;have c:=cN (u.out.drew.put4 l i);refine hC _ _ ⟨cR c.out.b6,cR c.out.b7⟩ ?_;clear hC C;refine cP ?_;clear l D i;(try simp only[pA]);go_wp2_with (refine cV rfl 66 _ _ rfl (W.heap.size+2) 0 66 _ _ (mgL {x with kind:=2,base:=R.acc,val:=oP R}) rfl rfl c.out.b5 (by kernel_rfl) (by simp[Value.oneCell']) (by simp) rfl ?_;intro c4 r H p;refine cQ ?_);have d:=cN (c.out.put5 r p);clear r H p;refine cN ?_;go_wp2_with fail;exact bodyPost_ret (sE _ results155 _ (W.heap.size+1) (W.heap.size+2) {R with prom:=m.bal} {x with kind:=2,base:=R.acc,val:=oP R} _ rfl rfl d.out.b4 d.out.b5) rfl ⟨by rw[s.out.1,s.out.2],d.out.be⟩
end Go.Proofs.YtbbdgokdfhdpiaaGreatDoor
