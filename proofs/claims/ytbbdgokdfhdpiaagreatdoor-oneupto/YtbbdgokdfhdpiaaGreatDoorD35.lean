/- A part of the proof: OneK, OneP. -/
import Derived.Test.YtbbdgokdfhdpiaaGreatDoorD30
import Derived.Test.YtbbdgokdfhdpiaaGreatDoorD32
import Derived.Test.YtbbdgokdfhdpiaaGreatDoorD33
namespace Go.Proofs.YtbbdgokdfhdpiaaGreatDoor
set_option linter.all false
set_option maxRecDepth 100000
set_option maxHeartbeats 40000000
open Go.Proofs.Tryz Go.RowKit
theorem aEk{t:List Ev}{l:List Bt}{out:List Nat}{lock:Int}:∀{n i},aDi t l out lock n=true→i<n→uD t l out lock i=true
 |n+1,i,h,hi=>by
  unfold aDi at h;rw[aR]at h;by_cases q:i=n
  ·rw[q];exact h.2
  ·exact aEk h.1 (by omega)
theorem aDH{t:List Ev}{l:List Bt}{out:List Nat}{lock:Int}{i:Nat}(h:uD t l out lock i=true)(hk:(t.getD i zEv).kind=2)(hl:(t.getD i zEv).olock=lock):∃n,hZ t l out i out.length=some n∧kN (jI t i (t.length-(i+1)) (i+1)) n=true∧(nK (jI t i (t.length-(i+1)) (i+1))=false∨(nK (jI t i (t.length-(i+1)) (i+1))=true∧qE l out (jI t i (t.length-(i+1)) (i+1))=true∧kR t (jI t i (t.length-(i+1)) (i+1)) lock i=true)):=by
 unfold uD at h;rw[if_neg (fun z=>z.elim (fun z=>z hk) (fun z=>z hl))]at h;cases hc:hZ t l out i out.length with
 |none=>rw[hc]at h;cases h
 |some n=>
  rw[hc]at h;dsimp only at h;rw[aR]at h;refine⟨n,rfl,h.1,?_⟩;have a:=h.2;cases hd:nK (jI t i (t.length-(i+1)) (i+1))with
  |false=>exact Or.inl rfl
  |true=>
   rw[hd]at a;simp only[Bool.not_true,Bool.false_or,aR]at a;exact Or.inr ⟨rfl,a.1,a.2⟩
theorem aAN{t:List Ev}{a:Nat}(h:∀e ∈ t,e.kind=2∨e.kind=3→ -1000≤e.node∧e.node≤1000000):∀n i, -1000≤(jI t a n i).node∧(jI t a n i).node≤1000000
 |0,i=>by unfold jI;exact⟨by show(-1000:Int)≤0;decide,by show(0:Int)≤1000000;decide⟩
 |n+1,i=>by
  unfold jI;split
  ·rename_i h3;rw[aQ]at h3⊢;cases hx:t[i]? with
   |none=>exact⟨by show(-1000:Int)≤0;decide,by show(0:Int)≤1000000;decide⟩
   |some e=>rw[hx]at h3;exact h e (List.mem_of_getElem? hx) (Or.inr h3.1)
  ·split
   ·exact⟨by show(-1000:Int)≤0;decide,by show(0:Int)≤1000000;decide⟩
   ·exact aAN h n (i+1)
def xP(W:World)(pt:Option Addr)(ct:Nat)(t:List Ev)(lock:Int)(l:List Bt):Prop:=
 Calls prog 50 #[.slice pt t.length ct,.int .i64 lock] W fun r W'=>Chg NoS W W'∧∃L:List (Bt×Value),L.map Prod.fst=l∧(∀q ∈ L,∃p c,q.2= .slice p q.1.acc.length c∧LsAt sA 1 W' p q.1.acc)∧∃pl cl,r= .returned (.tuple #[.slice pl L.length cl,.bool true])∧LsAt btF 13 W' pl L
theorem aGB(W:World)(pt:Option Addr)(ct:Nat)(t:List Ev)(lk fc:Int)(l:List Bt)(out:List Nat)(hT:LsAt evL 19 W pt t)(ht:t.length≤1000000000000)(hnd:∀e ∈ t,e.kind=2∨e.kind=3→ -1000≤e.node∧e.node≤1000000)(hB:xP W pt ct t lk l)(hl:l.length≤1000000000000)(hrow:aBt l fc=some out)(hmet:uK l out fc l.length=true)(hops:aDi t l out lk t.length=true)
 (hx:∀x ∈ l,(0≤x.op∧x.op<t.length)∧(-1000≤x.m.src∧x.m.src≤1000000)∧(-1≤x.m.val.seq∧x.m.val.seq≤4611686018427387904)∧0≤x.m.bal∧x.m.bal≤999999999999):
 Calls prog 18 #[.slice pt t.length ct,.int .i64 lk,.int .i64 fc] W fun r W'=>r= .returned (.bool true)∧Chg NoS W W':=by
 have HT:=cB hT;have HB:=cB hB;unfold xP at hB;have d5:=cB hB;have w:=cB (aJ0 hl hrow hmet hops hx hnd);clear hT hB hl hrow hmet hops hx hnd HB;go_enter func18,ntmps18;go_wp2_with (go_at_call 50;refine d5.out.mono ?_;rintro e W2 ⟨N,L,y,a1,pl,cl,rfl,a4⟩;refine cE ?_);have B:∀q ∈ L,q.1 ∈ l:=fun q b=>by rw[←y];exact bN.2 ⟨q,b,rfl⟩
 have v:L.length=l.length:=by rw[←y,bL]
 have C:L.length≤1000000000000:=by rw[v];exact w.out.1
 have G:=aG9 W2 pl cl L fc a4 C (fun q b=>by obtain⟨p,c,h,_⟩:=a1 q b;exact⟨p,c,h⟩) (fun q b=>(w.out.2.2.2.2.1 q.1 (B q b)).2.2.2);rw[y,v]at G;rw[←v]at G;have O:Calls prog 51 #[.slice pl L.length cl,.int .i64 fc] W2 fun r W'=>Below W2.heap.size W2 W'∧(∀k ∈ out,k<L.length)∧out.length≤1000000000000∧∃po co,r= .returned (.tuple #[.slice po out.length co,.bool true])∧LsAt sA 1 W' po (tP out):=by
  refine G.mono ?_;rintro r W' ⟨hb,h⟩;refine⟨hb,?_⟩;rcases h with⟨A,J,r2,r3,r4,r5⟩|⟨J,r2⟩
  ·obtain rfl:out=A:=aN (w.out.2.1.symm.trans J);exact⟨r3,r4,r5⟩
  ·exfalso;rcases J with J|⟨A,J,r2⟩
   ·rw[w.out.2.1]at J;cases J
   ·obtain rfl:out=A:=aN (w.out.2.1.symm.trans J);rw[v,w.out.2.2.1]at r2;cases r2
 have e7:=cB O;have D:=cB (aJ1 N y a1 a4 B v C);clear N y a1 a4 B v C G O;refine cB ?_;go_wp2_with (go_at_call 51;refine e7.out.mono ?_;rintro e W3 ⟨I,r3,r4,po,co,rfl,r5⟩;refine cE ?_);have b9:Chg NoS W W3:=D.out.1.trans (Chg.below' I) (fun _ _ z=>z);have HK:Hid (aI0 t W3 L):=⟨fun q b=>(w.out.2.2.2.2.1 _ (D.out.2.2.2.2.1 q b)).1,fun q b=>(w.out.2.2.2.2.1 _ (D.out.2.2.2.2.1 q b)).2.1,fun q b=>(w.out.2.2.2.2.1 _ (D.out.2.2.2.2.1 q b)).2.2.1,fun q b=>by
  obtain⟨p,c,K,h2⟩:=D.out.2.2.1 q b;exact⟨p,c,K,h2.chg0 (Chg.below' I)⟩⟩
 have c3:=cB (D.out.2.2.2.1.chg0 (Chg.below' I));have c4:=cB r5;have a6:=cB (aJW r3 r4);have a3:=cB b9;clear r3 r4 r5 b9 I;refine cB ?_;go_wp2_with fail;go_loopw [10] (fun k wr=>∃i:Nat,i≤t.length∧k= .int .i64 i∧Hid (Chg NoS W3 wr)) (fun k _=>t.length-(intOf k).toNat)
 case atStart=>exact⟨0,aI _,rfl,Chg.refl _ _⟩
 case round=>
  obtain⟨i,hi,rfl,M⟩:=hrel;by_cases f:i<t.length
  ·have Z:=a3.out.trans M.out (fun _ _ z=>z);obtain⟨g,rfl,hg,K⟩:=(HT.out.chg0 Z) i f;obtain⟨e,he⟩:=aJ8 (t[i]);rw[he]at K;have c1:t.getD i zEv=e:=by rw[aQ,aP f,he];rfl
   have c0:wr.cell? ⟨g,i*19,none⟩=some (.int .i64 e.kind):=K 0 _ rfl;have f4:wr.cell? ⟨g,i*19+13,none⟩=some (.int .i64 e.olock):=K 13 _ rfl;have f1:(i:Int)<(t.length:Int):=by omega
   have f3:decide ((i:Int)<0)=false:=by simp
   have P:=cB (aEk w.out.2.2.2.1 f);have H:=cB c1;have c5:=cB Z;clear K hg he c1 Z;by_cases S:e.kind=2
   ·have b2:(e.kind !=2)=false:=by simp[S]
    by_cases kl:e.olock=lk
    ·have bl:(e.olock !=lk)=false:=by simp[kl]
     obtain⟨n,n1,n2,T⟩:=aDH P.out (by rw[H.out];exact S) (by rw[H.out];exact kl);have b0:=aCy wr (some ⟨g,0,none⟩) pl po ct cl co t L out i (HT.out.chg0 c5.out) (c3.out.chg0 M.out) (c4.out.chg0 M.out) ht D.out.2.2.2.2.2.2 a6.out.2 a6.out.1 ⟨HK.out.op,HK.out.src,HK.out.seq,fun q b=>by
      obtain⟨p,c,K,h2⟩:=HK.out.sl q b;exact⟨p,c,K,h2.chg0 M.out⟩⟩
     rw[D.out.2.1,n1]at b0;have d7:=cB b0;obtain⟨E,hE⟩:=aJ8 (jI t i (t.length-(i+1)) (i+1));have X:=aAN (a:=i) w.out.2.2.2.2.2 (t.length-(i+1)) (i+1);rw[hE]at n2 T X;have HE:=cB (aJY hE n2 T X);have s:=cB f;have e8:Hid (-1000≤(t.getD i zEv).node∧(t.getD i zEv).node≤1000000):=by
      show -1000≤(t.getD i zEv).node∧(t.getD i zEv).node≤1000000;rw[H.out];exact w.out.2.2.2.2.2 e (by rw[←H.out,aQ,aP f];exact bF f) (Or.inl S)
     clear S kl n1 n2 T b0 hE X f P;go_wp2_with (go_at_call 52;refine d7.out.mono ?_;rintro e W4 ⟨rfl,b⟩;have c7:=cB b;clear b;refine cE ?_);have b8:=c5.out.trans c7.out (fun _ _ z=>z);have b1:=aGZ W4 (some ⟨g,0,none⟩) ct t i (HT.out.chg0 b8) ht s.out e8.out;rw[HE.out.1]at b1;have e1:=cB b1;have d6:=cB (M.out.trans c7.out (fun _ _ z=>z));clear b8 b1;refine cB ?_;go_wp2_with (go_at_call 53;refine e1.out.mono ?_;rintro e o ⟨rfl,b⟩;have e3:=cB b;clear b;refine cE ?_);have a8:=aA o (.cells #[.int .i64 0,.int .i64 0,.int .i64 0,.int .i64 0,.int .i64 0,.int .i64 0,.int .i64 0,.int .i64 0,.int .i64 0,.int .i64 0,.int .i64 0,.int .i64 0,.int .i64 0,.int .i64 0,.int .i64 0,.int .i64 0,.int .i64 0,.int .i64 0,.int .i64 0] 70);have a5:Chg NoS o (o.alloc (.cells #[.int .i64 0,.int .i64 0,.int .i64 0,.int .i64 0,.int .i64 0,.int .i64 0,.int .i64 0,.int .i64 0,.int .i64 0,.int .i64 0,.int .i64 0,.int .i64 0,.int .i64 0,.int .i64 0,.int .i64 0,.int .i64 0,.int .i64 0,.int .i64 0,.int .i64 0] 70)):=(Chg.refl _ _).alloc _;generalize b5:o.alloc (.cells #[.int .i64 0,.int .i64 0,.int .i64 0,.int .i64 0,.int .i64 0,.int .i64 0,.int .i64 0,.int .i64 0,.int .i64 0,.int .i64 0,.int .i64 0,.int .i64 0,.int .i64 0,.int .i64 0,.int .i64 0,.int .i64 0,.int .i64 0,.int .i64 0,.int .i64 0] 70)=W6 at a8 a5;have e6:=cB b5;have d8:Hid (W6.heap[o.heap.size]?=some (.cells (evL zEv).toArray 70 (0,0))):=a8;have d9:=cB a5;clear b5 a8 a5;refine cB ?_
     go_wp2_with (first|rw[e6.out]|(refine cH rfl 70 _ _ rfl o.heap.size 0 70 _ _ (evL E) rfl rfl d8.out (by kernel_rfl) (by simp[Value.oneCell']) (by simp) rfl ?_;intro W7 b4 e9 b6;have d4:=cB b4;have a9:=cB b6;clear b4 e9 b6;refine cE ?_));have d0:=cB ((d6.out.trans e3.out (fun _ _ z=>z)).trans (d9.out.fresh d4.out (aE _)) (fun _ _ z=>z));have d1:Hid (∀j u,(evL E)[j]?=some u→W7.cell? ((⟨o.heap.size,0,none⟩:Addr).add j)=some u):=cF a9.out;have U:=aDf W7 E n;rw[HE.out.2.1]at U;have e0:=cB U;clear U;refine cB ?_;go_wp2_with (first|(refine cI rfl 70 _ rfl ⟨o.heap.size,0,none⟩ rfl (evL E) _ d1.out underlying70 rfl (by kernel_rfl) ?_)|(go_at_call 54;refine e0.out.mono ?_;rintro e W8 ⟨rfl,b⟩;have b7:=cB b;clear b;refine cE ?_));have a7:=cB ((b7.out.block _ (Array.getElem?_eq_some_iff.1 a9.out).1 (fun z=>z)).trans a9.out);have c9:Hid (∀j u,(evL E)[j]?=some u→W8.cell? ((⟨o.heap.size,0,none⟩:Addr).add j)=some u):=cF a7.out;obtain⟨d,hd⟩:=aJ8 (nK E);have a0:=tW W8 E;rw[hd]at a0;have e5:=cB a0;have HD:=cB hd;clear a0 hd;refine cB ?_;go_wp2_with (first|(refine cI rfl 70 _ rfl ⟨o.heap.size,0,none⟩ rfl (evL E) _ c9.out underlying70 rfl (by kernel_rfl) ?_)|(go_at_call 55;refine e5.out.mono ?_;rintro e W9 ⟨rfl,b⟩;have c2:=cB b;clear b;refine cE ?_));have F:=cB ((d0.out.trans b7.out (fun _ _ z=>z)).trans c2.out (fun _ _ z=>z));have a2:=cB ((c2.out.block _ (Array.getElem?_eq_some_iff.1 a7.out).1 (fun z=>z)).trans a7.out)
     have c8:Hid (∀j u,(evL E)[j]?=some u→W9.cell? ((⟨o.heap.size,0,none⟩:Addr).add j)=some u):=cF a2.out;refine cB ?_;cases d with
     |false=>
      go_wp2_with fail;go_roundw
      case rel=>exact⟨i+1,s.out,by go_num,F.out⟩
      case measure=>have:=s.out;simp[intOf]<;>omega
     |true=>
      have T:=HE.out.2.2.1.resolve_left (by rw[HD.out];decide);have V:=aG2 W9 pl po cl co L out E (c3.out.chg0 F.out) (c4.out.chg0 F.out) D.out.2.2.2.2.2.2 a6.out.2 HE.out.2.2.2.1 HE.out.2.2.2.2;rw[D.out.2.1,T.2.1]at V;have e4:=cB V;have e2:=cB T.2.2;clear V T;go_wp2_with (first|(refine cI rfl 70 _ rfl ⟨o.heap.size,0,none⟩ rfl (evL E) _ c8.out underlying70 rfl (by kernel_rfl) ?_)|(go_at_call 56;refine e4.out.mono ?_;rintro e c6 ⟨rfl,b⟩;have Q:=cB b;clear b;refine cE ?_));have R:=cB (F.out.trans Q.out (fun _ _ z=>z));have d2:=cB ((Q.out.block _ (Array.getElem?_eq_some_iff.1 a2.out).1 (fun z=>z)).trans a2.out);have b3:Hid (∀j u,(evL E)[j]?=some u→c6.cell? ((⟨o.heap.size,0,none⟩:Addr).add j)=some u):=cF d2.out;have Y:=aC4 c6 (some ⟨g,0,none⟩) ct t i E lk (HT.out.chg0 (a3.out.trans R.out (fun _ _ z=>z))) ht (bR s.out);rw[e2.out]at Y;have f0:=cB Y;clear Y;refine cB ?_;go_wp2_with (first|(refine cI rfl 70 _ rfl ⟨o.heap.size,0,none⟩ rfl (evL E) _ b3.out underlying70 rfl (by kernel_rfl) ?_)|(go_at_call 57;refine f0.out.mono ?_;rintro e f2 ⟨rfl,b⟩;have d3:=cB b;clear b;refine cE ?_));refine cB ?_;go_wp2_with fail;go_roundw
      case rel=>exact⟨i+1,s.out,by go_num,R.out.trans d3.out (fun _ _ z=>z)⟩
      case measure=>have:=s.out;simp[intOf]<;>omega
    ·have bl:(e.olock !=lk)=true:=by simp[kl]
     clear S kl;go_wp2_with fail;go_roundw
     case rel=>exact⟨i+1,by omega,by go_num,M.out⟩
     case measure=>simp[intOf]<;>omega
   ·have b2:(e.kind !=2)=true:=by simp[S]
    clear S;go_wp2_with fail;go_roundw
    case rel=>exact⟨i+1,by omega,by go_num,M.out⟩
    case measure=>simp[intOf]<;>omega
  ·have f1:¬(i:Int)<(t.length:Int):=by omega
   go_wp2_with fail;go_ret;exact⟨rfl,a3.out.trans M.out (fun _ _ z=>z)⟩
theorem aJj{a b:Mg}(h:mgB a b=true):a=b:=by
 obtain⟨D,E,F,u,x,v,⟨C,q,n,z⟩⟩:=a;obtain⟨t,o,A,s,B,p,⟨r,y,G,w⟩⟩:=b;simp only[mgB,aR,beq_iff_eq]at h;obtain⟨⟨⟨⟨⟨⟨⟨⟨⟨d,f⟩,c⟩,k⟩,e⟩,i⟩,l⟩,g⟩,j⟩,m⟩:=h;subst d f c k e i l g j m
 rfl
theorem aHJ:(prog.info? 154).map (fun i=>(i.zero,i.size,i.bytes))=some (some (.agg #[.int .i64 0,.int .i64 0,.int .i64 0,.int .i64 0,.int .i64 0,.int .i64 0,.int .i64 0,.int .i64 0,.int .i64 0,.int .i64 0,.int .i64 0,.int .i64 0,.slice none 0 0]),13,120):=by kernel_rfl
theorem aC5(W:World)(pt:Option Addr)(ct:Nat)(t:List Ev)(lk:Int)(lN:List Bt)(hT:LsAt evL 19 W pt t)(ht:t.length≤1000000000000)(hsrc:∀e ∈ t,e.kind=1→0≤e.msg.src∧e.msg.src≤1000000)(hN:iA t lk t.length=some lN):xP W pt ct t lk lN:=by
 unfold xP;have HT:=cB hT;have HS:=cB (aJW hsrc hN);obtain⟨i2,ki,h8,g9,i4⟩:=info_parts aA1;have b5:=cB (aJY ki h8 g9 i4);obtain⟨i3,bi,g1,g7,g3⟩:=info_parts aHJ;have b9:=cB (aJY bi g1 g7 g3);clear hT hsrc hN ki h8 g9 i4 bi g1 g7 g3;go_enter func50,ntmps50;go_wp2_with fail;go_loopw [6,7] (fun o k wr=>∃(i:Nat) (L:List (Bt×Value)),i≤t.length∧k= .int .i64 i∧Hid (BalAt W.heap.size wr o L)∧Hid (Chg NoS W wr∧iA t lk i=some (L.map Prod.fst)∧L.length≤i∧∀q ∈ L,q.1.acc.length≤i)) (fun _ k _=>t.length-(intOf k).toNat)
 case atStart=>exact⟨0,[],aI _,rfl,BalAt.nil _ _,Chg.refl _ _,rfl,aE _,(fun q a=>by cases a)⟩
 case round=>
  obtain⟨i,L,hi,rfl,HB,D⟩:=hrel;have f2:=cB hi;obtain⟨po,co,rfl,b7,h4⟩:=LsAt.of_owns (f:=btF) (sz:=13) (fun _=>rfl) HB.out.own rfl;by_cases a0:i<t.length
  ·obtain⟨g,rfl,hg,h1⟩:=(HT.out.chg0 D.out.1) i a0;obtain⟨e,he⟩:=aJ8 (t[i]);rw[he]at h1;have h6:t.getD i zEv=e:=by rw[aQ,aP a0,he];rfl
   obtain⟨l',g4,h7⟩:=sL D.out.2.1 HS.out.2 a0 h6;have h9:e.kind=1→0≤e.msg.src∧e.msg.src≤1000000:=fun hk=>HS.out.1 e (he▸bF a0) hk;have G:=cB (aJX g4 h7 h9);have k7:(i:Int)<(t.length:Int):=by omega
   have l6:decide ((i:Int)<0)=false:=by simp
   have c0:wr.cell? ⟨g,i*19,none⟩=some (.int .i64 e.kind):=h1 0 _ rfl;have h0:Hid (∀j u,(mgL e.msg)[j]?=some u→wr.cell? ((⟨g,i*19+2,none⟩:Addr).add j)=some u):=oY fun j u hj=>by
    have:=aBg e j u hj;rw[show i*19+2+j=i*19+(2+j) by omega];exact h1 (2+j) u (by rw[←this];simp)
   have f3:=aA wr (.cells #[.int .i64 0,.int .i64 0,.int .i64 0,.int .i64 0,.int .i64 0,.int .i64 0,.int .i64 0,.int .i64 0,.int .i64 0,.int .i64 0] 66);have f0:Chg NoS wr (wr.alloc (.cells #[.int .i64 0,.int .i64 0,.int .i64 0,.int .i64 0,.int .i64 0,.int .i64 0,.int .i64 0,.int .i64 0,.int .i64 0,.int .i64 0] 66)):=(Chg.refl _ _).alloc _;generalize g8:wr.alloc (.cells #[.int .i64 0,.int .i64 0,.int .i64 0,.int .i64 0,.int .i64 0,.int .i64 0,.int .i64 0,.int .i64 0,.int .i64 0,.int .i64 0] 66)=W2 at f3 f0;have k2:=cB g8;have j5:Hid (W2.heap[wr.heap.size]?=some (.cells (mgL zMg).toArray 66 (0,0))):=f3;have f1:=cB (aJX f0 c0 hg);have a5:=cB b7;have n:=cB a0;obtain⟨m,hm⟩:=aJ8 (e.msg);obtain⟨ek,f4⟩:=aJ8 (e.kind);have d:=cB (aJW hm f4);rw[hm]at h0;rw[f4]at c0;clear h1 he h6 g4 h7 h9 f3 f0 g8 b7 h4 hg a0 hm f4;go_wp2_with (first|rw[k2.out]|(refine cH rfl 66 _ _ rfl wr.heap.size 0 66 _ _ (mgL m) rfl rfl j5.out (by kernel_rfl) (by simp[Value.oneCell']) (by simp) rfl ?_;intro A h3 i7 i0;have j4:=cB h3;have E:=cB i0;clear h3 i7 i0;refine cE ?_)|(refine cI rfl 66 _ rfl ⟨g,i*19+2,none⟩ rfl (mgL m) _ h0.out underlying66 rfl (by kernel_rfl) ?_));have I:=cB (f1.out.1.fresh j4.out (aE _));have c0:A.cell? ⟨g,i*19,none⟩=some (.int .i64 ek):=(aW (I.out.block g f1.out.2.2 (fun z=>z))).trans (by rw[←d.out.2];exact f1.out.2.1);have m0:A.cell? ⟨wr.heap.size,0,none⟩=some (.int .i64 m.kind):=cC E.out 0 _ rfl;have m1:A.cell? ⟨wr.heap.size,1,none⟩=some (.int .i64 m.src):=cC E.out 1 _ rfl
   have m3:A.cell? ⟨wr.heap.size,3,none⟩=some (.int .i64 m.lock):=cC E.out 3 _ rfl;have m4:A.cell? ⟨wr.heap.size,4,none⟩=some (.int .i64 m.bal):=cC E.out 4 _ rfl;have B:=cB (D.out.1.trans I.out (fun _ _ z=>z));have H:=cB (HB.out.chg0 I.out);refine cB ?_;by_cases k1:ek=1
   ·have b1:(ek !=1)=false:=by simp[k1]
    by_cases kl:m.lock=lk
    ·have bl:(m.lock !=lk)=false:=by simp[kl]
     have i1:¬(e.kind≠1∨e.msg.lock≠lk):=by rw[d.out.1,d.out.2];exact fun z=>z.elim (fun z=>z k1) (fun z=>z kl)
     have e7:=G.out.2.2 (by rw[d.out.2];exact k1);rw[d.out.1]at e7;have d7:=a5.out.chg0 I.out;have k0:L.length≤1000000000000:=by have:=D.out.2.2.1;have:=f2.out;omega
     have r:=zL A po co L m.bal d7 k0;obtain⟨l,b2⟩:=aJ8 (L.map Prod.fst);rw[b2]at r;have M:=cB b2;have e6:=G.out.2.1;rw[b2]at e6;have P:=cB (aJX i1 e6 e7);clear i1 e7 d7 e6 b2 k1 kl;by_cases k3:m.kind=3
     ·have b3:(m.kind==3)=true:=by simp[k3]
      have n4:(m.kind==4)=false:=by simp[k3]
      cases Z:gF l m.bal with
      |none=>
       obtain⟨op,d1,d2,d3,d4,d5⟩:=aA7 P.out.2.1 P.out.1 (by rw[d.out.1];exact k3) (by rw[d.out.1];exact Z);rw[d.out.1]at d1 d3 d4 d5;obtain⟨d6,_⟩:=kY (bR n.out) d1;have N:pG l m.bal= -1:=by unfold pG;rw[Z]
       rw[N]at r;have Q:=cB r;have e1:=aFG A (some ⟨g,0,none⟩) ct t i m.src (HT.out.chg0 B.out) ht (bR n.out) P.out.2.2.1 P.out.2.2.2;rw[show qS t i m.src=(op:Int) by unfold qS;rw[d1]]at e1;have j6:=cB e1;have a8:op<t.length:=by have:=n.out;omega
       obtain⟨g2,e2,_,h2⟩:=(HT.out.chg0 B.out) op a8;cases e2;have l7:A.cell? ⟨g,op*19+13,none⟩=some (.int .i64 lk):=h2 13 _ (by
        rw[←d2];unfold uB;rw[aQ,aP a8];rfl)
       have l3:decide ((op:Int)<0)=false:=by simp
       have l4:(op:Int)<(t.length:Int):=by omega
       have l1:decide (m.bal<256)=false:=by simp;omega
       have l5:(m.bal.tmod 4 !=m.src)=false:=by rw[Int.tmod_eq_emod_of_nonneg (by omega),d4];simp
       have V:=cB d5;clear r Z N e1 d1 d2 d3 d4 d5 d6 h2 a8 k3;have z2:=cV E.out 2;have m2:A.cell? ⟨wr.heap.size,2,none⟩=some (.int .i64 m.dst):=cC E.out 2 _ rfl;have U:=cZ A wr.heap.size 2 (.int .i64 0);have O:(A.setCell ⟨wr.heap.size,2,none⟩ (.int .i64 0)).heap[wr.heap.size]?=some (.cells (mgL {m with dst:=0}).toArray 66 (0,0)):=cU E.out 2 (.int .i64 0);generalize a4:A.setCell ⟨wr.heap.size,2,none⟩ (.int .i64 0)=W4 at U O;have f7:=cB a4;have T:=cB (I.out.fresh U (aE _));have R:=cB (HB.out.chg0 T.out);have i5:Hid (∀j u,(mgL {m with dst:=0})[j]?=some u→W4.cell? ((⟨wr.heap.size,0,none⟩:Addr).add j)=some u):=cF O;clear U O a4;go_wp2_with (first|rw[f7.out]|(go_at_call 91;refine Q.out.mono ?_;rintro e9 W9 ⟨rfl,a⟩;rw[a];clear a)|(go_at_call 92;refine j6.out.mono ?_;rintro e9 W9 ⟨rfl,a⟩;rw[a];clear a)|(refine cI rfl 66 _ rfl ⟨wr.heap.size,0,none⟩ rfl (mgL {m with dst:=0}) _ i5.out underlying66 rfl (by kernel_rfl) ?_)|(at_builtin;refine wpList_append_own_at _ rfl _ _ 102 rfl W.heap.size 154 i3 _ 13 120 underlying102 b9.out.1 b9.out.2.1 b9.out.2.2.1 b9.out.2.2.2 rfl (by decide) _ _ _ rfl (R.out.own.alloc _) ⟨W4.heap.size,0,none⟩ 1 1 (btF (⟨{m with dst:=0},i,op,[]⟩,.slice none 0 0)) rfl rfl ?qa ?qb ?qc ?qd ?qe ?_))
       case qa=>exact oS _ _ _
       case qb=>intro u hu;simp at hu;rcases hu with rfl|rfl|rfl|rfl|rfl|rfl|rfl|rfl|rfl|rfl|rfl|rfl|rfl<;>rfl
       case qc=>unfold maxLen;omega
       case qd=>omega
       case qe=>have:=D.out.1.size;have:=T.out.size;simp;omega
       intro v5 w5 b0 g0 _ e0;have HP:=cB (R.out.push (b:=⟨{m with dst:=0},i,op,[]⟩) rfl ((Chg.refl NoS W4).alloc _) g0 b0 (e0.imp id (fun h=>h.trans (by simp))));have j8:=cB (((D.out.1.trans T.out (fun _ _ z=>z)).alloc _).grown g0 (fun k hk w=>absurd (R.out.own.lt k hk).1 (Nat.not_le.2 w)));clear b0 g0 e0 z2 m2;go_wp2_with fail;go_roundw
       case rel=>exact⟨i+1,_,n.out,by go_num,HP.out,j8.out,(by rw[bO,M.out];exact G.out.1.trans (congrArg some V.out)),by rw[aD];have:=D.out.2.2.1;simp;omega,(fun q a=>by
        rcases aO.1 a with a|a
        ·exact Nat.le_succ_of_le (D.out.2.2.2 q a)
        ·rw[List.mem_singleton.1 a];exact aI _)⟩
       case measure=>have:=n.out;simp[intOf]<;>omega
      |some k=>
       obtain⟨q1,q2⟩:=wT P.out.2.1 P.out.1 (by rw[d.out.1];exact k3) (by rw[d.out.1];exact Z);rw[d.out.1]at q1;have w:k<L.length:=by have:=wD Z;rw[←M.out,bL]at this;exact this
       have N:pG l m.bal=(k:Int):=by unfold pG;rw[Z]
       rw[N]at r;have Q:=cB r;have f8:L[k].1.m={m with dst:=0}:=by
        have h5:=mN w;rw[M.out]at h5;unfold dG at h5;rw[h5]at q1;exact(aJj q1).symm
       have V:=cB q2;have z2:=cV E.out 2;have m2:A.cell? ⟨wr.heap.size,2,none⟩=some (.int .i64 m.dst):=cC E.out 2 _ rfl;have U:=cZ A wr.heap.size 2 (.int .i64 0);have O:(A.setCell ⟨wr.heap.size,2,none⟩ (.int .i64 0)).heap[wr.heap.size]?=some (.cells (mgL {m with dst:=0}).toArray 66 (0,0)):=cU E.out 2 (.int .i64 0);generalize a4:A.setCell ⟨wr.heap.size,2,none⟩ (.int .i64 0)=W4 at U O;have f7:=cB a4;have T:=cB (I.out.fresh U (aE _));have R:=cB (HB.out.chg0 T.out);obtain⟨gl,e2,_,h2⟩:=(a5.out.chg0 T.out) k w;subst e2;obtain⟨mm,a7⟩:∃x:Mg,{m with dst:=0}=x:=⟨_,rfl⟩;rw[a7]at O f8;have j7:=cB (show∀j u,(mgL mm)[j]?=some u→W4.drew.cell? ((⟨wr.heap.size,0,none⟩:Addr).add j)=some u from cF (W:=W4.drew) O);have j1:=cB (show∀j u,(mgL mm)[j]?=some u→W4.drew.cell? ((⟨gl,k*13,none⟩:Addr).add j)=some u from oY fun j u hj=>h2 j u (by
        rw[←f8]at hj;have k9:j<10:=(aF.1 hj).1;rcases j with _|_|_|_|_|_|_|_|_|_|j<;>first|exact hj|omega))
       have l2:W4.drew.cell? ⟨wr.heap.size,0,none⟩=some (.int .i64 3):=cC (W:=W4.drew) O 0 _ (by rw[←a7,←k3];rfl);have j2:(k:Int)<(L.length:Int):=by omega
       have j3:decide ((k:Int)<0)=false:=by simp
       clear U O a4 r Z N q1 q2 w f8 a7 h2 k3;obtain⟨b6,c7,b8,c8,c2,c1,⟨c4,c9,c3,d0⟩⟩:=mm;go_wp2_with (first|rw[f7.out]|(go_at_call 91;refine Q.out.mono ?_;rintro e9 W9 ⟨rfl,a⟩;rw[a];clear a));refine dJ [1,0,0,0,0,1,0] (by kernel_rfl) (fun _ _ _ _=>rfl) ?_;simp only[cL,cK];refine cM (v:=mgV ⟨b6,c7,b8,c8,c2,c1,⟨c4,c9,c3,d0⟩⟩) rfl (fun zz hx=>cG 66 _ rfl ⟨wr.heap.size,0,none⟩ rfl (mgL ⟨b6,c7,b8,c8,c2,c1,⟨c4,c9,c3,d0⟩⟩) _ (by subst hx;exact j7.out) underlying66 rfl (by kernel_rfl)) ?_;(try simp only[pA]);iterate 4 (apply sB rfl rfl;·(intro x h;(try cases h rfl);go_simp;with_reducible rfl))
       try simp only[pA]
       refine cM (v:=mgV ⟨b6,c7,b8,c8,c2,c1,⟨c4,c9,c3,d0⟩⟩) rfl (fun zz hx=>cG 66 _ rfl ⟨gl,k*13,none⟩ rfl (mgL ⟨b6,c7,b8,c8,c2,c1,⟨c4,c9,c3,d0⟩⟩) _ (by subst hx;exact j1.out) underlying66 rfl (by kernel_rfl)) ?_;(try simp only[pA]);iterate 1 (apply sB rfl rfl;·(intro x h;(try cases h rfl);go_simp;with_reducible rfl))
       refine cD ?_;try simp only[pA]
       go_wp2_with fail;go_roundw
       case rel=>exact⟨i+1,L,n.out,by go_num,R.out.chg0 ((Chg.refl _ _).drew),(D.out.1.trans T.out (fun _ _ z=>z)).drew,(by rw[M.out];exact G.out.1.trans (congrArg some V.out)),by have:=D.out.2.2.1;omega,fun q a=>Nat.le_succ_of_le (D.out.2.2.2 q a)⟩
       case measure=>have:=n.out;simp[intOf]<;>omega
     ·have b3:(m.kind==3)=false:=by simp[k3]
      by_cases k4:m.kind=4
      ·have b4:(m.kind==4)=true:=by simp[k4]
       obtain⟨k,Z,q2⟩:=aA5 P.out.2.1 P.out.1 (by rw[d.out.1];exact k4);rw[d.out.1]at Z q2;have w:k<L.length:=by have:=wD Z;rw[←M.out,bL]at this;exact this
       have N:pG l m.bal=(k:Int):=by unfold pG;rw[Z]
       rw[N]at r;have Q:=cB r;have e5:l.getD k zBt=L[k].1:=by
        have h5:=mN w;rw[M.out]at h5;exact h5
       rw[e5]at q2;obtain⟨gl,e2,_,h2⟩:=(a5.out.chg0 I.out) k w;subst e2;have S:L[k] ∈ L:=bF w;have K:=H.out.acc _ S;obtain⟨pa,ca,a1,c5,_⟩:=LsAt.of_owns (f:=sA) (sz:=1) (fun _=>rfl) K rfl;have i6:L[k].1.acc.length≤i:=D.out.2.2.2 _ S;have a6:=h2 12 L[k].2 rfl;obtain⟨al,a3⟩:=aJ8 (L[k].1.acc);rw[a3]at a1 c5 i6 q2;rw[a1]at a6;have X:=cB (aJZ w a3 a1 K S);have J:=aBw A.drew pa ca al m.src (c5.chg0 ((Chg.refl _ _).drew)) (by have:=f2.out;omega);have k6:A.drew.cell? ⟨gl,k*13+12,none⟩=some (.slice pa al.length ca):=a6;have j0:A.drew.cell? ⟨wr.heap.size,1,none⟩=some (.int .i64 m.src):=m1;have j2:(k:Int)<(L.length:Int):=by omega
       have j3:decide ((k:Int)<0)=false:=by simp
       cases hcn:al.contains m.src with
       |true=>
        rw[hcn]at J;rw[if_pos hcn]at q2;have V:=cB q2;have a9:=cB J;clear r Z N q2 e5 h2 S K a1 c5 a6 a3 J hcn k3 k4;go_wp2_with (go_at_call 91;refine Q.out.mono ?_;rintro e9 W9 ⟨rfl,a⟩;rw[a];clear a);refine dJ [0,0,0,0,1,0,1,1,0] (by kernel_rfl) (fun _ _ _ _=>rfl) ?_;simp only[cL,cK];iterate 7 (apply sB rfl rfl;·(intro x h;(try cases h rfl);go_simp;with_reducible rfl))
        try simp only[pA]
        refine dB (v:=.bool true) (f:=93) (args:=#[.slice pa al.length ca,.int .i64 m.src]) rfl (fun x hx=>by subst hx;go_simp;try rfl) (fun x hx=>by subst hx;exact a9.out) ?_;(try simp only[pA]);iterate 1 (apply sB rfl rfl;·(intro x h;(try cases h rfl);go_simp;with_reducible rfl))
        refine cD ?_;try simp only[pA]
        go_wp2_with fail;go_roundw
        case rel=>exact⟨i+1,L,n.out,by go_num,H.out.chg0 ((Chg.refl _ _).drew),B.out.drew,(by rw[M.out];exact G.out.1.trans (congrArg some V.out)),by have:=D.out.2.2.1;omega,fun q a=>Nat.le_succ_of_le (D.out.2.2.2 q a)⟩
        case measure=>have:=n.out;simp[intOf]<;>omega
       |false=>
        rw[hcn]at J;rw[if_neg (by rw[hcn];decide)]at q2;have V:=cB q2;have a9:=cB J;have e8:A.drew.drew.cell? ⟨gl,k*13+12,none⟩=some (.slice pa al.length ca):=a6;have e3:A.drew.drew.cell? ⟨wr.heap.size,1,none⟩=some (.int .i64 m.src):=m1;rw[a1,a3]at K;have d9:=cB K;clear r Z N q2 e5 h2 S K a1 c5 a6 a3 J hcn k3 k4;go_wp2_with (go_at_call 91;refine Q.out.mono ?_;rintro e9 W9 ⟨rfl,a⟩;rw[a];clear a);refine dJ [0,0,0,0,1,0,1,1,0] (by kernel_rfl) (fun _ _ _ _=>rfl) ?_;simp only[cL,cK];iterate 7 (apply sB rfl rfl;·(intro x h;(try cases h rfl);go_simp;with_reducible rfl))
        try simp only[pA]
        refine dB (v:=.bool false) (f:=93) (args:=#[.slice pa al.length ca,.int .i64 m.src]) rfl (fun x hx=>by subst hx;go_simp;try rfl) (fun x hx=>by subst hx;exact a9.out) ?_;(try simp only[pA]);iterate 1 (apply sB rfl rfl;·(intro x h;(try cases h rfl);go_simp;with_reducible rfl))
        refine cD ?_;try simp only[pA]
        go_wp2_with fail;refine rlx [0,0,0,0,0,0,1,0,1,2] (fun y=>y.cell? ⟨gl,k*13+12,none⟩=some (.slice pa al.length ca)∧y.cell? ⟨wr.heap.size,1,none⟩=some (.int .i64 m.src)) (by kernel_rfl) (fun _ _ _ _=>rfl) ⟨e8,e3⟩ ?_;simp only[cL,cK];iterate 9 (apply sB rfl rfl;·(intro x h;(try have h:=h rfl);(try dsimp only at h);go_simp;with_reducible rfl))
        try simp only[pA]
        refine dC rfl (fun C hC=>?_);go_simp;refine hC _ _ ⟨(bI _ _ _ (by have:=X.out.2.2.2.1;have:=(H.out.own.lt gl rfl).2;simp;omega)).trans e8,(bI _ _ _ (by have:=cW E.out;simp;omega)).trans e3⟩ ?_;clear hC C;(try simp only[pA]);refine cD ?_;refine wpList_append_own_at _ rfl _ _ 25 rfl W.heap.size 3 i2 _ 1 8 underlying25 b5.out.1 b5.out.2.1 b5.out.2.2.1 b5.out.2.2.2 rfl (by decide) (.slice pa al.length ca) al.length _ rfl (d9.out.alloc _).drew.drew ⟨A.heap.size,0,none⟩ 1 1 [.int .i64 m.src] rfl rfl (cF (cs:=[.int .i64 m.src]) (show((A.alloc (.cells #[.int .i64 m.src] 3)).drew.drew).heap[A.heap.size]?=_ from aA A _)) (by intro u hu;simp at hu;rw[hu];rfl) (by unfold maxLen;have:=f2.out;omega) (by omega) (by have:=B.out.size;simp;omega) ?_;intro v6 W6 Y F _ d8;rcases jW Y with⟨_,hz⟩|⟨g6,c6,l0,i9,_,_⟩
        ·exact absurd hz (by omega)
        subst i9;have a2:=H.out.put (v2:=.slice (some ⟨g6,0,none⟩) (al.length+1) c6) (W2:=W6) (s:=m.src) w (((Chg.refl NoS A).drew.drew).alloc (.cells #[.int .i64 m.src] 3)) (by rw[X.out.2.2.1];exact⟨F.os,F.tape,F.output,F.size,F.block⟩) (by rw[X.out.2.1];exact Y) (by rw[X.out.2.2.1];exact d8.imp id (fun h=>h.trans (by simp))) gl co rfl;rw[X.out.2.2.1]at a2;have q6:=a2.1;have r6:=a2.2.1;have e4:=cZ W6 gl (k*13+12) (.slice (some ⟨g6,0,none⟩) (al.length+1) c6);obtain⟨W7,f5⟩:=aJ8 (W6.setCell ⟨gl,k*13+12,none⟩ (.slice (some ⟨g6,0,none⟩) (al.length+1) c6));have f9:=a2.2.2.2;rw[f5]at e4 f9;have j9:=cB f5;have HP:=cB f9;have i8:=cB (((((B.out.drew.drew).alloc (.cells #[.int .i64 m.src] 3)).grown (C:=W6) ⟨F.os,F.tape,F.output,F.size,F.block⟩ (fun x hx w=>absurd (d9.out.lt x hx).1 (Nat.not_le.2 w))).fresh e4 a2.2.2.1));clear Y F d8 a2 f9 e4 f5 k6 e8 j0 e3;try simp only[pA]
        go_wp2_with (first|rw[j9.out]);go_roundw
        case rel=>exact⟨i+1,_,n.out,by go_num,HP.out,i8.out,(by
         rw[List.map_set,M.out];dsimp only;rw[X.out.2.1];exact G.out.1.trans (congrArg some V.out)),by rw[bP];have:=D.out.2.2.1;omega,(fun q a=>by
         rcases List.mem_or_eq_of_mem_set a with a|a
         ·exact Nat.le_succ_of_le (D.out.2.2.2 q a)
         ·rw[a];dsimp only;rw[aD];have:=D.out.2.2.2 _ X.out.2.2.2.2;simp only[bH,List.length_nil];omega)⟩
        case measure=>have:=n.out;simp[intOf]<;>omega
      ·have b4:(m.kind==4)=false:=by simp[k4]
       have k8:=cB (wY P.out.2.1 (by rw[d.out.1];exact k3) (by rw[d.out.1];exact k4));have Q:=cB r;clear r k3 k4;go_wp2_with (go_at_call 91;refine Q.out.mono ?_;rintro e9 W9 ⟨rfl,a⟩;rw[a];clear a);go_roundw
       case rel=>exact⟨i+1,L,n.out,by go_num,H.out,B.out,(by rw[M.out,←k8.out];exact G.out.1),by have:=D.out.2.2.1;omega,fun q a=>Nat.le_succ_of_le (D.out.2.2.2 q a)⟩
       case measure=>have:=n.out;simp[intOf]<;>omega
    ·have bl:(m.lock !=lk)=true:=by simp[kl]
     have f6:=cB (tI G.out.2.1 (Or.inr (by rw[d.out.1];exact kl)));clear k1 kl;go_wp2_with fail;go_roundw
     case rel=>exact⟨i+1,L,n.out,by go_num,H.out,B.out,by rw[←f6.out];exact G.out.1,by have:=D.out.2.2.1;omega,fun q a=>Nat.le_succ_of_le (D.out.2.2.2 q a)⟩
     case measure=>simp[intOf]<;>omega
   ·have b1:(ek !=1)=true:=by simp[k1]
    have f6:=cB (tI G.out.2.1 (Or.inl (by rw[d.out.2];exact k1)));clear k1;go_wp2_with fail;go_roundw
    case rel=>exact⟨i+1,L,n.out,by go_num,H.out,B.out,by rw[←f6.out];exact G.out.1,by have:=D.out.2.2.1;omega,fun q a=>Nat.le_succ_of_le (D.out.2.2.2 q a)⟩
    case measure=>simp[intOf]<;>omega
  ·have k7:¬(i:Int)<(t.length:Int):=by omega
   have g5:i=t.length:=by omega
   have k5:=cB (show L.map Prod.fst=lN from aN (by rw[←D.out.2.1,g5];exact HS.out.2));have a5:=cB b7;clear g5 b7 h4;go_wp2_with fail
   go_ret2
   exact⟨D.out.1,L,k5.out,(fun b v a=>by
    obtain⟨p,c,h1,h2,_⟩:=LsAt.of_owns (f:=sA) (sz:=1) (fun _=>rfl) (HB.out.acc (b,v) a) rfl;exact⟨p,⟨c,h1⟩,h2⟩),po,⟨co,rfl⟩,a5.out⟩
end Go.Proofs.YtbbdgokdfhdpiaaGreatDoor
