/- A part of the proof: OneR, OneN. -/
import Derived.Test.YtbbdgokdfhdpiaaGreatDoorD25
import Derived.Test.YtbbdgokdfhdpiaaGreatDoorD29
namespace Go.Proofs.YtbbdgokdfhdpiaaGreatDoor
set_option linter.all false
set_option maxRecDepth 100000
set_option maxHeartbeats 40000000
open Go.Proofs.Tryz Go.RowKit
theorem aA1:(prog.info? 3).map (fun i=>(i.zero,i.size,i.bytes))=some (some (.int .i64 0),1,8):=by kernel_rfl
def qN(l:List Bt)(f:Int)(n:Nat):Int:=match oB l f n with
 |some k=>k
 |none=> -1
theorem xV{l:List Bt}{f:Int}:∀{n k},oB l f n=some k→k<n
 |0,k,h=>by cases h
 |n+1,k,h=>by
  unfold oB at h;split at h
  ·exact Nat.lt_succ_of_lt (xV h)
  ·cases ht:oB l f n with
   |none=>rw[ht]at h;cases h;exact Nat.lt_succ_self _
   |some t=>
    rw[ht]at h;dsimp only at h;split at h
    ·cases h;exact Nat.lt_succ_self _
    ·cases h;exact Nat.lt_succ_of_lt (xV ht)
section
variable {l:List Bt} {f:Int}
theorem aHN{n:Nat}(h:(dG l n).acc.length≤f):oB l f (n+1)=oB l f n:=by
 conv=>lhs;unfold oB
 rw[if_pos h]
theorem aDt{n:Nat}(h:¬(dG l n).acc.length≤f)(ht:oB l f n=none):oB l f (n+1)=some n:=by
 conv=>lhs;unfold oB
 rw[if_neg h,ht]
theorem aFU{n t:Nat}(h:¬(dG l n).acc.length≤f)(ht:oB l f n=some t):oB l f (n+1)=if(dG l t).m.bal<(dG l n).m.bal then some n else some t:=by
 conv=>lhs;unfold oB
 rw[if_neg h,ht]
end
theorem mN{L:List (Bt×Value)}{k:Nat}(h:k<L.length):dG (L.map Prod.fst) k=L[k].1:=by
 unfold dG;rw[aQ,List.getElem?_map,aP h];rfl
section
variable {l:List Bt} {q k:Nat} {out:List Nat}
theorem aCB(h:(dG l k).m.bal≤(dG l k).m.base∨((dG l k).m.base≠0∧gF l (dG l k).m.base=none)):uA l (q+1) k out=none:=by
 conv=>lhs;unfold uA
 rw[if_pos h]
theorem aGy(h:¬(dG l k).m.bal≤(dG l k).m.base)(h0:(dG l k).m.base=0):uA l (q+1) k out=some (out++[k]):=by
 conv=>lhs;unfold uA
 rw[if_neg (fun z=>z.elim h (fun z=>z.1 h0))];cases gF l (dG l k).m.base with
 |none=>rfl
 |some n=>dsimp only;rw[if_pos h0]
end
theorem aIg{l:List Bt}{q k n:Nat}{out:List Nat}(h:¬(dG l k).m.bal≤(dG l k).m.base)(h0:(dG l k).m.base≠0)(hn:gF l (dG l k).m.base=some n):uA l (q+1) k out=uA l q n (out++[k]):=by
 conv=>lhs;unfold uA
 rw[if_neg (fun z=>z.elim h (fun z=>by rw[hn]at z;cases z.2)),hn];dsimp only;rw[if_neg h0]
theorem aFg{l:List Bt}{out:List Nat}{f:Int}{n na:Nat}(h:(dG l n).acc.length=na)(hm:uK l out f n=true):uK l out f (n+1)=(!decide (f<(na:Int))||out.contains n):=by
 conv=>lhs;unfold uK
 rw[hm,h,Bool.true_and]
 congr 1
 by_cases q:(na:Int)≤f
 ·rw[decide_eq_true q,decide_eq_false (by omega)];rfl
 ·rw[decide_eq_false q,decide_eq_true (by omega)];rfl
theorem aEC{l:List Bt}{out:List Nat}{f:Int}{i:Nat}:∀{n},i≤n→uK l out f i=false→uK l out f n=false
 |0,h,k=>by rw[Nat.le_zero.1 h]at k;exact k
 |n+1,h,k=>by
  by_cases q:i=n+1
  ·rw[←q];exact k
  ·unfold uK;rw[aEC (by omega) k,Bool.false_and]
theorem aFS{l:List Bt}{n:Int}{k:Nat}(h:gF l n=some k):k<l.length∧(dG l k).m.bal=n:=by
 obtain⟨x,a,b⟩:=nU h;obtain⟨c,d⟩:=aF.1 a;exact⟨c,by unfold dG;rw[aQ,a];exact b⟩
def aHB(l:List Bt)(G:Option (List Nat))(pre:List Nat)(k:Int):Prop:=
 (k= -1∧G=some pre∧pre.length≤1000000000000)∨∃kk q:Nat,k=kk∧kk<l.length∧G=uA l q kk pre∧(dG l kk).m.bal.toNat<q∧pre.length+(dG l kk).m.bal.toNat≤999999999999
def aD8(l:List Bt)(k:Int):Nat:=if k<0 then 0 else(dG l k.toNat).m.bal.toNat+1
theorem aG9(W:World)(pl:Option Addr)(cl:Nat)(L:List (Bt×Value))(fc:Int)(hL:LsAt btF 13 W pl L)(hl:L.length≤1000000000000)(hsl:∀q ∈ L,∃p c,q.2= .slice p q.1.acc.length c)(hb0:∀q ∈ L,0≤q.1.m.bal∧q.1.m.bal≤999999999999):
 Calls prog 51 #[.slice pl L.length cl,.int .i64 fc] W fun r W'=>Below W.heap.size W W'∧
  ((∃out,aBt (L.map Prod.fst) fc=some out∧uK (L.map Prod.fst) out fc L.length=true∧(∀k ∈ out,k<L.length)∧out.length≤1000000000000∧∃po co,r= .returned (.tuple #[.slice po out.length co,.bool true])∧LsAt sA 1 W' po (tP out))∨
   ((aBt (L.map Prod.fst) fc=none∨∃out,aBt (L.map Prod.fst) fc=some out∧uK (L.map Prod.fst) out fc L.length=false)∧r= .returned (.tuple #[.slice none 0 0,.bool false]))):=by
 have HL:=cB hL;have f0:=cB hl;have c9:=cB hsl;have a8:=cB hb0;obtain⟨i2,ki,c6,c1,d0⟩:=info_parts aA1;have Y:=cB (aJY ki c6 c1 d0);obtain⟨l,b0⟩:=aJ8 (L.map Prod.fst);have C:=cB b0;rw[b0];clear hL hsl hb0 b0 ki c6 c1 d0;go_enter func51,ntmps51;go_wp2_with fail;go_loopw [6,7] (fun u k wr=>∃i:Nat,i≤L.length∧u= .int .i64 (qN l fc i)∧k= .int .i64 i∧Hid (Below W.heap.size W wr)) (fun _ k _=>L.length-(intOf k).toNat)
 case atStart=>exact⟨0,aI _,rfl,rfl,aJ _ _⟩
 case round=>
  obtain⟨i,hi,rfl,rfl,HC⟩:=hrel;have d6:=cB hi;by_cases d:i<L.length
  ·have K:=HL.out.chg0 (Chg.below' HC.out);obtain⟨g,rfl,hg,A⟩:=K i d;obtain⟨ps,cs,hs⟩:=c9.out _ (bF d);have b:=mN d;rw[C.out]at b;obtain⟨na,v⟩:=aJ8 ((dG l i).acc.length);obtain⟨bi,E⟩:=aJ8 ((dG l i).m.bal);have d7:wr.cell? ⟨g,i*13+12,none⟩=some (.slice ps na cs):=A 12 _ (by rw[←v,b,←hs];rfl);have c4:wr.cell? ⟨g,i*13+4,none⟩=some (.int .i64 bi):=A 4 _ (by rw[←E,b];rfl);have e0:(i:Int)<(L.length:Int):=by omega
   have e7:decide ((i:Int)<0)=false:=by simp
   have a7:=cB (aJW v E);by_cases H:(na:Int)≤fc
   ·have bf:decide (fc<(na:Int))=false:=by simp;omega
    have HT:=cB (show qN l fc (i+1)=qN l fc i from by unfold qN;rw[aHN (by rw[a7.out.1];exact H)]);clear H d hi K A hs b v E hg;go_wp2_with fail;refine dJ [0,0,0,0,1,1,0,0,0,0,0,0,0,0,0,0,0,1,0,0,0,0,0,1,0,0,0] (by kernel_rfl) (fun _ _ _ _=>rfl) ?_;simp only[cL,cK];iterate 27 ((try simp only[pA]);first|(apply sB rfl rfl;·(intro x h;(try cases h rfl);go_simp;with_reducible rfl))|apply cP rfl|apply cN rfl)
    refine cD ?_;try simp only[pA]
    go_wp2_with fail;go_roundw
    case rel=>exact⟨i+1,by omega,by rw[HT.out],by go_num,HC.out.drew⟩
    case measure=>simp[intOf]<;>omega
   ·have bf:decide (fc<(na:Int))=true:=by simp;omega
    cases ht:oB l fc i with
    |none=>
     have HT:=cB (show qN l fc (i+1)=i from by unfold qN;rw[aDt (by rw[a7.out.1];exact H) ht]);have M:qN l fc i= -1:=by unfold qN;rw[ht]
     rw[M];clear H d hi K A hs b v E hg ht M;go_wp2_with fail;refine dJ [0,0,0,0,1,1,0,0,0,0,0,0,0,0,0,0,0,1,0,0,0,0,0,1,0,0,0] (by kernel_rfl) (fun _ _ _ _=>rfl) ?_;simp only[cL,cK];iterate 27 ((try simp only[pA]);first|(apply sB rfl rfl;·(intro x h;(try cases h rfl);go_simp;with_reducible rfl))|apply cP rfl|apply cN rfl)
     refine cD ?_;try simp only[pA]
     go_wp2_with fail;go_roundw
     case rel=>exact⟨i+1,by omega,by rw[HT.out],by go_num,HC.out.drew⟩
     case measure=>simp[intOf]<;>omega
    |some tp=>
     have c8:=xV ht;obtain⟨g2,e2,_,P⟩:=K tp (by omega);cases e2;obtain⟨bt,J⟩:=aJ8 ((dG l tp).m.bal);have ct:wr.cell? ⟨g,tp*13+4,none⟩=some (.int .i64 bt):=P 4 _ (by
      have h5:=mN (L:=L) (k:=tp) (by omega);rw[C.out]at h5;rw[←J,h5];rfl)
     have e6:(tp:Int)<(L.length:Int):=by omega
     have e1:decide ((tp:Int)<0)=false:=by simp
     have M:qN l fc i=tp:=by unfold qN;rw[ht]
     have T:=cB (aFU (l:=l) (f:=fc) (n:=i) (by rw[a7.out.1];exact H) ht);rw[J,E]at T;rw[M];by_cases up:bt<bi
     ·have bu:decide (bt<bi)=true:=by simp[up]
      have HT:=cB (show qN l fc (i+1)=i from by unfold qN;rw[T.out,if_pos up]);clear H d hi K A hs b v E hg ht M c8 P J up;go_wp2_with fail;refine dJ [0,0,0,0,1,1,0,0,0,0,0,0,0,0,0,0,0,1,0,0,0,0,0,1,0,0,0] (by kernel_rfl) (fun _ _ _ _=>rfl) ?_;simp only[cL,cK];iterate 27 ((try simp only[pA]);first|(apply sB rfl rfl;·(intro x h;(try cases h rfl);go_simp;with_reducible rfl))|apply cP rfl|apply cN rfl)
      refine cD ?_;try simp only[pA]
      go_wp2_with fail;go_roundw
      case rel=>exact⟨i+1,by omega,by rw[HT.out],by go_num,HC.out.drew⟩
      case measure=>simp[intOf]<;>omega
     ·have bu:decide (bt<bi)=false:=by simp;omega
      have HT:=cB (show qN l fc (i+1)=tp from by unfold qN;rw[T.out,if_neg up]);clear H d hi K A hs b v E hg ht M c8 P J up;go_wp2_with fail;refine dJ [0,0,0,0,1,1,0,0,0,0,0,0,0,0,0,0,0,1,0,0,0,0,0,1,0,0,0] (by kernel_rfl) (fun _ _ _ _=>rfl) ?_;simp only[cL,cK];iterate 27 ((try simp only[pA]);first|(apply sB rfl rfl;·(intro x h;(try cases h rfl);go_simp;with_reducible rfl))|apply cP rfl|apply cN rfl)
      refine cD ?_;try simp only[pA]
      go_wp2_with fail;go_roundw
      case rel=>exact⟨i+1,by omega,by rw[HT.out],by go_num,HC.out.drew⟩
      case measure=>simp[intOf]<;>omega
  ·have e0:¬(i:Int)<(L.length:Int):=by omega
   have d5:i=L.length:=by omega
   subst d5;obtain⟨G,hG⟩:=aJ8 (aBt l fc);have w:l.length=L.length:=by rw[←C.out,bL]
   have d3:Hid (aHB l G [] (qN l fc L.length)):=by
    show aHB l G [] (qN l fc L.length);unfold aBt at hG;rw[w]at hG;unfold qN;cases ht:oB l fc L.length with
    |none=>rw[ht]at hG;exact Or.inl ⟨rfl,hG.symm,by decide⟩
    |some k=>
     rw[ht]at hG;have hk:=xV ht;have h5:=mN hk;rw[C.out]at h5;have h6:=a8.out _ (bF hk);rw[←h5]at h6;exact Or.inr ⟨k,_,rfl,by omega,hG.symm,Nat.lt_succ_self _,by simp;omega⟩
   have a6:=cB hG;generalize qN l fc L.length=top at d3⊢;clear hG hi d6;have a9:=cB w;clear w;have e3:Hid (LsAt btF 13 W pl L):=HL.out;go_wp2_with fail;go_loopw [8,9] (fun o k F=>∃(a:List Nat) (kk:Int),k= .int .i64 kk∧F.ownsRow W.heap.size 3 1 o a.length (cQ sA (tP a))∧Hid (aHB l G a kk∧(∀x ∈ a,x<L.length)∧Below W.heap.size W F)) (fun _ k _=>aD8 l (intOf k))
   case atStart=>exact⟨[],top,rfl,World.ownsRow_nil _ _ _ _,d3.out,(fun x hx=>by cases hx),HC.out⟩
   case round=>
    obtain⟨a,kk,rfl,y,X⟩:=hrel;obtain⟨F,a3⟩:=aJ8 (wr);rw[a3]at y X⊢;clear a3;rcases X.out.1 with⟨A,P,h3⟩|⟨k,q,rfl,hk,b9,s,w⟩
    ·subst A;obtain⟨po,co,rfl,hO,_⟩:=LsAt.of_owns (f:=sA) (sz:=1) (l:=tP a) (fun _=>rfl) y (by rw[bL]);have d1:=cB hO;have a2:=cB (aJW (a6.out.trans P) h3);clear y hO P h3;go_wp2_with fail;go_loopw [12] (fun k w3=>∃n:Nat,n≤L.length∧k= .int .i64 n∧F=w3∧Hid (uK l a fc n=true)) (fun k _=>L.length-(intOf k).toNat)
     case atStart=>exact⟨0,aI _,rfl,rfl,rfl⟩
     case round=>
      obtain⟨n,hn,rfl,rfl,HE⟩:=hrel;by_cases d:n<L.length
      ·obtain⟨g,rfl,hg,A⟩:=(HL.out.chg0 (Chg.below' X.out.2.2)) n d;obtain⟨ps,cs,hs⟩:=c9.out _ (bF d);have b:=mN d;rw[C.out]at b;obtain⟨na,v⟩:=aJ8 ((dG l n).acc.length);have d7:F.cell? ⟨g,n*13+12,none⟩=some (.slice ps na cs):=A 12 _ (by rw[←v,b,←hs];rfl);have d8:(n:Int)<(L.length:Int):=by omega
       have e5:decide ((n:Int)<0)=false:=by simp
       have hh:=aBw F po co (tP a) (n:Int) d1.out (by rw[bL];have:=a2.out.2;omega);rw[bL,sH]at hh;have T:=cB (aFg (out:=a) (f:=fc) v HE.out);obtain⟨B,hB⟩:=aJ8 (a.contains n);rw[hB]at hh T;have HH:=cB hh;clear A hs b v hh hB hg d;cases bf:decide (fc<(na:Int))with
       |false=>
        rw[bf]at T;go_wp2_with (first|(go_at_call 93;refine HH.out.mono ?_;rintro e W9 ⟨rfl,s⟩;rw[s];clear s));go_roundw
        case rel=>exact⟨n+1,by omega,by go_num,trivial,T.out.trans rfl⟩
        case measure=>simp[intOf]<;>omega
       |true=>
        rw[bf]at T;cases B with
        |true=>
         go_wp2_with (first|(go_at_call 93;refine HH.out.mono ?_;rintro e W9 ⟨rfl,s⟩;rw[s];clear s));go_roundw
         case rel=>exact⟨n+1,by omega,by go_num,trivial,T.out.trans rfl⟩
         case measure=>simp[intOf]<;>omega
        |false=>
         go_wp2_with (first|(go_at_call 93;refine HH.out.mono ?_;rintro e W9 ⟨rfl,s⟩;rw[s];clear s))
         go_ret2
         exact⟨X.out.2.2,Or.inr ⟨Or.inr ⟨a,a2.out.1,aEC (i:=n+1) (by omega) (T.out.trans rfl)⟩,rfl⟩⟩
      ·have d8:¬(n:Int)<(L.length:Int):=by omega
       have b7:n=L.length:=by omega
       have d9:=cB (b7▸HE.out);clear b7;go_wp2_with fail
       go_ret2
       exact⟨X.out.2.2,Or.inl ⟨a,a2.out.1,d9.out,X.out.2.1,a2.out.2,po,⟨co,rfl⟩,d1.out⟩⟩
    ·obtain⟨q,rfl⟩:∃p,q=p+1:=⟨q-1,by omega⟩;have a0:k<L.length:=by rw[←a9.out];exact hk
     have b:=mN a0;rw[C.out]at b;have b8:=a8.out _ (bF a0);rw[←b]at b8;obtain⟨V,I⟩:=aJ8 ((dG l k).m.bal);obtain⟨D,R⟩:=aJ8 ((dG l k).m.base);have a5:=X.out.2.2;have c2:=a5.size;have e9:(k:Int)<(L.length:Int):=by omega
     have e4:decide ((k:Int)<0)=false:=by simp
     have e8:decide ((0:Int)≤(k:Int))=true:=by simp
     have t:Hid (G=uA l (q+1) k a∧(dG l k).m.bal=V∧(dG l k).m.base=D∧0≤V∧V≤999999999999∧a.length+V.toNat≤999999999999∧V.toNat<q+1):=⟨b9,I,R,by omega,by omega,by rw[←I];exact w,by rw[←I];exact s⟩;have c7:=cB b;clear b b8 b9 s I R hk;go_wp2_with (at_builtin;refine wpList_append_own_at _ rfl _ _ 25 rfl W.heap.size 3 i2 _ 1 8 underlying25 Y.out.1 Y.out.2.1 Y.out.2.2.1 Y.out.2.2.2 rfl (by decide) _ _ _ rfl (y.alloc _) ⟨F.heap.size,0,none⟩ 1 1 [.int .i64 (k:Int)] rfl rfl ?qa ?qb ?qc ?qd ?qe ?_)
     case qa=>exact oS _ _ _
     case qb=>intro u hu;simp at hu;subst hu;rfl
     case qc=>unfold maxLen;omega
     case qd=>omega
     case qe=>simp;omega
     intro v5 w5 S d2 _ d4;have b2:Below W.heap.size W w5:=(a5.alloc c2 _).grown d2 (by simp;omega) (fun j hj=>(y.lt j hj).1);have c3:=cB (HL.out.chg0 (Chg.below' b2));obtain⟨g,rfl,_,A⟩:=c3.out k a0;have c4:w5.cell? ⟨g,k*13+4,none⟩=some (.int .i64 V):=A 4 _ (by rw[←t.out.2.1,c7.out];rfl);have c5:w5.cell? ⟨g,k*13+5,none⟩=some (.int .i64 D):=A 5 _ (by rw[←t.out.2.2.1,c7.out];rfl);have a1:=zL w5 (some ⟨g,0,none⟩) cl L D c3.out hl;rw[C.out]at a1;have c0:=cB (show w5.ownsRow W.heap.size 3 1 v5 (a++[k]).length (cQ sA (tP (a++[k])))from by
      rw[aD,show tP (a++[k])=tP a++[(k:Int)]from by simp[tP],jQ];exact S)
     have O:=cB (aJW b2 a0);have b3:Hid (pG l D=match gF l D with|some k=>(k:Int)|none=> -1):=rfl;obtain⟨fi,N⟩:=aJ8 (pG l D);rw[N]at a1 b3;have HF:=cB a1;clear S d2 d4 b2 A y a5 c2 a1 N w;by_cases U:V≤D
     ·have b1:decide (V≤D)=true:=by simp[U]
      have HN:=cB (t.out.1.trans (aCB (Or.inl (by rw[t.out.2.1,t.out.2.2.1];exact U))));clear U;go_wp2_with (first|(go_at_call 91;refine HF.out.mono ?_;rintro e W9 ⟨rfl,s⟩;rw[s];clear s))
      go_ret2
      exact⟨O.out.1,Or.inr ⟨Or.inl (a6.out.trans HN.out),rfl⟩⟩
     ·have b1:decide (V≤D)=false:=by simp;omega
      have b5:=cB U;by_cases z:D=0
      ·have bn:(D !=0)=false:=by simp[z]
       have bz:(D==0)=true:=by simp[z]
       have HN:=cB (t.out.1.trans (aGy (by rw[t.out.2.1,t.out.2.2.1];exact U) (by rw[t.out.2.2.1];exact z)));clear U z;go_wp2_with (first|(go_at_call 91;refine HF.out.mono ?_;rintro e W9 ⟨rfl,s⟩;rw[s];clear s));go_roundw
       case rel=>exact⟨a++[k], -1,rfl,c0.out,Or.inl ⟨rfl,HN.out,by have:=t.out.2.2.2.2.2.1;rw[aD];simp;omega⟩,(fun x hx=>by
        rcases aO.1 hx with h|h
        ·exact X.out.2.1 x h
        ·rw[List.mem_singleton.1 h];exact O.out.2),O.out.1⟩
       case measure=>
        show aD8 l (-1)<aD8 l (k:Int);unfold aD8;rw[if_pos (by decide),if_neg (by omega)];omega
      ·have bn:(D !=0)=true:=by simp[z]
       have bz:(D==0)=false:=by simp[z]
       cases hf:gF l D with
       |none=>
        have HN:=cB (t.out.1.trans (aCB (Or.inr ⟨by rw[t.out.2.2.1];exact z,by rw[t.out.2.2.1];exact hf⟩)));have N:fi= -1:=by rw[b3.out,hf]
        subst N;clear U z hf;go_wp2_with (first|(go_at_call 91;refine HF.out.mono ?_;rintro e W9 ⟨rfl,s⟩;rw[s];clear s))
        go_ret2
        exact⟨O.out.1,Or.inr ⟨Or.inl (a6.out.trans HN.out),rfl⟩⟩
       |some n=>
        have HN:=cB (t.out.1.trans (aIg (by rw[t.out.2.1,t.out.2.2.1];exact U) (by rw[t.out.2.2.1];exact z) (by rw[t.out.2.2.1];exact hf)));obtain⟨Z,b6⟩:=aFS hf;have N:fi=(n:Int):=by rw[b3.out,hf]
        have a4:=a8.out _ (bF (show n<L.length by rw[←a9.out];exact Z));have b4:=mN (show n<L.length by rw[←a9.out];exact Z);rw[C.out]at b4;rw[←b4,b6]at a4;have Q:=cB (aJX Z b6 a4);have n0:decide ((n:Int)<0)=false:=by simp
        subst N;clear U z hf Z b6 a4 b4;go_wp2_with (first|(go_at_call 91;refine HF.out.mono ?_;rintro e W9 ⟨rfl,s⟩;rw[s];clear s));go_roundw
        case rel=>exact⟨a++[k],n,rfl,c0.out,Or.inr ⟨n,q,rfl,Q.out.1,HN.out,by have A:=t.out.2.2.2;have P:=Q.out.2;have h3:=b5.out;rw[P.1];omega,by have A:=t.out.2.2.2;have P:=Q.out.2;have h3:=b5.out;rw[aD,Q.out.2.1];simp;omega⟩,(fun x hx=>by
         rcases aO.1 hx with h|h
         ·exact X.out.2.1 x h
         ·rw[List.mem_singleton.1 h];exact O.out.2),O.out.1⟩
        case measure=>
         have A:=t.out.2;have P:=Q.out.2;have h3:=b5.out;show aD8 l (n:Int)<aD8 l (k:Int);unfold aD8;rw[if_neg (by omega),if_neg (by omega),aZ,aZ,A.1,P.1];omega
def NdI(f:Cf)(s:Sx):Prop:=∀x ∈ s.tr,x.kind=2∨x.kind=3→0≤x.node∧x.node<f.clients
theorem aEx{f:Cf}{s t:Sx}{e:List Ev}(h:NdI f s)(ht:t.tr=s.tr++e)(he:∀x ∈ e,x.kind=2∨x.kind=3→0≤x.node∧x.node<f.clients):NdI f t:=fun x hx=>by
 rw[ht]at hx;rcases aO.1 hx with hx|hx
 ·exact h x hx
 ·exact he x hx
theorem aH1{f:Cf}{gd:Bool}{s s':Sx}(v:Inv f s)(h:NdI f s)(hs:Mi f gd s s'):NdI f s':=by
 have none:∀(t:Sx) (e:List Ev),t.tr=s.tr++e→(∀x ∈ e,x.kind≠2∧x.kind≠3)→NdI f t:=fun t e ht he=>aEx h ht fun x hx q=>(q.elim (he x hx).1 (he x hx).2).elim;have a:∀(t:Sx) (i:Int) (e:Ev),0≤i→i<f.clients→e.node=i→t.tr=s.tr++[e]→NdI f t:=fun t i e i0 i1 hn ht=>aEx h ht fun x hx _=>by
  rw[List.mem_singleton]at hx;subst hx;rw[hn];exact⟨i0,i1⟩
 refine hs.elim (P:=NdI f) ?tick ?bump ?began ?att ?endU ?endQ ?hear ?prop ?lose ?ret ?acc ?ev
 case tick=>exact fun i i0 i1 hu hg=>none _ [] rfl (fun x hx=>by cases hx)
 case bump=>exact fun i r o i0 i1 hu hd hr hr'=>none _ [] rfl (fun x hx=>by cases hx)
 case began=>exact fun i k l t i0 i1 hu hd hk hl _ _ _=>a _ i (gJ (s.cl i).num (eH (s.cl i) k l t)) i0 i1 (v.i0.num i i0 i1) rfl
 case att=>exact fun i o i0 i1 hu hd hr=>none _ _ rfl (fun x hx=>by have:=(jG x hx).1;omega)
 case endU=>exact fun i o res i0 i1 hu hd hr=>a _ i (eP (s.cl i).num o res 0 0) i0 i1 (v.i0.num i i0 i1) rfl
 case endQ=>exact fun i o i0 i1 hu hd h4 hq=>a _ i (eP (s.cl i).num o _ _ _) i0 i1 (v.i0.num i i0 i1) rfl
 case hear=>exact fun i o m i0 i1 hu hd hm hb hk0 hk ha=>none _ [] rfl (fun x hx=>by cases hx)
 case prop=>exact fun i o i0 i1 hu hd q2 hq hr=>none _ _ rfl (fun x hx=>by have:=(jG x hx).1;omega)
 case lose=>
  exact fun i i0 i1 hu=>none _ (jU (s.cl i)) rfl (fun x hx=>by
   unfold jU at hx;rw[if_neg (by rw[hu];decide),List.mem_singleton]at hx;subst hx;show(4:Int)≠2∧(4:Int)≠3;decide)
 case ret=>
  exact fun i i0 i1 hu hi=>none _ (fW (s.cl i)) rfl (fun x hx=>by
   have e:dW (s.cl i)=0:=by unfold dW;rw[if_neg (by rw[hu];decide),if_neg (by omega)]
   unfold fW at hx;rw[e,if_neg (by decide),List.mem_singleton]at hx;subst hx;show(5:Int)≠2∧(5:Int)≠3;decide)
 case acc=>
  exact fun j m e j0 j1 hm hk he=>none _ e rfl (fun x hx=>by
   rcases he with rfl|rfl
   ·cases hx
   ·rw[List.mem_singleton]at hx;subst hx;show(1:Int)≠2∧(1:Int)≠3;decide)
 case ev=>
  exact fun j k j0 hk=>none _ [{zEv with kind:=k,node:=j}] rfl (fun x hx=>by
   rw[List.mem_singleton]at hx;subst hx;show k≠2∧k≠3;omega)
theorem MiR.nodes{f:Cf}(hf:f.clients≤4)(hff:0≤f.f){gd:Bool}{s:Sx}(h:MiR f gd s):NdI f s:=
 (h.ind (P:=fun s=>Inv f s∧NdI f s) ⟨MiR.all hf hff (MiR.new (gd:=gd)),fun x hx=>(by simp[pU]at hx)⟩
  fun s s' hr k hs=>⟨MiR.all hf hff (hr.step hs),aH1 k.1 k.2 hs⟩).2
end Go.Proofs.YtbbdgokdfhdpiaaGreatDoor
