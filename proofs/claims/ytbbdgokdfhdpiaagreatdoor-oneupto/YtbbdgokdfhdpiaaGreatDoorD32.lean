/- A part of the proof: OneF, OneC. -/
import Derived.Test.YtbbdgokdfhdpiaaGreatDoorD3
import Derived.Test.YtbbdgokdfhdpiaaGreatDoorD29
namespace Go.Proofs.YtbbdgokdfhdpiaaGreatDoor
set_option linter.all false
set_option maxRecDepth 100000
set_option maxHeartbeats 40000000
open Go.Proofs.Tryz Go.RowKit
theorem aFO(g o j:Nat):(⟨g,o,none⟩:Addr).add j=⟨g,o+j,none⟩:=by unfold Addr.add;split<;>simp_all
theorem aGT{W:World}{g o:Nat}{l:List Value}(h:∀j u,l[j]?=some u→W.cell? ⟨g,o+j,none⟩=some u):∀j u,l[j]?=some u→W.cell? ((⟨g,o,none⟩:Addr).add j)=some u:=fun j u hj=>by rw[aFO];exact h j u hj
theorem nM{P:Program}{ops:Array Oper}{rest:List Oper}{op:Oper}{a:Act}{w:World}{Q:Exit→Act→World→Prop}{t u:TypeId}{x y:Operand}{v:Value}(hgd:op.guard=none)(ho:op.op= .binOp .eql t x y u)
 (hr:∀w,(execOp a.eval op).run P w= .ok (.value v) w) (h:wpList P ops Q rest (a.put op.dst v) w):wpList P ops Q (op::rest) a w:=
 wpList_plain hgd fun _ hK=>by
  unfold Oper.wp;rw[hr];exact hK _ _ h
theorem aBG{a b:Int}(h:¬a=b):(a==b)=false:=by simpa using h
section
variable {a b c d a' b' c' d':Int}
theorem tK(h:vlB ⟨a,b,c,d⟩ ⟨a',b',c',d'⟩=false):¬a=a'∨(a=a'∧¬b=b')∨(a=a'∧b=b'∧¬c=c')∨(a=a'∧b=b'∧c=c'∧¬d=d'):=by
 by_cases e:a=a'
 ·by_cases f:b=b'
  ·by_cases g:c=c'
   ·by_cases i:d=d'
    ·subst e f g i;simp[vlB]at h
    ·exact Or.inr (Or.inr (Or.inr ⟨e,f,g,i⟩))
   ·exact Or.inr (Or.inr (Or.inl ⟨e,f,g⟩))
  ·exact Or.inr (Or.inl ⟨e,f⟩)
 ·exact Or.inl e
theorem uM(h:vlB ⟨a,b,c,d⟩ ⟨a',b',c',d'⟩=true):a=a'∧b=b'∧c=c'∧d=d':=by
 have:=(rM _ _).1 h;cases this;exact⟨rfl,rfl,rfl,rfl⟩
end
section
variable {p:Vl} {m:Mg}
theorem aJA{k t:Int}(h:vlB m.val p=true):fU p m k t=(false,true):=by unfold fU;rw[if_pos h]
theorem aDb{t:Int}(h:vlB m.val p=false):fU p m 1 t=(true,vlB m.val ⟨m.src+1,m.bal,t,1⟩&&decide (p.tok<m.val.tok)):=by unfold fU;rw[if_neg (by rw[h];decide),if_pos rfl]
theorem aDh{t:Int}(h:vlB m.val p=false):fU p m 2 t=(true,p.own==m.src+1&&vlB m.val ⟨m.src+1,p.tok,t,p.seq+1⟩):=by unfold fU;rw[if_neg (by rw[h];decide),if_neg (by decide),if_pos rfl]
theorem aDX{t:Int}(h:vlB m.val p=false):fU p m 3 t=(true,p.own==m.src+1&&vlB m.val ⟨0,p.tok,0,m.bal⟩):=by unfold fU;rw[if_neg (by rw[h];decide),if_neg (by decide),if_neg (by decide),if_pos rfl]
theorem aJp{k t:Int}(h:vlB m.val p=false)(h1:¬k=1)(h2:¬k=2)(h3:¬k=3):fU p m k t=(true,false):=by unfold fU;rw[if_neg (by rw[h];decide),if_neg h1,if_neg h2,if_neg h3]
end
theorem aBQ(W:World)(p:Vl)(m:Mg)(ok ol ot:Int)(hs0: -1000≤m.src)(hs1:m.src≤1000000)(hq0: -1≤p.seq)(hq1:p.seq≤4611686018427387904):
 Calls prog 94 #[vlV p,mgV m,.agg #[.int .i64 ok,.int .i64 ol,.int .i64 ot]] W fun r W'=>r= .returned (.tuple #[.bool (fU p m ok ot).1,.bool (fU p m ok ot).2])∧Chg NoS W W':=by
 have wm:IntKind.i64.wrap (m.src+1)=m.src+1:=dZ (by omega) (by omega);have wq:IntKind.i64.wrap (p.seq+1)=p.seq+1:=dZ (by omega) (by omega);have HD:Hid (∃q,fU p m ok ot=q):=⟨_,rfl⟩;obtain⟨q,hq⟩:=HD.out;have H:=cB hq;rw[hq];obtain⟨U,q2⟩:=q;dsimp only;clear hq HD;obtain⟨m0,N,m2,m3,R,m5,⟨f,d,g,i⟩⟩:=m;obtain⟨A,y,G,F⟩:=p;have HW:=cB (aJW wm wq);clear hs0 hs1 hq0 hq1;have E:=aA W (.cells #[.int .i64 A,.int .i64 y,.int .i64 G,.int .i64 F] 56);have M:Chg NoS W (W.alloc (.cells #[.int .i64 A,.int .i64 y,.int .i64 G,.int .i64 F] 56)):=(Chg.refl _ _).alloc _;generalize X:W.alloc (.cells #[.int .i64 A,.int .i64 y,.int .i64 G,.int .i64 F] 56)=W1 at E M;have B:=aA W1 (.cells #[.int .i64 m0,.int .i64 N,.int .i64 m2,.int .i64 m3,.int .i64 R,.int .i64 m5,.int .i64 f,.int .i64 d,.int .i64 g,.int .i64 i] 66);have J:Chg NoS W1 (W1.alloc (.cells #[.int .i64 m0,.int .i64 N,.int .i64 m2,.int .i64 m3,.int .i64 R,.int .i64 m5,.int .i64 f,.int .i64 d,.int .i64 g,.int .i64 i] 66)):=(Chg.refl _ _).alloc _;generalize Y:W1.alloc (.cells #[.int .i64 m0,.int .i64 N,.int .i64 m2,.int .i64 m3,.int .i64 R,.int .i64 m5,.int .i64 f,.int .i64 d,.int .i64 g,.int .i64 i] 66)=W2 at B J;have C:=aA W2 (.cells #[.int .i64 ok,.int .i64 ol,.int .i64 ot] 68);have D:Chg NoS W2 (W2.alloc (.cells #[.int .i64 ok,.int .i64 ol,.int .i64 ot] 68)):=(Chg.refl _ _).alloc _;generalize a4:W2.alloc (.cells #[.int .i64 ok,.int .i64 ol,.int .i64 ot] 68)=W3 at C D
 have Q:=aA W3 (.cells #[.int .i64 0,.int .i64 0,.int .i64 0,.int .i64 0] 56);have w:Chg NoS W3 (W3.alloc (.cells #[.int .i64 0,.int .i64 0,.int .i64 0,.int .i64 0] 56)):=(Chg.refl _ _).alloc _;generalize Z:W3.alloc (.cells #[.int .i64 0,.int .i64 0,.int .i64 0,.int .i64 0] 56)=W4 at Q w;have s1:=(Array.getElem?_eq_some_iff.1 E).1;have s2:=(Array.getElem?_eq_some_iff.1 B).1;have s3:=(Array.getElem?_eq_some_iff.1 C).1;have z1:=M.size;have z2:=J.size;have z3:=D.size;have z4:=w.size;have a6:=cB X;have a9:=cB Y;have a7:=cB a4;have a8:=cB Z;have s:=(D.block _ s2 (fun z=>z)).trans B;have B:=(w.block _ (by omega) (fun z=>z)).trans s;have E:=(w.block _ (by omega) (fun z=>z)).trans ((D.block _ (by omega) (fun z=>z)).trans ((J.block _ s1 (fun z=>z)).trans E));have C:=(w.block _ s3 (fun z=>z)).trans C;have a1:Hid (W4.heap[W3.heap.size]?=some (.cells (vlL zVl).toArray 56 (0,0))):=Q;have n:Hid (∀j u,(vlL ⟨f,d,g,i⟩)[j]?=some u→W3.cell? ((⟨W1.heap.size,6,none⟩:Addr).add j)=some u):=aGT fun j u hj=>by
  rcases j with _|_|_|_|j
  ·exact cC s 6 _ hj
  ·exact cC s 7 _ hj
  ·exact cC s 8 _ hj
  ·exact cC s 9 _ hj
  ·exact absurd (aF.1 hj).1 (by simp)
 have O:=cB (aJ0 s1 s2 s3 z2 z3 z4);have P:=cB (aJX E B C);have HC:=cB (M.trans (J.trans (D.trans w (fun _ _ z=>z)) (fun _ _ z=>z)) (fun _ _ z=>z));clear s X Y a4 Z M J D w E B C Q s1 s2 s3 z1 z2 z3 z4;show Calls prog 94 #[.agg #[.int .i64 A,.int .i64 y,.int .i64 G,.int .i64 F],.agg #[.int .i64 m0,.int .i64 N,.int .i64 m2,.int .i64 m3,.int .i64 R,.int .i64 m5,.int .i64 f,.int .i64 d,.int .i64 g,.int .i64 i],.agg #[.int .i64 ok,.int .i64 ol,.int .i64 ot]] W _;go_enter func94,ntmps94;go_wp2_with (first|rw[a6.out]|rw[a9.out]|rw[a7.out]|rw[a8.out]|(refine cH rfl 56 _ _ rfl W3.heap.size 0 56 _ _ (vlL ⟨f,d,g,i⟩) rfl rfl a1.out (by kernel_rfl) (by simp[Value.oneCell']) (by simp) rfl ?_;intro S a2 a5 a0;have L:=cB a2;have a3:=cB a0;clear a2 a5 a0;refine cE ?_)|(refine cI rfl 56 _ rfl ⟨W1.heap.size,6,none⟩ rfl (vlL ⟨f,d,g,i⟩) _ n.out underlying56 rfl (by kernel_rfl) ?_));have U:S.heap[W.heap.size]?=_:=(L.out.block _ (by have:=O.out;omega) (fun z=>absurd (show W.heap.size=W3.heap.size from z) (by have:=O.out;omega))).trans P.out.1;have q2:S.heap[W1.heap.size]?=_:=(L.out.block _ (by have:=O.out;omega) (fun z=>absurd (show W1.heap.size=W3.heap.size from z) (by have:=O.out;omega))).trans P.out.2.1;have q3:S.heap[W2.heap.size]?=_:=(L.out.block _ (by have:=O.out;omega) (fun z=>absurd (show W2.heap.size=W3.heap.size from z) (by have:=O.out;omega))).trans P.out.2.2;have b4:=cC U 0 _ rfl;have b8:=cC U 1 _ rfl;have b9:=cC U 3 _ rfl;have b6:=cC q2 1 _ rfl;have c0:=cC q2 4 _ rfl
 have b0:=cC q3 0 _ rfl;have b7:=cC q3 2 _ rfl;have b5:S.cell? ⟨W3.heap.size,1,none⟩=some (.int .i64 d):=cC a3.out 1 _ rfl;have K:Hid (∀j u,(vlL ⟨A,y,G,F⟩)[j]?=some u→S.cell? ((⟨W.heap.size,0,none⟩:Addr).add j)=some u):=cF U;have l:Hid (∀j u,(vlL ⟨f,d,g,i⟩)[j]?=some u→S.cell? ((⟨W3.heap.size,0,none⟩:Addr).add j)=some u):=cF a3.out;have I:=cB (HC.out.fresh L.out (by have:=HC.out.size;have:=O.out;omega));clear U q2 q3 n a1 L;refine cB ?_;cases hv0:vlB ⟨f,d,g,i⟩ ⟨A,y,G,F⟩with
 |true=>
  have b:=cB hv0;clear hv0;go_wp2_with (first|(refine cI rfl 56 _ rfl ⟨W.heap.size,0,none⟩ rfl (vlL ⟨A,y,G,F⟩) _ K.out underlying56 rfl (by kernel_rfl) ?_)|(refine cI rfl 56 _ rfl ⟨W3.heap.size,0,none⟩ rfl (vlL ⟨f,d,g,i⟩) _ l.out underlying56 rfl (by kernel_rfl) ?_)|(refine nM (v:=.bool true) rfl (t:=56) rfl (fun x=>by obtain⟨e,k,a,c⟩:=uM b.out;go_simp<;>first|with_reducible rfl|(intros;omega)) ?_));have o:=H.out.symm.trans (aJA b.out);obtain⟨rfl,rfl⟩:=Prod.mk.inj o
  go_ret2
  exact⟨rfl,I.out⟩
 |false=>
  have b:=cB hv0;clear hv0;by_cases T:ok=1
  ·subst T;go_wp2_with (first|(refine cI rfl 56 _ rfl ⟨W.heap.size,0,none⟩ rfl (vlL ⟨A,y,G,F⟩) _ K.out underlying56 rfl (by kernel_rfl) ?_)|(refine cI rfl 56 _ rfl ⟨W3.heap.size,0,none⟩ rfl (vlL ⟨f,d,g,i⟩) _ l.out underlying56 rfl (by kernel_rfl) ?_)|(refine nM (v:=.bool false) rfl (t:=56) rfl (fun x=>by rcases tK b.out with e|⟨e,k⟩|⟨e,k,a⟩|⟨e,k,a,c⟩<;>(go_simp<;>first|with_reducible rfl|(intros;omega))) ?_));cases hv:vlB ⟨f,d,g,i⟩ ⟨N+1,R,ot,1⟩with
   |true=>
    have n:=cB hv;clear hv;cases hd:decide (y<d)with
    |true=>
     refine dJ [1,0,0,1,0,1,0,0,0,0,1,0,1,0,0,0,0] (by kernel_rfl) (fun _ _ _ _=>rfl) ?_;simp only[cL,cK];refine cM (v:=vlV ⟨f,d,g,i⟩) rfl (fun zz hx=>cG 56 _ rfl ⟨W3.heap.size,0,none⟩ rfl (vlL ⟨f,d,g,i⟩) _ (by subst hx;exact l.out) underlying56 rfl (by kernel_rfl)) ?_;(try simp only[pA]);iterate 6 (apply sB rfl rfl;·(intro x h;(try cases h rfl);go_simp;with_reducible rfl))
     try simp only[pA]
     refine kA (v:=.bool true) rfl (fun x=>by obtain⟨e,k,a,c⟩:=uM n.out;go_simp<;>first|with_reducible rfl|(intros;omega)) ?_;(try simp only[pA]);iterate 9 ((try simp only[pA]);first|(apply sB rfl rfl;·(intro x h;(try cases h rfl);go_simp;with_reducible rfl))|apply cP rfl|apply cN rfl)
     refine cD ?_;try simp only[pA]
     go_wp2_with fail;have o:=H.out.symm.trans (aDb b.out);obtain⟨rfl,rfl⟩:=Prod.mk.inj o
     go_ret2
     exact⟨by rw[n.out,hd]<;>rfl,I.out.drew⟩
    |false=>
     refine dJ [1,0,0,1,0,1,0,0,0,0,1,0,1,0,0,0,0] (by kernel_rfl) (fun _ _ _ _=>rfl) ?_;simp only[cL,cK];refine cM (v:=vlV ⟨f,d,g,i⟩) rfl (fun zz hx=>cG 56 _ rfl ⟨W3.heap.size,0,none⟩ rfl (vlL ⟨f,d,g,i⟩) _ (by subst hx;exact l.out) underlying56 rfl (by kernel_rfl)) ?_;(try simp only[pA]);iterate 6 (apply sB rfl rfl;·(intro x h;(try cases h rfl);go_simp;with_reducible rfl))
     try simp only[pA]
     refine kA (v:=.bool true) rfl (fun x=>by obtain⟨e,k,a,c⟩:=uM n.out;go_simp<;>first|with_reducible rfl|(intros;omega)) ?_;(try simp only[pA]);iterate 9 ((try simp only[pA]);first|(apply sB rfl rfl;·(intro x h;(try cases h rfl);go_simp;with_reducible rfl))|apply cP rfl|apply cN rfl)
     refine cD ?_;try simp only[pA]
     go_wp2_with fail;have o:=H.out.symm.trans (aDb b.out);obtain⟨rfl,rfl⟩:=Prod.mk.inj o
     go_ret2
     exact⟨by rw[n.out,hd]<;>rfl,I.out.drew⟩
   |false=>
    have n:=cB hv;clear hv;refine dJ [1,0,0,1,0,1,0,0,0,0,1,0,1,0,0,0,0] (by kernel_rfl) (fun _ _ _ _=>rfl) ?_;simp only[cL,cK];refine cM (v:=vlV ⟨f,d,g,i⟩) rfl (fun zz hx=>cG 56 _ rfl ⟨W3.heap.size,0,none⟩ rfl (vlL ⟨f,d,g,i⟩) _ (by subst hx;exact l.out) underlying56 rfl (by kernel_rfl)) ?_;(try simp only[pA]);iterate 6 (apply sB rfl rfl;·(intro x h;(try cases h rfl);go_simp;with_reducible rfl))
    try simp only[pA]
    refine kA (v:=.bool false) rfl (fun x=>by rcases tK n.out with e|⟨e,k⟩|⟨e,k,a⟩|⟨e,k,a,c⟩<;>(go_simp<;>first|with_reducible rfl|(intros;omega))) ?_;(try simp only[pA]);iterate 9 ((try simp only[pA]);first|(apply sB rfl rfl;·(intro x h;(try cases h rfl);go_simp;with_reducible rfl))|apply cP rfl|apply cN rfl)
    refine cD ?_;try simp only[pA]
    go_wp2_with fail;have o:=H.out.symm.trans (aDb b.out);obtain⟨rfl,rfl⟩:=Prod.mk.inj o
    go_ret2
    exact⟨by rw[n.out]<;>rfl,I.out.drew⟩
  ·have b1:(ok==1)=false:=aBG T;by_cases V:ok=2
   ·subst V;clear T b1;go_wp2_with (first|(refine cI rfl 56 _ rfl ⟨W.heap.size,0,none⟩ rfl (vlL ⟨A,y,G,F⟩) _ K.out underlying56 rfl (by kernel_rfl) ?_)|(refine cI rfl 56 _ rfl ⟨W3.heap.size,0,none⟩ rfl (vlL ⟨f,d,g,i⟩) _ l.out underlying56 rfl (by kernel_rfl) ?_)|(refine nM (v:=.bool false) rfl (t:=56) rfl (fun x=>by rcases tK b.out with e|⟨e,k⟩|⟨e,k,a⟩|⟨e,k,a,c⟩<;>(go_simp<;>first|with_reducible rfl|(intros;omega))) ?_));cases hm:(A==N+1)with
    |false=>
     refine dJ [0,1,0,0,0,1,0,0,1,0,1,0,1,0,0,0,0,0,0] (by kernel_rfl) (fun _ _ _ _=>rfl) ?_;simp only[cL,cK];iterate 19 ((try simp only[pA]);first|(apply sB rfl rfl;·(intro x h;(try cases h rfl);go_simp;with_reducible rfl))|apply cP rfl|apply cN rfl)
     refine cD ?_;try simp only[pA]
     go_wp2_with fail;have o:=H.out.symm.trans (aDh b.out);obtain⟨rfl,rfl⟩:=Prod.mk.inj o
     go_ret2
     exact⟨by rw[hm]<;>rfl,I.out.drew⟩
    |true=>
     cases hv:vlB ⟨f,d,g,i⟩ ⟨N+1,y,ot,F+1⟩with
     |true=>
      have n:=cB hv;clear hv;refine dJ [0,1,0,0,0,1,0,0,1,0,1,0,1,0,0,0,0,0,0] (by kernel_rfl) (fun _ _ _ _=>rfl) ?_;simp only[cL,cK];iterate 5 (apply sB rfl rfl;·(intro x h;(try cases h rfl);go_simp;with_reducible rfl))
      try simp only[pA]
      refine kU (v:=vlV ⟨f,d,g,i⟩) rfl (fun zz hx=>cG 56 _ rfl ⟨W3.heap.size,0,none⟩ rfl (vlL ⟨f,d,g,i⟩) _ (by subst hx;exact l.out) underlying56 rfl (by kernel_rfl)) ?_;(try simp only[pA]);iterate 9 ((try simp only[pA]);first|(apply sB rfl rfl;·(intro x h;(try cases h rfl);go_simp;with_reducible rfl))|apply cP rfl|apply cN rfl)
      try simp only[pA]
      refine nD (v:=.bool true) rfl (fun x=>by obtain⟨e,k,a,c⟩:=uM n.out;go_simp<;>first|with_reducible rfl|(intros;omega)) ?_;(try simp only[pA]);iterate 3 (apply sB rfl rfl;·(intro x h;(try cases h rfl);go_simp;with_reducible rfl))
      refine cD ?_;try simp only[pA]
      go_wp2_with fail;have o:=H.out.symm.trans (aDh b.out);obtain⟨rfl,rfl⟩:=Prod.mk.inj o
      go_ret2
      exact⟨by rw[hm,n.out]<;>rfl,I.out.drew⟩
     |false=>
      have n:=cB hv;clear hv;refine dJ [0,1,0,0,0,1,0,0,1,0,1,0,1,0,0,0,0,0,0] (by kernel_rfl) (fun _ _ _ _=>rfl) ?_;simp only[cL,cK];iterate 5 (apply sB rfl rfl;·(intro x h;(try cases h rfl);go_simp;with_reducible rfl))
      try simp only[pA]
      refine kU (v:=vlV ⟨f,d,g,i⟩) rfl (fun zz hx=>cG 56 _ rfl ⟨W3.heap.size,0,none⟩ rfl (vlL ⟨f,d,g,i⟩) _ (by subst hx;exact l.out) underlying56 rfl (by kernel_rfl)) ?_;(try simp only[pA]);iterate 9 ((try simp only[pA]);first|(apply sB rfl rfl;·(intro x h;(try cases h rfl);go_simp;with_reducible rfl))|apply cP rfl|apply cN rfl)
      try simp only[pA]
      refine nD (v:=.bool false) rfl (fun x=>by rcases tK n.out with e|⟨e,k⟩|⟨e,k,a⟩|⟨e,k,a,c⟩<;>(go_simp<;>first|with_reducible rfl|(intros;omega))) ?_;(try simp only[pA]);iterate 3 (apply sB rfl rfl;·(intro x h;(try cases h rfl);go_simp;with_reducible rfl))
      refine cD ?_;try simp only[pA]
      go_wp2_with fail;have o:=H.out.symm.trans (aDh b.out);obtain⟨rfl,rfl⟩:=Prod.mk.inj o
      go_ret2
      exact⟨by rw[hm,n.out]<;>rfl,I.out.drew⟩
   ·have b2:(ok==2)=false:=aBG V;by_cases k3:ok=3
    ·subst k3;clear T b1 V b2;go_wp2_with (first|(refine cI rfl 56 _ rfl ⟨W.heap.size,0,none⟩ rfl (vlL ⟨A,y,G,F⟩) _ K.out underlying56 rfl (by kernel_rfl) ?_)|(refine cI rfl 56 _ rfl ⟨W3.heap.size,0,none⟩ rfl (vlL ⟨f,d,g,i⟩) _ l.out underlying56 rfl (by kernel_rfl) ?_)|(refine nM (v:=.bool false) rfl (t:=56) rfl (fun x=>by rcases tK b.out with e|⟨e,k⟩|⟨e,k,a⟩|⟨e,k,a,c⟩<;>(go_simp<;>first|with_reducible rfl|(intros;omega))) ?_));cases hm:(A==N+1)with
     |false=>
      refine dJ [0,1,0,0,0,1,0,1,0,1,0,0,0,0,0] (by kernel_rfl) (fun _ _ _ _=>rfl) ?_;simp only[cL,cK];iterate 15 ((try simp only[pA]);first|(apply sB rfl rfl;·(intro x h;(try cases h rfl);go_simp;with_reducible rfl))|apply cP rfl|apply cN rfl)
      refine cD ?_;try simp only[pA]
      go_wp2_with fail;have o:=H.out.symm.trans (aDX b.out);obtain⟨rfl,rfl⟩:=Prod.mk.inj o
      go_ret2
      exact⟨by rw[hm]<;>rfl,I.out.drew⟩
     |true=>
      cases hv:vlB ⟨f,d,g,i⟩ ⟨0,y,0,R⟩with
      |true=>
       have n:=cB hv;clear hv;refine dJ [0,1,0,0,0,1,0,1,0,1,0,0,0,0,0] (by kernel_rfl) (fun _ _ _ _=>rfl) ?_;simp only[cL,cK];iterate 5 (apply sB rfl rfl;·(intro x h;(try cases h rfl);go_simp;with_reducible rfl))
       try simp only[pA]
       refine kU (v:=vlV ⟨f,d,g,i⟩) rfl (fun zz hx=>cG 56 _ rfl ⟨W3.heap.size,0,none⟩ rfl (vlL ⟨f,d,g,i⟩) _ (by subst hx;exact l.out) underlying56 rfl (by kernel_rfl)) ?_;(try simp only[pA]);iterate 5 ((try simp only[pA]);first|(apply sB rfl rfl;·(intro x h;(try cases h rfl);go_simp;with_reducible rfl))|apply cP rfl|apply cN rfl)
       try simp only[pA]
       refine nD (v:=.bool true) rfl (fun x=>by obtain⟨e,k,a,c⟩:=uM n.out;go_simp<;>first|with_reducible rfl|(intros;omega)) ?_;(try simp only[pA]);iterate 3 (apply sB rfl rfl;·(intro x h;(try cases h rfl);go_simp;with_reducible rfl))
       refine cD ?_;try simp only[pA]
       go_wp2_with fail;have o:=H.out.symm.trans (aDX b.out);obtain⟨rfl,rfl⟩:=Prod.mk.inj o
       go_ret2
       exact⟨by rw[hm,n.out]<;>rfl,I.out.drew⟩
      |false=>
       have n:=cB hv;clear hv;refine dJ [0,1,0,0,0,1,0,1,0,1,0,0,0,0,0] (by kernel_rfl) (fun _ _ _ _=>rfl) ?_;simp only[cL,cK];iterate 5 (apply sB rfl rfl;·(intro x h;(try cases h rfl);go_simp;with_reducible rfl))
       try simp only[pA]
       refine kU (v:=vlV ⟨f,d,g,i⟩) rfl (fun zz hx=>cG 56 _ rfl ⟨W3.heap.size,0,none⟩ rfl (vlL ⟨f,d,g,i⟩) _ (by subst hx;exact l.out) underlying56 rfl (by kernel_rfl)) ?_;(try simp only[pA]);iterate 5 ((try simp only[pA]);first|(apply sB rfl rfl;·(intro x h;(try cases h rfl);go_simp;with_reducible rfl))|apply cP rfl|apply cN rfl)
       try simp only[pA]
       refine nD (v:=.bool false) rfl (fun x=>by rcases tK n.out with e|⟨e,k⟩|⟨e,k,a⟩|⟨e,k,a,c⟩<;>(go_simp<;>first|with_reducible rfl|(intros;omega))) ?_;(try simp only[pA]);iterate 3 (apply sB rfl rfl;·(intro x h;(try cases h rfl);go_simp;with_reducible rfl))
       refine cD ?_;try simp only[pA]
       go_wp2_with fail;have o:=H.out.symm.trans (aDX b.out);obtain⟨rfl,rfl⟩:=Prod.mk.inj o
       go_ret2
       exact⟨by rw[hm,n.out]<;>rfl,I.out.drew⟩
    ·have b3:(ok==3)=false:=aBG k3;have HK:=cB (aJX T V k3);clear T V k3;go_wp2_with (first|(refine cI rfl 56 _ rfl ⟨W.heap.size,0,none⟩ rfl (vlL ⟨A,y,G,F⟩) _ K.out underlying56 rfl (by kernel_rfl) ?_)|(refine cI rfl 56 _ rfl ⟨W3.heap.size,0,none⟩ rfl (vlL ⟨f,d,g,i⟩) _ l.out underlying56 rfl (by kernel_rfl) ?_)|(refine nM (v:=.bool false) rfl (t:=56) rfl (fun x=>by rcases tK b.out with e|⟨e,k⟩|⟨e,k,a⟩|⟨e,k,a,c⟩<;>(go_simp<;>first|with_reducible rfl|(intros;omega))) ?_));have o:=H.out.symm.trans (aJp b.out HK.out.1 HK.out.2.1 HK.out.2.2);obtain⟨rfl,rfl⟩:=Prod.mk.inj o
     go_ret2
     exact⟨rfl,I.out⟩
structure aI0(t:List Ev)(W:World)(L:List (Bt×Value)):Prop where
 op:∀q ∈ L,0≤q.1.op∧q.1.op<t.length
 src:∀q ∈ L, -1000≤q.1.m.src∧q.1.m.src≤1000000
 seq:∀q ∈ L, -1≤q.1.m.val.seq∧q.1.m.val.seq≤4611686018427387904
 sl:∀q ∈ L,∃p c,q.2= .slice p q.1.acc.length c∧LsAt sA 1 W p q.1.acc
theorem aAD{t:List Ev}{l:List Bt}{out:List Nat}{op:Int}{i:Nat}{c:Int}{b:Bt}{e:Ev}{p:Vl}{q1 q2:Bool}(hc:hZ t l out op i=some c)(hb:dG l (out.getD i 0)=b)(he:aDE t b.op=e)(hp:oQ l out i=p)(hq:fU p b.m e.okind e.ottl=(q1,q2)):
 hZ t l out op (i+1)=if q2=true then some (if(q1&&(b.op==op))=true then c+1 else c)else none:=by
 have a:uO t l out i=(q1,q2):=by unfold uO;rw[hb,he,hp,hq]
 unfold hZ;rw[hc,a,hb];rfl
theorem xD{t:List Ev}{l:List Bt}{out:List Nat}{op:Int}{i:Nat}:∀{n},i≤n→hZ t l out op i=none→hZ t l out op n=none
 |0,h,k=>by rw[Nat.le_zero.1 h]at k;exact k
 |n+1,h,k=>by
  by_cases q:i=n+1
  ·rw[←q];exact k
  ·unfold hZ;rw[xD (by omega) k];rfl
theorem aCy(W:World)(pt pl po:Option Addr)(ct cl co:Nat)(t:List Ev)(L:List (Bt×Value))(out:List Nat)(op:Int)(hT:LsAt evL 19 W pt t)(hL:LsAt btF 13 W pl L)(hO:LsAt sA 1 W po (tP out))(ht:t.length≤1000000000000)(hl:L.length≤1000000000000)(ho:out.length≤1000000000000)(hx:∀k ∈ out,k<L.length)(hk:aI0 t W L):
 Calls prog 52 #[.slice pt t.length ct,.slice pl L.length cl,.slice po out.length co,.int .i64 op] W fun r W'=>r= .returned (.tuple #[.int .i64 ((hZ t (L.map Prod.fst) out op out.length).getD 0),.bool (hZ t (L.map Prod.fst) out op out.length).isSome])∧Chg NoS W W':=by
 have HT:=cB hT;have HL:=cB hL;have HO:=cB hO;have HX:=cB hx;have HK:=cB hk;have HB:=cB (aJX ht hl ho);obtain⟨F,hF⟩:∃F:Nat→Option Int,∀n,hZ t (L.map Prod.fst) out op n=F n:=⟨_,fun _=>rfl⟩;have Z:=cB hF;rw[hF];clear hT hL hO hx hk ht hl hF;go_enter func52,ntmps52;go_wp2_with fail;go_loopw [10,11] (fun u k wr=>∃(i:Nat) (c:Int),i≤out.length∧u= .int .i64 c∧k= .int .i64 i∧Hid (Chg NoS W wr)∧Hid (F i=some c∧0≤c∧c≤i)) (fun _ k _=>out.length-(intOf k).toNat)
 case atStart=>exact⟨0,0,aI _,rfl,rfl,Chg.refl _ _,⟨by rw[←Z.out];rfl,by decide,by decide⟩⟩
 case round=>
  obtain⟨i,c,hi,rfl,rfl,HC,H⟩:=hrel;by_cases A:i<out.length
  ·obtain⟨k,hk⟩:=aJ8 (out[i]);have K:=HX.out k (hk▸bF A);obtain⟨go,rfl,c5,a9⟩:=(HO.out.chg0 HC.out) i (by rw[bL];exact A);have c1:wr.cell? ⟨go,i,none⟩=some (.int .i64 (k:Int)):=by
    have:=a9 0 (.int .i64 (k:Int)) (by rw[List.getElem_map,hk];rfl);rw[Nat.mul_one]at this;exact this
   obtain⟨gl,rfl,b8,S⟩:=(HL.out.chg0 HC.out) k K;obtain⟨q,hq⟩:=aJ8 (L[k]);have J:q ∈ L:=hq▸bF K;rw[hq]at S;have Q:dG (L.map Prod.fst) (out.getD i 0)=q.1:=by
    unfold dG;rw[aQ,aQ,aP A,Option.getD_some,hk,List.getElem?_map,aP K,hq];rfl
   obtain⟨b3,b1⟩:=HK.out.op q J;have G:=HK.out.src q J;obtain⟨ps,cs,a4,_⟩:=HK.out.sl q J;obtain⟨b,sv⟩:=q;dsimp only at Q b3 b1 G a4;subst a4;obtain⟨s,P⟩:∃n:Nat,b.op=n:=⟨b.op.toNat,by omega⟩;have D:s<t.length:=by omega
   obtain⟨gt,rfl,a8,X⟩:=(HT.out.chg0 HC.out) s D;obtain⟨e,he⟩:=aJ8 (t[s]);rw[he]at X;have b2:aDE t b.op=e:=by unfold aDE;rw[P,aZ,aQ,aP D,he];rfl
   obtain⟨p,hp⟩:=aJ8 (oQ (L.map Prod.fst) out i);have a6: -1≤p.seq∧p.seq≤4611686018427387904:=by
    rw[←hp];unfold oQ;split
    ·rename_i h1;have hm:out.getD (i+1) 0 ∈ out:=by rw[aQ,aP h1];exact bF _
     have h2:=HX.out _ hm;have h3:dG (L.map Prod.fst) (out.getD (i+1) 0)=L[out.getD (i+1) 0].1:=by
      unfold dG;rw[aQ,List.getElem?_map,aP h2];rfl
     rw[h3];exact HK.out.seq _ (bF h2)
    ·decide
   obtain⟨q1,q2,E⟩:∃q1 q2,fU p b.m e.okind e.ottl=(q1,q2):=⟨_,_,rfl⟩;have HS:=cB ((Z.out (i+1)).symm.trans (aAD (op:=op) ((Z.out i).trans H.out.1) Q b2 hp E));have U:=aA wr (.cells #[.int .i64 0,.int .i64 0,.int .i64 0,.int .i64 0,.int .i64 0,.int .i64 0,.int .i64 0,.int .i64 0,.int .i64 0,.int .i64 0,.int .i64 0,.int .i64 0,.slice none 0 0] 154);have T:Chg NoS wr (wr.alloc (.cells #[.int .i64 0,.int .i64 0,.int .i64 0,.int .i64 0,.int .i64 0,.int .i64 0,.int .i64 0,.int .i64 0,.int .i64 0,.int .i64 0,.int .i64 0,.int .i64 0,.slice none 0 0] 154)):=(Chg.refl _ _).alloc _;generalize a3:wr.alloc (.cells #[.int .i64 0,.int .i64 0,.int .i64 0,.int .i64 0,.int .i64 0,.int .i64 0,.int .i64 0,.int .i64 0,.int .i64 0,.int .i64 0,.int .i64 0,.int .i64 0,.slice none 0 0] 154)=W2 at U T;have c4:=cB a3;have c2:Hid (W2.heap[wr.heap.size]?=some (.cells (btF (zBt,.slice none 0 0)).toArray 154 (0,0))):=U;have b7:Hid (∀j u,(btF (b,.slice ps b.acc.length cs))[j]?=some u→wr.cell? ((⟨gl,k*13,none⟩:Addr).add j)=some u):=oY S;have c0:=cB T;have l:=cB (aJY X a8 G a6);have a5:=cB (aJW hp E);have d5:(k:Int)<(L.length:Int):=by omega
   have d1:decide ((k:Int)<0)=false:=by simp
   have c6:(i:Int)<(out.length:Int):=by omega
   have d4:decide ((i:Int)<0)=false:=by simp
   have d0:(s:Int)<(t.length:Int):=by omega
   have c9:decide ((s:Int)<0)=false:=by simp
   have a0:=cB P;have a:=cB (aJW A hi);clear hk K c5 a9 b8 S hq J Q b3 b1 G he b2 hp a6 E U T a3 X a8 P D hi A;go_wp2_with (first|rw[c4.out]|(refine cH rfl 154 _ _ rfl wr.heap.size 0 154 _ _ (btF (b,.slice ps b.acc.length cs)) rfl rfl c2.out (by kernel_rfl) (by simp[Value.oneCell']) (by simp) rfl ?_;intro O a7 b6 b0;have b9:=cB a7;have V:=cB b0;clear a7 b6 b0;refine cE ?_)|(refine cI rfl 154 _ rfl ⟨gl,k*13,none⟩ rfl (btF (b,.slice ps b.acc.length cs)) _ b7.out underlying154 rfl (by kernel_rfl) ?_));have a2:=cB ((c0.out.fresh b9.out (aE _)).drew);have Y:=cB (HC.out.trans a2.out (fun _ _ z=>z));have N:O.drew.cell? ⟨wr.heap.size,11,none⟩=some (.int .i64 (s:Int)):=by
    have:=cC (W:=O.drew) V.out 11 (.int .i64 b.op) rfl;rw[a0.out]at this;exact this
   have B:∀j u,(mgL b.m)[j]?=some u→O.drew.cell? ((⟨wr.heap.size,0,none⟩:Addr).add j)=some u:=eW (W:=O.drew) V.out 0 _ (fun j u hj=>by
    have c8:j<10:=(aF.1 hj).1;rcases j with _|_|_|_|_|_|_|_|_|_|j<;>first|exact hj|omega)
   have M:∀j u,([.int .i64 e.okind,.int .i64 e.olock,.int .i64 e.ottl]:List Value)[j]?=some u→O.drew.cell? ((⟨gt,s*19+12,none⟩:Addr).add j)=some u:=oY fun j u hj=>by
    refine(aW (a2.out.block gt l.out.2.1 (fun z=>z))).trans ?_;have d6:j<3:=(aF.1 hj).1;rw[show s*19+12+j=s*19+(12+j) by omega];refine l.out.1 (12+j) u ?_;rcases j with _|_|_|j<;>first|exact hj|omega
   have HA:=cB (aEX O.drew (some ⟨gl,0,none⟩) (some ⟨go,0,none⟩) cl co L out i (HL.out.chg0 Y.out) (HO.out.chg0 Y.out) HB.out.2.1 HB.out.2.2 a.out.1 HX.out);rw[a5.out.1]at HA;have R:=cB fun x=>aBQ x p b.m e.okind e.olock e.ottl l.out.2.2.1.1 l.out.2.2.1.2 l.out.2.2.2.1 l.out.2.2.2.2;rw[a5.out.2]at R;have c3:=cB (show wr.heap.size<O.heap.size∧gt<wr.heap.size from⟨(Array.getElem?_eq_some_iff.1 V.out).1,l.out.2.1⟩);obtain⟨m,hm⟩:=aJ8 (b.m);rw[hm]at B R;clear hm;refine cB ?_;go_wp2_with fail;refine mG [(0,0),(0,1),(0,2),(0,4),(1,5),(0,6),(0,7),(1,8),(0,9),(0,10),(1,11),(2,3),(2,12),(0,13),(0,14),(0,15),(0,16),(0,17)] [] (fun y=>y.cell? ⟨wr.heap.size,11,none⟩=some (.int .i64 (s:Int))∧(∀j u,(mgL m)[j]?=some u→y.cell? ((⟨wr.heap.size,0,none⟩:Addr).add j)=some u)∧∀j u,([.int .i64 e.okind,.int .i64 e.olock,.int .i64 e.ottl]:List Value)[j]?=some u→y.cell? ((⟨gt,s*19+12,none⟩:Addr).add j)=some u) (by kernel_rfl) (by kernel_rfl) (fun _ _ d _ _ h=>by cases d<;>exact h) ?_ ?_
   ·exact⟨N,B,M⟩
   simp only[iY,mQ,cA,bZ];iterate 4 (apply sB rfl rfl;·(intro x h;(try have h:=h rfl);(try dsimp only at h);go_simp;with_reducible rfl))
   try simp only[pA]
   refine cM (v:=mgV m) rfl (fun x hx=>cG 66 _ rfl ⟨wr.heap.size,0,none⟩ rfl (mgL m) _ hx.2.1 underlying66 rfl (by kernel_rfl)) ?_;(try simp only[pA]);iterate 5 (apply sB rfl rfl;·(intro x h;(try have h:=h rfl);(try dsimp only at h);go_simp;with_reducible rfl))
   try simp only[pA]
   refine cM (v:=.agg #[.int .i64 e.okind,.int .i64 e.olock,.int .i64 e.ottl]) rfl (fun x hx=>cG 68 _ rfl ⟨gt,s*19+12,none⟩ rfl [.int .i64 e.okind,.int .i64 e.olock,.int .i64 e.ottl] _ hx.2.2 underlying68 rfl (by kernel_rfl)) ?_;(try simp only[pA]);refine dC rfl (fun C hC=>?_);go_simp;refine HA.out.mono ?_;rintro r5 W5 ⟨rfl,w⟩;have f:=c3.out;have d2:=cB w;refine hC _ _ ⟨(aW (w.block _ f.1 (fun z=>z))).trans N,fun j u hj=>(aW (by rw[pB];exact w.block _ f.1 (fun z=>z))).trans (B j u hj),fun j u hj=>(aW (by rw[pB];exact w.block _ (Nat.lt_trans f.2 f.1) (fun z=>z))).trans (M j u hj)⟩ ?_;clear hC C;(try simp only[pA]);refine dC rfl (fun C hC=>?_);go_simp;refine(R.out W5).mono ?_;rintro r6 W6 ⟨rfl,b4⟩;have g:=w.trans b4 (fun _ _ z=>z);have b5:=(aW (g.block _ f.1 (fun z=>z))).trans N;refine hC _ _ ⟨b5,fun j u hj=>(aW (by rw[pB];exact g.block _ f.1 (fun z=>z))).trans (B j u hj),fun j u hj=>(aW (by rw[pB];exact g.block _ (Nat.lt_trans f.2 f.1) (fun z=>z))).trans (M j u hj)⟩ ?_;clear hC C;have o:=cB (Y.out.trans g (fun _ _ z=>z));clear w b4 g f N B M;(try simp only[pA]);iterate 5 (apply sB rfl rfl;·(intro x h;(try have h:=h rfl);(try dsimp only at h);go_simp;with_reducible rfl))
   refine cD ?_;try simp only[pA]
   rw[a0.out]at HS;cases q2 with
   |false=>
    have I:=cB (HS.out.trans (if_neg (by decide)));have c7:=cB (show F out.length=none from by rw[←Z.out];exact xD (i:=i+1) a.out.1 ((Z.out _).trans I.out));go_wp2_with fail
    go_ret2
    exact⟨by rw[c7.out]<;>rfl,o.out⟩
   |true=>
    cases q1 with
    |false=>
     have I:=cB (HS.out.trans (if_pos rfl));go_wp2_with fail;go_roundw
     case rel=>exact⟨i+1,c,a.out.1,rfl,by go_num,o.out,I.out.trans (by rw[Bool.false_and]<;>rfl),H.out.2.1,by have:=H.out.2.2;omega⟩
     case measure=>have:=a.out.1;simp[intOf]<;>omega
    |true=>
     cases bo:((s:Int)==op)with
     |false=>
      have I:=cB (HS.out.trans ((if_pos rfl).trans (by rw[bo]<;>rfl:_=some c)));go_wp2_with fail;go_roundw
      case rel=>exact⟨i+1,c,a.out.1,rfl,by go_num,o.out,I.out,H.out.2.1,by have:=H.out.2.2;omega⟩
      case measure=>have:=a.out.1;simp[intOf]<;>omega
     |true=>
      have I:=cB (HS.out.trans ((if_pos rfl).trans (by rw[bo]<;>rfl:_=some (c+1))));have d3:IntKind.i64.wrap (c+1)=c+1:=dZ (by have:=H.out.2.1;omega) (by have:=H.out.2.2;have:=a.out.1;have:=HB.out.2.2;omega);go_wp2_with fail;go_roundw
      case rel=>exact⟨i+1,c+1,a.out.1,rfl,by go_num,o.out,I.out,by have:=H.out.2.1;omega,by have:=H.out.2.2;omega⟩
      case measure=>have:=a.out.1;simp[intOf]<;>omega
  ·have c6:¬(i:Int)<(out.length:Int):=by omega
   have a1:i=out.length:=by omega
   have I:=cB (show F out.length=some c from a1▸H.out.1);clear a1;go_wp2_with fail
   go_ret2
   exact⟨by rw[I.out]<;>rfl,HC.out⟩
end Go.Proofs.YtbbdgokdfhdpiaaGreatDoor
