/- A part of the proof: OneB, OneE, OneS. -/
import Derived.Test.YtbbdgokdfhdpiaaGreatDoorD3
import Derived.Test.YtbbdgokdfhdpiaaGreatDoorD28
namespace Go.Proofs.YtbbdgokdfhdpiaaGreatDoor
set_option linter.all false
set_option maxRecDepth 100000
set_option maxHeartbeats 40000000
open Go.Proofs.Tryz Go.RowKit
structure BalAt(n0:Nat)(W:World)(v:Value)(L:List (Bt×Value)):Prop where
 own:W.ownsRow n0 154 13 v L.length (cQ btF L)
 acc:∀q ∈ L,W.ownsRow n0 3 1 q.2 q.1.acc.length (cQ sA q.1.acc)
 ap:∀i j (hi:i<L.length) (hj:j<L.length),i≠j→∀b,L[i].2.ownBlock=some b→L[j].2.ownBlock≠some b
 ao:∀q ∈ L,∀b,q.2.ownBlock=some b→v.ownBlock≠some b
theorem BalAt.nil(n0:Nat)(W:World):BalAt n0 W (.slice none 0 0) []:=
 ⟨World.ownsRow_nil _ _ _ _,(fun q hq=>by cases hq),(fun i j hi=>absurd hi (Nat.not_lt_zero _)),(fun q hq=>by cases hq)⟩
theorem BalAt.chg0{n0:Nat}{W W':World}{v:Value}{L:List (Bt×Value)}(h:BalAt n0 W v L)(hc:Chg NoS W W'):BalAt n0 W' v L:=
 ⟨hc.row h.own (fun _ _ z=>z),fun q hq=>hc.row (h.acc q hq) (fun _ _ z=>z),h.ap,h.ao⟩
theorem BalAt.push{n0:Nat}{W W1 W2:World}{v v2:Value}{L:List (Bt×Value)}{b:Bt}(h:BalAt n0 W v L)(hb:b.acc=[])(h01:Chg NoS W W1)(h12:W1.grownBy W2 v.ownBlock)
 (ho:W2.ownsRow n0 154 13 v2 (L.length+1) (cQ btF L++btF (b,.slice none 0 0))) (hv:v2.ownBlock=v.ownBlock∨v2.ownBlock=some W1.heap.size):BalAt n0 W2 v2 (L++[(b,.slice none 0 0)]):=by
 have d:=h.chg0 h01;have c:∀x,(Value.slice none 0 0).ownBlock≠some x:=fun x=>by simp[Value.ownBlock]
 have l:∀i (hi:i<(L++[(b,Value.slice none 0 0)]).length) (x:Nat),(L++[(b,Value.slice none 0 0)])[i].2.ownBlock=some x→∃h:i<L.length,L[i].2.ownBlock=some x:=fun i hi x e=>by
  by_cases q:i<L.length
  ·rw[List.getElem_append_left q]at e;exact⟨q,e⟩
  ·rw[List.getElem_append_right (by omega)]at e;simp at hi;have:i-L.length=0:=by omega
   simp[this]at e;exact absurd e (c x)
 refine⟨by rw[aD,jQ];exact ho,fun q a=>?_,fun i j hi hj hij x e e'=>?_,fun q a x e=>?_⟩
 ·rcases aO.1 a with a|a
  ·exact(Chg.of_grown h12).row (d.acc q a) (fun g e z=>d.ao q a g e z.symm)
  ·rw[List.mem_singleton.1 a];dsimp only;rw[hb];exact World.ownsRow_nil _ _ _ _
 ·obtain⟨k,m⟩:=l i hi x e;obtain⟨f,n⟩:=l j hj x e';exact h.ap i j k f hij x m n
 ·rcases aO.1 a with a|a
  ·rcases hv with hv|hv
   ·rw[hv];exact h.ao q a x e
   ·rw[hv];intro z;have:=((d.acc q a).lt x e).2;cases z;omega
  ·rw[List.mem_singleton.1 a]at e;exact absurd e (c x)
theorem aCT{W:World}{base n g cap:Nat}{e:TypeId}{size:Nat}{xs:List Value}(h:W.ownsRow base e size (.slice (some ⟨g,0,none⟩) n cap) n xs)(i:Nat)(x:Value):(W.setCell ⟨g,i,none⟩ x).ownsRow base e size (.slice (some ⟨g,0,none⟩) n cap) n (xs.set i x):=by
 obtain⟨d,h|⟨p,b,a,c,m,o,k,f,l,j⟩⟩:=h
 ·cases h.1
 ·cases c;exact⟨by rw[bP];exact d,Or.inr ⟨g,cap,a.setIfInBounds i x,rfl,m,cU o i x,k,f,by simp[l],by rw[Array.toList_setIfInBounds,List.take_set,j]⟩⟩
theorem yA(v:Value):∀(L:List (Bt×Value)) (k:Nat) (hk:k<L.length) (acc:List Int),cQ btF (L.set k ({L[k].1 with acc:=acc},v))=(cQ btF L).set (k*13+12) v
 |x::L,0,_,acc=>rfl
 |x::L,k+1,hk,acc=>by
  have ih:=yA v L k (by simpa using hk) acc;have h1:cQ btF (x::L)=btF x++cQ btF L:=by simp[cQ]
  rw[h1,List.set_append_right _ _ (by simp;omega)];have hk':k<L.length:=by simpa using hk
  show btF x++cQ btF (L.set k ({L[k].1 with acc:=acc},v))=_;rw[ih]
  congr 2
  simp;omega
theorem tW(W:World)(e:Ev):
 Calls prog 55 #[evV e] W fun r W'=>r= .returned (.bool (nK e))∧Chg NoS W W':=by
 have f:=aA W (.cells (evL e).toArray 70);have m:Chg NoS W (W.alloc (.cells (evL e).toArray 70)):=(Chg.refl _ _).alloc _;obtain⟨l,w,⟨u,x,y,p,t,q,⟨v,s,i,b⟩⟩,k,h,c,a,g,j,d⟩:=e;generalize n:W.alloc (.cells (evL ⟨l,w,⟨u,x,y,p,t,q,⟨v,s,i,b⟩⟩,k,h,c,a,g,j,d⟩).toArray 70)=W1 at f m;have o:Hid (W.alloc (.cells #[.int .i64 l,.int .i64 w,.int .i64 u,.int .i64 x,.int .i64 y,.int .i64 p,.int .i64 t,.int .i64 q,.int .i64 v,.int .i64 s,.int .i64 i,.int .i64 b,.int .i64 k,.int .i64 h,.int .i64 c,.int .i64 a,.int .i64 g,.int .i64 j,.int .i64 d] 70)=W1):=n;have C:W1.cell? ⟨W.heap.size,0,none⟩=some (.int .i64 l):=cC f 0 _ rfl;have B:W1.cell? ⟨W.heap.size,15,none⟩=some (.int .i64 a):=cC f 15 _ rfl;have A:=cB m;have z:Hid (nK ⟨l,w,⟨u,x,y,p,t,q,⟨v,s,i,b⟩⟩,k,h,c,a,g,j,d⟩=(l==3&&decide (a≤4))):=rfl;generalize nK ⟨l,w,⟨u,x,y,p,t,q,⟨v,s,i,b⟩⟩,k,h,c,a,g,j,d⟩=D at z⊢;clear f n m;go_enter func55,ntmps55;cases h3:(l==3)
 ·go_wp2_with (first|rw[o.out]);go_ret;exact⟨by rw[z.out,h3]<;>rfl,A.out⟩
 ·go_wp2_with (first|rw[o.out]);go_ret;exact⟨by rw[z.out,h3]<;>simp,A.out⟩
theorem yY{a b:Int}(h:¬a=b):(a==b)=false:=by simpa using h
theorem aFd(e:Ev)(n:Int):kN e n=(bif e.okind==4 then n==0 else bif e.okind==2 then(e.res !=1||decide (1≤n))else bif e.res==1 then n==1 else bif (e.res==2)then n==0 else bif (e.res==3)then n==0 else decide (n≤1)):=by
 unfold kN;by_cases c:e.okind=4
 ·simp[c]
 ·by_cases a:e.okind=2
  ·simp[a]
  ·rw[if_neg c,if_neg a,yY c,yY a];simp only[cond_false];by_cases f:e.res=1
   ·simp[f]
   ·rw[if_neg f,yY f];simp only[cond_false];by_cases b:e.res=2
    ·simp[b]
    ·by_cases d:e.res=3
     ·simp[d]
     ·rw[if_neg (fun z=>z.elim b d),yY b,yY d]<;>rfl
theorem aDf(W:World)(e:Ev)(n:Int):
 Calls prog 54 #[evV e,.int .i64 n] W fun r W'=>r= .returned (.bool (kN e n))∧Chg NoS W W':=by
 have f:=aA W (.cells (evL e).toArray 70);have h:Chg NoS W (W.alloc (.cells (evL e).toArray 70)):=(Chg.refl _ _).alloc _;have d:=cB (aFd e n);generalize kN e n=D at d⊢;obtain⟨s,z,⟨x,A,B,t,w,u,⟨y,v,p,i⟩⟩,c,o,k,a,m,q,l⟩:=e;dsimp only at d;generalize j:W.alloc (.cells (evL ⟨s,z,⟨x,A,B,t,w,u,⟨y,v,p,i⟩⟩,c,o,k,a,m,q,l⟩).toArray 70)=W1 at f h;have b:Hid (W.alloc (.cells #[.int .i64 s,.int .i64 z,.int .i64 x,.int .i64 A,.int .i64 B,.int .i64 t,.int .i64 w,.int .i64 u,.int .i64 y,.int .i64 v,.int .i64 p,.int .i64 i,.int .i64 c,.int .i64 o,.int .i64 k,.int .i64 a,.int .i64 m,.int .i64 q,.int .i64 l] 70)=W1):=j;have C:W1.cell? ⟨W.heap.size,12,none⟩=some (.int .i64 c):=cC f 12 _ rfl;have E:W1.cell? ⟨W.heap.size,15,none⟩=some (.int .i64 a):=cC f 15 _ rfl;have g:=cB h;clear f j h;go_enter func54,ntmps54;cases h4:(c==4)
 ·cases h2:(c==2)
  ·cases r1:(a==1)
   ·cases r2:(a==2)
    ·cases r3:(a==3)
     ·go_wp2_with (first|rw[b.out]);go_ret;exact⟨by rw[d.out,h4,h2,r1,r2,r3]<;>rfl,g.out⟩
     ·go_wp2_with (first|rw[b.out]);go_ret;exact⟨by rw[d.out,h4,h2,r1,r2,r3]<;>rfl,g.out⟩
    ·go_wp2_with (first|rw[b.out]);go_ret;exact⟨by rw[d.out,h4,h2,r1,r2]<;>rfl,g.out⟩
   ·go_wp2_with (first|rw[b.out]);go_ret;exact⟨by rw[d.out,h4,h2,r1]<;>rfl,g.out⟩
  ·cases r1:(a !=1)
   ·go_wp2_with (first|rw[b.out]);go_ret;exact⟨by rw[d.out,h4,h2,r1]<;>simp,g.out⟩
   ·go_wp2_with (first|rw[b.out]);go_ret;exact⟨by rw[d.out,h4,h2,r1]<;>simp,g.out⟩
 ·go_wp2_with (first|rw[b.out]);go_ret;exact⟨by rw[d.out,h4]<;>rfl,g.out⟩
theorem aF9{t:List Ev}{a n i:Nat}{b e:Ev}(hb:t.getD a zEv=b)(he:t.getD i zEv=e):jI t a (n+1) i=if e.kind=3∧e.node=b.node then e else if e.kind=4∧e.node= -1-b.node then{zEv with okind:=b.okind,olock:=b.olock,ottl:=b.ottl}else jI t a n (i+1):=by
 subst hb he;rfl
theorem aFv{t:List Ev}{a i:Nat}{b:Ev}(hb:t.getD a zEv=b):jI t a 0 i={zEv with okind:=b.okind,olock:=b.olock,ottl:=b.ottl}:=by
 subst hb;rfl
theorem aGZ(W:World)(p:Option Addr)(cap:Nat)(t:List Ev)(a:Nat)(h:LsAt evL 19 W p t)(ht:t.length≤1000000000000)(ha:a<t.length)(hn0: -1000≤(t.getD a zEv).node∧(t.getD a zEv).node≤1000000):
 Calls prog 53 #[.slice p t.length cap,.int .i64 (a:Int)] W fun r W'=>r= .returned (evV (jI t a (t.length-(a+1)) (a+1)))∧Chg NoS W W':=by
 have G:=aA W (.cells #[.int .i64 0,.int .i64 0,.int .i64 0,.int .i64 0,.int .i64 0,.int .i64 0,.int .i64 0,.int .i64 0,.int .i64 0,.int .i64 0,.int .i64 0,.int .i64 0,.int .i64 0,.int .i64 0,.int .i64 0,.int .i64 0,.int .i64 0,.int .i64 0,.int .i64 0] 70);have H:Chg NoS W (W.alloc (.cells #[.int .i64 0,.int .i64 0,.int .i64 0,.int .i64 0,.int .i64 0,.int .i64 0,.int .i64 0,.int .i64 0,.int .i64 0,.int .i64 0,.int .i64 0,.int .i64 0,.int .i64 0,.int .i64 0,.int .i64 0,.int .i64 0,.int .i64 0,.int .i64 0,.int .i64 0] 70)):=(Chg.refl _ _).alloc _;generalize T:W.alloc (.cells #[.int .i64 0,.int .i64 0,.int .i64 0,.int .i64 0,.int .i64 0,.int .i64 0,.int .i64 0,.int .i64 0,.int .i64 0,.int .i64 0,.int .i64 0,.int .i64 0,.int .i64 0,.int .i64 0,.int .i64 0,.int .i64 0,.int .i64 0,.int .i64 0,.int .i64 0] 70)=W1 at G H;have h1:=h.chg0 H;have a2:=cB T;have S:Hid (W1.heap[W.heap.size]?=some (.cells (evL zEv).toArray 70 (0,0))):=G;have HL:=cB h1;have HC:=cB H;obtain⟨g,rfl,hg,F⟩:=h1 a ha;obtain⟨b,hb⟩:=aJ8 (t[a]);have M:Hid (t.getD a zEv=b):=by show t.getD a zEv=b;rw[aQ,aP ha,hb];rfl
 have N:=hn0;rw[M.out]at N;rw[hb]at F;have wm:IntKind.i64.wrap (-1-b.node)= -1-b.node:=dZ (by omega) (by omega);have a1:W1.cell? ⟨g,a*19+1,none⟩=some (.int .i64 b.node):=F 1 _ rfl;have A:Hid (∀j u,([.int .i64 b.okind,.int .i64 b.olock,.int .i64 b.ottl]:List Value)[j]?=some u→W1.cell? ((⟨g,a*19+12,none⟩:Addr).add j)=some u):=fun j u hj=>by
  have b1:j<3:=(aF.1 hj).1;have ea:(⟨g,a*19+12,none⟩:Addr).add j=⟨g,a*19+(12+j),none⟩:=by unfold Addr.add;split<;>simp_all<;>omega
  rw[ea];refine F (12+j) u ?_;rcases j with _|_|_|j
  ·exact hj
  ·exact hj
  ·exact hj
  ·omega
 have a6:(a:Int)<(t.length:Int):=by omega
 have b0:decide ((a:Int)<0)=false:=by simp
 have a9:IntKind.i64.wrap ((a:Int)+1)=((a+1:Nat):Int):=by rw[dZ (by omega) (by omega)];omega
 obtain⟨bn,B⟩:=aJ8 (b.node);obtain⟨E,K⟩:=aJ8 (b.okind);obtain⟨D,J⟩:=aJ8 (b.olock);obtain⟨C,L⟩:=aJ8 (b.ottl);rw[K,J,L]at A;rw[B]at wm a1;have P:=cB (aJX K J L);have a8:=cB N;have a3:=cB ((Array.getElem?_eq_some_iff.1 G).1);have HG:=cB hg;have a5:=cB ha;have O:=cB B;clear h h1 G T H F hb N K J L B;go_enter func53,ntmps53;go_wp2_with (first|rw[a2.out]);go_loopw [5] (fun k wr=>∃i:Nat,a+1≤i∧i≤t.length∧k= .int .i64 (i:Int)∧Hid (Chg NoS W1 wr)∧Hid (jI t a (t.length-(a+1)) (a+1)=jI t a (t.length-i) i)) (fun k _=>t.length-(intOf k).toNat)
 case atStart=>exact⟨a+1,aE _,a5.out,rfl,Chg.refl _ _,rfl⟩
 case round=>
  obtain⟨i,U,n,rfl,l,Q⟩:=hrel;have S:Hid (wr.heap[W.heap.size]?=some (.cells (evL zEv).toArray 70 (0,0))):=(l.out.block _ a3.out (fun z=>z)).trans S.out;have HL:=cB (HL.out.chg0 l.out);have a1:wr.cell? ⟨g,a*19+1,none⟩=some (.int .i64 bn):=(aW (l.out.block g HG.out (fun z=>z))).trans a1;have A:Hid (∀j u,([.int .i64 E,.int .i64 D,.int .i64 C]:List Value)[j]?=some u→wr.cell? ((⟨g,a*19+12,none⟩:Addr).add j)=some u):=fun j u hj=>(aW (by rw[show((⟨g,a*19+12,none⟩:Addr).add j).block=g by unfold Addr.add;split<;>rfl];exact l.out.block g HG.out (fun z=>z))).trans (A.out j u hj);have HI:=cB U;have a7:=cB n;clear U;by_cases V:i<t.length
  ·obtain⟨g2,e2,_,c⟩:=HL.out i V;cases e2;obtain⟨e,he⟩:=aJ8 (t[i]);rw[he]at c;have Y:t.getD i zEv=e:=by rw[aQ,aP V,he];rfl
   have I:=cB (show jI t a (t.length-i) i=if e.kind=3∧e.node=bn then e else if e.kind=4∧e.node= -1-bn then{zEv with okind:=b.okind,olock:=b.olock,ottl:=b.ottl}else jI t a (t.length-(i+1)) (i+1)from by rw[show t.length-i=(t.length-(i+1))+1 by omega,←O.out];exact aF9 M.out Y);have a4:(i:Int)<(t.length:Int):=by omega
   have c0:wr.cell? ⟨g,i*19,none⟩=some (.int .i64 e.kind):=c 0 _ rfl;have c1:wr.cell? ⟨g,i*19+1,none⟩=some (.int .i64 e.node):=c 1 _ rfl;have a0:Hid (∀j u,(evL e)[j]?=some u→wr.cell? ((⟨g,i*19,none⟩:Addr).add j)=some u):=fun j u hj=>by
    have ea:(⟨g,i*19,none⟩:Addr).add j=⟨g,i*19+j,none⟩:=by unfold Addr.add;split<;>simp_all
    rw[ea];exact c j u hj
   obtain⟨ek,X⟩:=aJ8 (e.kind);obtain⟨R,Z⟩:=aJ8 (e.node);rw[X]at c0 I;rw[Z]at c1 I;clear c he Y X Z;by_cases k3:ek=3
   ·subst k3;by_cases q:R=bn
    ·have bq:(R==bn)=true:=by simp[q]
     have o:=cB (I.out.trans (if_pos ⟨rfl,q⟩));clear q I n;go_wp2_with fail;refine dJ [0,0,0,0,1,0,0,0,0,0,0,1,0,0,0,0,1,0,0] (by kernel_rfl) (fun _ _ _ _=>rfl) ?_;simp only[cL,cK];iterate 19 ((try simp only[pA]);first|(apply sB rfl rfl;·(intro x h;(try cases h rfl);go_simp;with_reducible rfl))|apply cP rfl|apply cN rfl)
     refine cD ?_;try simp only[pA]
     go_wp2_with (first|(refine cH rfl 70 _ _ rfl W.heap.size 0 70 _ _ (evL e) rfl rfl S.out (by kernel_rfl) (by simp[Value.oneCell']) (by simp) rfl ?_;intro W3 d s f;have v:=cB d;have w:=cB f;clear d s f;refine cE ?_)|(refine cI rfl 70 _ rfl ⟨g,i*19,none⟩ rfl (evL e) _ a0.out underlying70 rfl (by kernel_rfl) ?_));refine cB ?_;go_wp2_with fail;rw[Q.out,o.out];exact bodyPost_ret (oV _ results53 _ W.heap.size e _ rfl w.out) rfl ⟨rfl,((HC.out.trans l.out (fun _ _ z=>z)).fresh ((Chg.refl (fun y=>y=W.heap.size) wr).drew.trans v.out (fun _ _ z=>z)) (aE _))⟩
    ·have bq:(R==bn)=false:=by simp[q]
     have o:=cB (I.out.trans ((if_neg (fun z=>q z.2)).trans (if_neg (fun z=>absurd z.1 (by decide)))));clear q I n;go_wp2_with fail;refine dJ [0,0,0,0,1,0,0,0,0,0,0,1,0,0,0,0,1,0,0] (by kernel_rfl) (fun _ _ _ _=>rfl) ?_;simp only[cL,cK];iterate 19 ((try simp only[pA]);first|(apply sB rfl rfl;·(intro x h;(try cases h rfl);go_simp;with_reducible rfl))|apply cP rfl|apply cN rfl)
     refine cD ?_;try simp only[pA]
     go_wp2_with fail;refine dJ [0,0,0,0,1,0,0,0,0,0,0,1,0,0,0,0,1,0,0,0] (by kernel_rfl) (fun _ _ _ _=>rfl) ?_;simp only[cL,cK];iterate 20 ((try simp only[pA]);first|(apply sB rfl rfl;·(intro x h;(try cases h rfl);go_simp;with_reducible rfl))|apply cP rfl|apply cN rfl)
     refine cD ?_;try simp only[pA]
     go_wp2_with fail;go_roundw
     case rel=>exact⟨i+1,by have:=HI.out;omega,by omega,by go_num,(by first|exact l.out|exact l.out.drew|exact l.out.drew.drew),Q.out.trans o.out⟩
     case measure=>simp[intOf]<;>omega
   ·have b3:(ek==3)=false:=by simp[k3]
    have m:=cB (I.out.trans (if_neg (fun z=>k3 z.1)));clear k3 I;by_cases k4:ek=4
    ·subst k4;by_cases q:R= -1-bn
     ·have bq:(R== -1-bn)=true:=by simp[q]
      have o:=cB ((m.out.trans (if_pos ⟨rfl,q⟩)).trans (show({zEv with okind:=b.okind,olock:=b.olock,ottl:=b.ottl}:Ev)={zEv with okind:=E,olock:=D,ottl:=C}from by rw[P.out.1,P.out.2.1,P.out.2.2]));clear q m n;go_wp2_with fail;refine dJ [0,0,0,0,1,0,0,0,0,0,0,1,0,0,0,0,1,0,0] (by kernel_rfl) (fun _ _ _ _=>rfl) ?_;simp only[cL,cK];iterate 19 ((try simp only[pA]);first|(apply sB rfl rfl;·(intro x h;(try cases h rfl);go_simp;with_reducible rfl))|apply cP rfl|apply cN rfl)
      refine cD ?_;try simp only[pA]
      go_wp2_with fail;refine dJ [0,0,0,0,1,0,0,0,0,0,0,1,0,0,0,0,1,0,0,0] (by kernel_rfl) (fun _ _ _ _=>rfl) ?_;simp only[cL,cK];iterate 20 ((try simp only[pA]);first|(apply sB rfl rfl;·(intro x h;(try cases h rfl);go_simp;with_reducible rfl))|apply cP rfl|apply cN rfl)
      refine cD ?_;try simp only[pA]
      go_wp2_with (first|(refine cH rfl 70 _ _ rfl W.heap.size 0 70 _ _ (evL {zEv with okind:=E,olock:=D,ottl:=C}) rfl rfl S.out (by kernel_rfl) (by simp[Value.oneCell']) (by simp) rfl ?_;intro W3 d s f;have v:=cB d;have w:=cB f;clear d s f;refine cE ?_)|(refine cI rfl 68 _ rfl ⟨g,a*19+12,none⟩ rfl ([.int .i64 E,.int .i64 D,.int .i64 C]) _ A.out underlying68 rfl (by kernel_rfl) ?_));refine cB ?_;go_wp2_with fail;rw[Q.out,o.out];exact bodyPost_ret (oV _ results53 _ W.heap.size {zEv with okind:=E,olock:=D,ottl:=C} _ rfl w.out) rfl ⟨rfl,((HC.out.trans l.out (fun _ _ z=>z)).fresh ((Chg.refl (fun y=>y=W.heap.size) wr).drew.drew.trans v.out (fun _ _ z=>z)) (aE _))⟩
     ·have bq:(R== -1-bn)=false:=by simp[q]
      have o:=cB (m.out.trans (if_neg (fun z=>q z.2)));clear q m n;go_wp2_with fail;refine dJ [0,0,0,0,1,0,0,0,0,0,0,1,0,0,0,0,1,0,0] (by kernel_rfl) (fun _ _ _ _=>rfl) ?_;simp only[cL,cK];iterate 19 ((try simp only[pA]);first|(apply sB rfl rfl;·(intro x h;(try cases h rfl);go_simp;with_reducible rfl))|apply cP rfl|apply cN rfl)
      refine cD ?_;try simp only[pA]
      go_wp2_with fail;refine dJ [0,0,0,0,1,0,0,0,0,0,0,1,0,0,0,0,1,0,0,0] (by kernel_rfl) (fun _ _ _ _=>rfl) ?_;simp only[cL,cK];iterate 20 ((try simp only[pA]);first|(apply sB rfl rfl;·(intro x h;(try cases h rfl);go_simp;with_reducible rfl))|apply cP rfl|apply cN rfl)
      refine cD ?_;try simp only[pA]
      go_wp2_with fail;go_roundw
      case rel=>exact⟨i+1,by have:=HI.out;omega,by omega,by go_num,(by first|exact l.out|exact l.out.drew|exact l.out.drew.drew),Q.out.trans o.out⟩
      case measure=>simp[intOf]<;>omega
    ·have b4:(ek==4)=false:=by simp[k4]
     have o:=cB (m.out.trans (if_neg (fun z=>k4 z.1)));clear k4 m n;go_wp2_with fail;refine dJ [0,0,0,0,1,0,0,0,0,0,0,1,0,0,0,0,1,0,0] (by kernel_rfl) (fun _ _ _ _=>rfl) ?_;simp only[cL,cK];iterate 19 ((try simp only[pA]);first|(apply sB rfl rfl;·(intro x h;(try cases h rfl);go_simp;with_reducible rfl))|apply cP rfl|apply cN rfl)
     refine cD ?_;try simp only[pA]
     go_wp2_with fail;refine dJ [0,0,0,0,1,0,0,0,0,0,0,1,0,0,0,0,1,0,0,0] (by kernel_rfl) (fun _ _ _ _=>rfl) ?_;simp only[cL,cK];iterate 20 ((try simp only[pA]);first|(apply sB rfl rfl;·(intro x h;(try cases h rfl);go_simp;with_reducible rfl))|apply cP rfl|apply cN rfl)
     refine cD ?_;try simp only[pA]
     go_wp2_with fail;go_roundw
     case rel=>exact⟨i+1,by have:=HI.out;omega,by omega,by go_num,(by first|exact l.out|exact l.out.drew|exact l.out.drew.drew),Q.out.trans o.out⟩
     case measure=>simp[intOf]<;>omega
  ·have a4:¬(i:Int)<(t.length:Int):=by omega
   have o:=cB (show jI t a (t.length-i) i={zEv with okind:=E,olock:=D,ottl:=C}from by rw[show t.length-i=0 by omega,←P.out.1,←P.out.2.1,←P.out.2.2];exact aFv M.out);go_wp2_with (first|(refine cH rfl 70 _ _ rfl W.heap.size 0 70 _ _ (evL {zEv with okind:=E,olock:=D,ottl:=C}) rfl rfl S.out (by kernel_rfl) (by simp[Value.oneCell']) (by simp) rfl ?_;intro W3 d s f;have v:=cB d;have w:=cB f;clear d s f;refine cE ?_)|(refine cI rfl 68 _ rfl ⟨g,a*19+12,none⟩ rfl ([.int .i64 E,.int .i64 D,.int .i64 C]) _ A.out underlying68 rfl (by kernel_rfl) ?_));refine cB ?_;go_wp2_with fail;rw[Q.out,o.out];exact bodyPost_ret (oV _ results53 _ W.heap.size {zEv with okind:=E,olock:=D,ottl:=C} _ rfl w.out) rfl ⟨rfl,((HC.out.trans l.out (fun _ _ z=>z)).fresh ((Chg.refl (fun y=>y=W.heap.size) wr).trans v.out (fun _ _ z=>z)) (aE _))⟩
theorem aCX{t:List Ev}{e x:Ev}{l:Int}{i:Nat}(hx:t.getD i zEv=x):kR t e l (i+1)=(kR t e l i&& !(nK x&&x.olock==l&&decide (e.bal≤x.bal))):=by
 subst hx;rfl
theorem aAU{t:List Ev}{e:Ev}{l:Int}{i:Nat}:∀{n},i≤n→kR t e l i=false→kR t e l n=false
 |0,h,k=>by rw[Nat.le_zero.1 h]at k;exact k
 |n+1,h,k=>by
  by_cases q:i=n+1
  ·rw[←q];exact k
  ·unfold kR;rw[aAU (by omega) k,Bool.false_and]
theorem aC4(W:World)(p:Option Addr)(cap:Nat)(t:List Ev)(a:Nat)(e:Ev)(l:Int)(h:LsAt evL 19 W p t)(ht:t.length≤1000000000000)(ha:a≤t.length):
 Calls prog 57 #[.slice p t.length cap,.int .i64 (a:Int),evV e,.int .i64 l] W fun r W'=>r= .returned (.bool (kR t e l a))∧Chg NoS W W':=by
 have v:=aA W (.cells (evL e).toArray 70);have w:Chg NoS W (W.alloc (.cells (evL e).toArray 70)):=(Chg.refl _ _).alloc _;have HD:Hid (∃f:Nat→Bool,(fun i=>kR t e l i)=f∧∀i x,t.getD i zEv=x→f (i+1)=(f i&& !(nK x&&x.olock==l&&decide (e.bal≤x.bal)))):=⟨_,rfl,fun i x C=>aCX C⟩;have M:Hid (∀i n,i≤n→kR t e l i=false→kR t e l n=false):=fun i n h k=>aAU h k;obtain⟨f,hf,hs⟩:=HD.out;have X:=cB (congrFun hf a);have HS:=cB hs;have a4:Hid (∀i n,i≤n→f i=false→f n=false):=by
  show∀i n,i≤n→f i=false→f n=false;rw[←hf];exact M.out
 have HZ:Hid (f 0=true):=by show f 0=true;rw[←hf];rfl
 clear hf hs HD M;obtain⟨eb,B⟩:=aJ8 (e.bal);rw[B]at HS;obtain⟨e0,e1,⟨e2,e3,e4,e5,e6,e7,⟨e8,e9,R,V⟩⟩,U,J,P,I,N,Y,c⟩:=e;dsimp only at B;subst B;generalize H:W.alloc (.cells (evL ⟨e0,e1,⟨e2,e3,e4,e5,e6,e7,⟨e8,e9,R,V⟩⟩,U,J,P,I,N,Y,c⟩).toArray 70)=W1 at v w;have a6:Hid (W.alloc (.cells #[.int .i64 e0,.int .i64 e1,.int .i64 e2,.int .i64 e3,.int .i64 e4,.int .i64 e5,.int .i64 e6,.int .i64 e7,.int .i64 e8,.int .i64 e9,.int .i64 R,.int .i64 V,.int .i64 U,.int .i64 J,.int .i64 P,.int .i64 I,.int .i64 N,.int .i64 Y,.int .i64 c] 70)=W1):=H;have s:W1.cell? ⟨W.heap.size,18,none⟩=some (.int .i64 c):=cC v 18 _ rfl;have HC:=cB w;have HL:=cB (h.chg0 w);have T:=cB ((Array.getElem?_eq_some_iff.1 v).1);have a8:=cB ha;clear h v H w;go_enter func57,ntmps57;go_wp2_with (first|rw[a6.out]);go_loopw [9] (fun k wr=>∃n:Nat,n≤a∧k= .int .i64 n∧Hid (Chg NoS W1 wr)∧Hid (f n=true)) (fun k _=>a-(intOf k).toNat)
 case atStart=>exact⟨0,aI _,rfl,Chg.refl _ _,HZ⟩
 case round=>
  obtain⟨n,hn,rfl,D,E⟩:=hrel;have s:wr.cell? ⟨W.heap.size,18,none⟩=some (.int .i64 c):=(aW (D.out.block _ T.out (fun z=>z))).trans s;by_cases a9:n<a
  ·have A:n<t.length:=by have:=a8.out;omega
   obtain⟨g,rfl,hg,b⟩:=(HL.out.chg0 D.out) n A;obtain⟨x,C⟩:=aJ8 (t[n]);rw[C]at b;have Q:t.getD n zEv=x:=by rw[aQ,aP A,C];rfl
   have m:=cB (HS.out n x Q);have a1:(n:Int)<(a:Int):=by omega
   have b0:(n:Int)<(t.length:Int):=by omega
   have O:=cB (tW wr x);have a2:Hid (∀j u,(evL x)[j]?=some u→wr.cell? ((⟨g,n*19,none⟩:Addr).add j)=some u):=fun j u hj=>by
    have ea:(⟨g,n*19,none⟩:Addr).add j=⟨g,n*19+j,none⟩:=by unfold Addr.add;split<;>simp_all
    rw[ea];exact b j u hj
   have a0:Hid (wr.cell? ⟨g,n*19+13,none⟩=some (.int .i64 x.olock)):=b 13 _ rfl;have Z:Hid (wr.cell? ⟨g,n*19+18,none⟩=some (.int .i64 x.bal)):=b 18 _ rfl;have HG:=cB hg;obtain⟨d,hd⟩:=aJ8 (nK x);rw[hd]at O m;clear b C Q hg hd hn;go_wp2_with (first|(refine cI rfl 70 _ rfl ⟨g,n*19,none⟩ rfl (evL x) _ a2.out underlying70 rfl (by kernel_rfl) ?_)|(go_at_call 55;refine O.out.mono ?_;rintro e W2 ⟨rfl,hq⟩;have HQ:=cB hq;clear hq;refine cE ?_));have q:=cB (D.out.trans HQ.out (fun _ _ z=>z));have s:W2.cell? ⟨W.heap.size,18,none⟩=some (.int .i64 c):=(aW (HQ.out.block _ (aG T.out D.out.size) (fun z=>z))).trans s;have a7:W2.cell? ⟨g,n*19+13,none⟩=some (.int .i64 x.olock):=(aW (HQ.out.block _ HG.out (fun z=>z))).trans a0.out;have a5:W2.cell? ⟨g,n*19+18,none⟩=some (.int .i64 x.bal):=(aW (HQ.out.block _ HG.out (fun z=>z))).trans Z.out;obtain⟨G,L⟩:=aJ8 (x.olock);obtain⟨F,S⟩:=aJ8 (x.bal);rw[L]at a7 m;rw[S]at a5 m;clear L S;refine cB ?_;cases d with
   |false=>
    have o:=cB (m.out.trans (show(f n&& !(false&&G==l&&decide (c≤F)))=true by rw[E.out]<;>rfl));go_wp2_with fail;refine dJ [0,0,0,0,0,0,0,1,0,0,0,0,0,0,0,0,1,0,1,0,0] (by kernel_rfl) (fun _ _ _ _=>rfl) ?_;simp only[cL,cK];iterate 21 ((try simp only[pA]);first|(apply sB rfl rfl;·(intro x h;(try cases h rfl);go_simp;with_reducible rfl))|apply cP rfl|apply cN rfl)
    refine cD ?_;try simp only[pA]
    go_wp2_with fail;go_roundw
    case rel=>exact⟨n+1,by omega,by go_num,q.out.drew,o.out⟩
    case measure=>simp[intOf]<;>omega
   |true=>
    cases bl:(G==l)with
    |false=>
     have o:=cB (m.out.trans (show(f n&& !(true&&G==l&&decide (c≤F)))=true by rw[E.out,bl]<;>rfl));go_wp2_with fail;refine dJ [0,0,0,0,0,0,0,1,0,0,0,0,0,0,0,0,1,0,1,0,0] (by kernel_rfl) (fun _ _ _ _=>rfl) ?_;simp only[cL,cK];iterate 21 ((try simp only[pA]);first|(apply sB rfl rfl;·(intro x h;(try cases h rfl);go_simp;with_reducible rfl))|apply cP rfl|apply cN rfl)
     refine cD ?_;try simp only[pA]
     go_wp2_with fail;go_roundw
     case rel=>exact⟨n+1,by omega,by go_num,q.out.drew,o.out⟩
     case measure=>simp[intOf]<;>omega
    |true=>
     cases bd:decide (c≤F)with
     |false=>
      have o:=cB (m.out.trans (show(f n&& !(true&&G==l&&decide (c≤F)))=true by rw[E.out,bl,bd]<;>rfl));go_wp2_with fail;refine dJ [0,0,0,0,0,0,0,1,0,0,0,0,0,0,0,0,1,0,1,0,0] (by kernel_rfl) (fun _ _ _ _=>rfl) ?_;simp only[cL,cK];iterate 21 ((try simp only[pA]);first|(apply sB rfl rfl;·(intro x h;(try cases h rfl);go_simp;with_reducible rfl))|apply cP rfl|apply cN rfl)
      refine cD ?_;try simp only[pA]
      go_wp2_with fail;go_roundw
      case rel=>exact⟨n+1,by omega,by go_num,q.out.drew,o.out⟩
      case measure=>simp[intOf]<;>omega
     |true=>
      have o:=cB (m.out.trans (show(f n&& !(true&&G==l&&decide (c≤F)))=false by rw[E.out,bl,bd]<;>rfl));have a3:=cB (X.out.trans (a4.out _ a (show n+1≤a by omega) o.out));go_wp2_with fail;refine dJ [0,0,0,0,0,0,0,1,0,0,0,0,0,0,0,0,1,0,1,0,0] (by kernel_rfl) (fun _ _ _ _=>rfl) ?_;simp only[cL,cK];iterate 21 ((try simp only[pA]);first|(apply sB rfl rfl;·(intro x h;(try cases h rfl);go_simp;with_reducible rfl))|apply cP rfl|apply cN rfl)
      refine cD ?_;try simp only[pA]
      go_wp2_with fail;go_ret;exact⟨by rw[a3.out]<;>rfl,HC.out.trans q.out.drew (fun _ _ z=>z)⟩
  ·have a1:¬(n:Int)<(a:Int):=by omega
   have K:n=a:=by omega
   have o:=cB (X.out.trans (show f a=true from K▸E.out));clear K;go_wp2_with fail;go_ret;exact⟨by rw[o.out]<;>rfl,HC.out.trans D.out (fun _ _ z=>z)⟩
theorem BalAt.put{n0:Nat}{W W1 W2:World}{v v2:Value}{L:List (Bt×Value)}{k:Nat}{s:Int}(hk:k<L.length)(h:BalAt n0 W v L)(h01:Chg NoS W W1)(h12:W1.grownBy W2 L[k].2.ownBlock)
 (ho:W2.ownsRow n0 3 1 v2 (L[k].1.acc.length+1) (cQ sA L[k].1.acc++[.int .i64 s])) (hv:v2.ownBlock=L[k].2.ownBlock∨v2.ownBlock=some W1.heap.size):
 ∀g cap,v= .slice (some ⟨g,0,none⟩) L.length cap→W2.cell? ⟨g,k*13+12,none⟩=some L[k].2∧W2.frozen? ⟨g,k*13+12,none⟩=false∧n0≤g∧BalAt n0 (W2.setCell ⟨g,k*13+12,none⟩ v2) v (L.set k ({L[k].1 with acc:=L[k].1.acc++[s]},v2)):=by
 intro g cap e;subst e;have h1:=h.chg0 h01;have hmem:L[k] ∈ L:=bF hk;have hvk:∀x,v2.ownBlock=some x→(Value.slice (some ⟨g,0,none⟩) L.length cap).ownBlock≠some x:=fun x e=>by
  rcases hv with hv|hv
  ·exact h.ao _ hmem x (hv▸e)
  ·intro z;have:=(h1.own.lt x z).2;rw[hv]at e;cases e;omega
 have hvj:∀x,v2.ownBlock=some x→∀j (hj:j<L.length),j≠k→L[j].2.ownBlock≠some x:=fun x e j hj hjk z=>by
  rcases hv with hv|hv
  ·exact h.ap j k hj hk hjk x z (hv▸e)
  ·have:=((h1.acc _ (bF hj)).lt x z).2;rw[hv]at e;cases e;omega
 have hr2:=(Chg.of_grown h12).row h1.own (fun y e z=>h1.ao _ hmem y z.symm e);obtain⟨p',c',e',hls,_⟩:=LsAt.of_owns (f:=btF) (sz:=13) (fun _=>rfl) hr2 rfl;obtain⟨g',e2,_,hc⟩:=hls k hk;cases e';cases e2;have hcell:=hc 12 L[k].2 rfl;rcases jW hr2 with⟨e3,_⟩|⟨g3,cap3,cur,e3,hb,hblk⟩
 ·cases e3
 cases e3;refine⟨hcell,cV hblk _,hb,?_,?_,?_,?_⟩
 ·rw[bP,yA v2 L k hk];exact aCT hr2 (k*13+12) v2
 ·intro q hq;obtain⟨i,hi,rfl⟩:=List.getElem_of_mem hq;have hi':i<L.length:=by simpa using hi
  by_cases q:k=i
  ·rw[List.getElem_set,if_pos q];show World.ownsRow _ n0 _ 1 v2 (L[k].1.acc++[s]).length (cQ sA (L[k].1.acc++[s]));rw[aD,jQ];exact(cZ W2 g _ v2).row ho (fun y e z=>hvk y e (by rw[z];rfl))
  ·rw[List.getElem_set,if_neg q];exact(cZ W2 g _ v2).row ((Chg.of_grown h12).row (h1.acc _ (bF hi')) (fun y e z=>h1.ap i k hi' hk (Ne.symm q) y e z.symm)) (fun y e z=>h1.ao _ (bF hi') y e (by rw[z];rfl))
 ·intro i j hi hj hij x e1 e2;have hi':i<L.length:=by simpa using hi
  have hj':j<L.length:=by simpa using hj
  rw[List.getElem_set]at e1 e2;by_cases qi:k=i
  ·rw[if_pos qi]at e1;by_cases qj:k=j
   ·omega
   ·rw[if_neg qj]at e2;exact hvj x e1 j hj' (Ne.symm qj) e2
  ·rw[if_neg qi]at e1;by_cases qj:k=j
   ·rw[if_pos qj]at e2;exact hvj x e2 i hi' (Ne.symm qi) e1
   ·rw[if_neg qj]at e2;exact h.ap i j hi' hj' hij x e1 e2
 ·intro q hq x e;obtain⟨i,hi,rfl⟩:=List.getElem_of_mem hq;have hi':i<L.length:=by simpa using hi
  rw[List.getElem_set]at e;by_cases q:k=i
  ·rw[if_pos q]at e;exact hvk x e
  ·rw[if_neg q]at e;exact h.ao _ (bF hi') x e
end Go.Proofs.YtbbdgokdfhdpiaaGreatDoor
