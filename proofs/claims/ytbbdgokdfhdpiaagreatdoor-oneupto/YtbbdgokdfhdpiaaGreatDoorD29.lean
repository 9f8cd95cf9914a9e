/- A part of the proof: OneG, OneQ. -/
import Derived.Deep.DeepHandedRow
import Derived.Deep.DeepWitnessRowRef
import Derived.LaidHandle
import Derived.LaidLaws
import Derived.Test.YtbbdgokdfhdpiaaGreatDoorCards
import Derived.Test.YtbbdgokdfhdpiaaGreatDoorTie
import Derived.Test.YtbbdgokdfhdpiaaGreatDoorD28
namespace Go.Proofs.YtbbdgokdfhdpiaaGreatDoor
set_option linter.all false
set_option maxRecDepth 100000
set_option maxHeartbeats 40000000
open Go.Proofs.Tryz Go.RowKit
theorem pB(g o j:Nat):(⟨g,o,none⟩:Addr).add j=⟨g,o+j,none⟩:=by unfold Addr.add;split<;>simp_all
theorem oY{W:World}{g o:Nat}{l:List Value}(h:∀j u,l[j]?=some u→W.cell? ⟨g,o+j,none⟩=some u):∀j u,l[j]?=some u→W.cell? ((⟨g,o,none⟩:Addr).add j)=some u:=fun j u hj=>by rw[pB];exact h j u hj
theorem aIu(q:Bt×Value):∀j u,(vlL q.1.m.val)[j]?=some u→(btF q)[6+j]?=some u:=by
 intro j u h;rcases j with _|_|_|_|j
 ·exact h
 ·exact h
 ·exact h
 ·exact h
 ·exact absurd (aF.1 h).1 (by simp)
theorem LsAt.val{W:World}{g:Nat}{L:List (Bt×Value)}{k:Nat}{v:Vl}(hk:k<L.length)(hv:(dG (L.map Prod.fst) k).m.val=v)(h:∀j u,(btF L[k])[j]?=some u→W.cell? ⟨g,k*13+j,none⟩=some u):∀j u,(vlL v)[j]?=some u→W.cell? ((⟨g,k*13+6,none⟩:Addr).add j)=some u:=by
 have a:L[k].1.m.val=v:=by
  rw[←hv];unfold dG;rw[aQ,List.getElem?_map,aP hk];rfl
 subst a;refine oY fun j u hj=>?_;rw[show k*13+6+j=k*13+(6+j) by omega];exact h (6+j) u (aIu _ j u hj)
abbrev tP(out:List Nat):List Int:=out.map fun (k:Nat)=>(k:Int)
theorem sH(out:List Nat)(k:Nat):(tP out).contains (k:Int)=out.contains k:=by
 rw[Bool.eq_iff_iff,List.contains_iff_mem,List.contains_iff_mem,bN];constructor
 ·rintro⟨x,a,e⟩;have e:=Int.ofNat.inj e;rw[←e];exact a
 ·exact fun h=>⟨k,h,rfl⟩
theorem yC(fn:Func){x:Tmp}(hr:fn.results=#[.cell x 56])(tmps:Array Value)(b:Nat)(r:Vl)(W:World)(h4:tmps.getD x undef= .pointer (some ⟨b,0,none⟩))(hb:W.heap[b]?=some (.cells (vlL r).toArray 56 (0,0))):
 (results fn tmps).run prog W= .ok (vlV r) W:=by
 have a:(loadVar 56 ⟨b,0,none⟩).run prog W= .ok (vlV r) W:=eK W ⟨b,0,none⟩ 56 (vlL r) _ (cF hb) underlying56 rfl (by kernel_rfl);unfold results;rw[hr];simp only[bY]at h4;simp[h4,asAddr,aT,a]
theorem aEX(W:World)(pl po:Option Addr)(cl co:Nat)(L:List (Bt×Value))(out:List Nat)(i:Nat)(hL:LsAt btF 13 W pl L)(hO:LsAt sA 1 W po (tP out))(hl:L.length≤1000000000000)(ho:out.length≤1000000000000)(hi:i<out.length)(hx:∀k ∈ out,k<L.length):
 Calls prog 95 #[.slice pl L.length cl,.slice po out.length co,.int .i64 (i:Int)] W fun r W'=>r= .returned (vlV (oQ (L.map Prod.fst) out i))∧Chg NoS W W':=by
 have j:=aA W (.cells #[.int .i64 0,.int .i64 0,.int .i64 0,.int .i64 0] 56);have d:Chg NoS W (W.alloc (.cells #[.int .i64 0,.int .i64 0,.int .i64 0,.int .i64 0] 56)):=(Chg.refl _ _).alloc _;generalize o:W.alloc (.cells #[.int .i64 0,.int .i64 0,.int .i64 0,.int .i64 0] 56)=W1 at j d;have t:=cB o;have B:Hid (W1.heap[W.heap.size]?=some (.cells (vlL zVl).toArray 56 (0,0))):=j;have C:=cB d;have H:=cB (hL.chg0 d);have G:=cB (hO.chg0 d);have E:IntKind.i64.wrap ((i:Int)+1)=(i:Int)+1:=dZ (by omega) (by omega);clear j o d hL hO;by_cases a:i+1<out.length
 ·have n:decide ((out.length:Int)≤(i:Int)+1)=false:=by simp;omega
  have y:(i:Int)+1<(out.length:Int):=by omega
  have z:decide ((i:Int)+1<0)=false:=by simp;omega
  obtain⟨k,u⟩:=aJ8 (out[i+1]);have p:=hx k (u▸bF a);obtain⟨g,rfl,_,q⟩:=G.out (i+1) (by rw[bL];exact a);have K:W1.cell? ⟨g,i+1,none⟩=some (.int .i64 (k:Int)):=by
   have:=q 0 (.int .i64 (k:Int)) (by rw[List.getElem_map,u];rfl);rw[Nat.mul_one]at this;exact this
  have w:=cB (show oQ (L.map Prod.fst) out i=(dG (L.map Prod.fst) k).m.val from by
   unfold oQ;rw[if_pos a,aQ,aP a,u];rfl)
  obtain⟨D,rfl,_,s⟩:=H.out k p;obtain⟨v,x⟩:=aJ8 ((dG (L.map Prod.fst) k).m.val);have A:=cB (LsAt.val p x s);rw[x]at w;have J:decide ((k:Int)<0)=false:=by simp
  have I:(k:Int)<(L.length:Int):=by omega
  have e:(i:Int)+1=((i+1:Nat):Int):=by omega
  rw[e]at n y z E;clear q s x u a e;go_enter func95,ntmps95;go_wp2_with (first|rw[t.out]|(refine cH rfl 56 _ _ rfl W.heap.size 0 56 _ _ (vlL v) rfl rfl B.out (by kernel_rfl) (by simp[Value.oneCell']) (by simp) rfl ?_;intro F c f b;have l:=cB c;have h:=cB b;clear c f b;refine cE ?_)|(refine cI rfl 56 _ rfl ⟨D,k*13+6,none⟩ rfl (vlL v) _ A.out underlying56 rfl (by kernel_rfl) ?_));refine cB ?_;go_wp2_with fail;rw[w.out];exact bodyPost_ret (yC _ results95 _ W.heap.size v _ rfl h.out) rfl ⟨rfl,C.out.fresh l.out (aE _)⟩
 ·have n:decide ((out.length:Int)≤(i:Int)+1)=true:=by simp;omega
  have w:=cB (show oQ (L.map Prod.fst) out i=zVl from by unfold oQ;rw[if_neg a]);clear a;go_enter func95,ntmps95;go_wp2_with (first|rw[t.out]|(refine cH rfl 56 _ _ rfl W.heap.size 0 56 _ _ (vlL zVl) rfl rfl B.out (by kernel_rfl) (by simp[Value.oneCell']) (by simp) rfl ?_;intro F c f b;have l:=cB c;have h:=cB b;clear c f b;refine cE ?_));refine cB ?_;go_wp2_with fail;rw[w.out];exact bodyPost_ret (yC _ results95 _ W.heap.size zVl _ rfl h.out) rfl ⟨rfl,C.out.fresh l.out (aE _)⟩
section
variable {v:Vl} {e:Ev}
theorem aJg(h:e.res=1):qI v e=(e.own==e.node+1&&v.tok==e.tok&&((e.okind==3&&v.own==0)||(!(e.okind==3)&&v.own==e.node+1))):=by unfold qI;rw[if_pos h];rfl
theorem aJb(h:e.res=2):qI v e=(v.own==e.own&&v.tok==e.tok&&v.own !=0&&v.own !=e.node+1&&e.okind==1):=by unfold qI;rw[if_neg (by omega),if_pos h]
theorem aJh(h:e.res=4):qI v e=(v.own==e.own&&v.tok==e.tok&&e.okind==4):=by unfold qI;rw[if_neg (by omega),if_neg (by omega),if_pos h]
theorem aJw(h1:¬e.res=1)(h2:¬e.res=2)(h4:¬e.res=4):qI v e=(e.res==3&&e.own==0&&e.tok==0&&e.okind !=1&&e.okind !=4):=by unfold qI;rw[if_neg h1,if_neg h2,if_neg h4]
end
section
variable {l:List Bt} {out:List Nat} {e:Ev}
theorem aDI(h:gF l e.bal=none):qE l out e=false:=by unfold qE;rw[h]
theorem aFJ{k:Nat}(h:gF l e.bal=some k)(hc:out.contains k=false):qE l out e=false:=by unfold qE;rw[h];dsimp only;rw[if_neg (by rw[hc];decide)]
theorem aGS{k:Nat}(h:gF l e.bal=some k)(hc:out.contains k=true):qE l out e=qI (dG l k).m.val e:=by unfold qE;rw[h];dsimp only;rw[if_pos hc]
end
theorem wD{l:List Bt}{n:Int}{k:Nat}(h:gF l n=some k):k<l.length:=by
 obtain⟨x,a,_⟩:=nU h;exact(aF.1 a).1
theorem aG2(W:World)(pl po:Option Addr)(cl co:Nat)(L:List (Bt×Value))(out:List Nat)(e:Ev)(hL:LsAt btF 13 W pl L)(hO:LsAt sA 1 W po (tP out))(hl:L.length≤1000000000000)(ho:out.length≤1000000000000)(hn0: -1000≤e.node)(hn1:e.node≤1000000):
 Calls prog 56 #[.slice pl L.length cl,.slice po out.length co,evV e] W fun r W'=>r= .returned (.bool (qE (L.map Prod.fst) out e))∧Chg NoS W W':=by
 have l:=aA W (.cells (evL e).toArray 70);have j:Chg NoS W (W.alloc (.cells (evL e).toArray 70)):=(Chg.refl _ _).alloc _;have wm:IntKind.i64.wrap (e.node+1)=e.node+1:=dZ (by omega) (by omega);generalize q:W.alloc (.cells (evL e).toArray 70)=W1 at l j;have HF:=cB (zL W1 pl cl L e.bal (hL.chg0 j) hl);obtain⟨kk,p⟩:=aJ8 (pG (L.map Prod.fst) e.bal);rw[p]at HF;have hh:=aBw W1 po co (tP out) kk (hO.chg0 j) (by rw[bL];exact ho);rw[bL]at hh;obtain⟨B,N⟩:=aJ8 ((tP out).contains kk);rw[N]at hh;have HH:=cB hh;have HL:=cB (hL.chg0 j);obtain⟨D,hD⟩:=aJ8 (qE (L.map Prod.fst) out e);rw[hD];have HD:=cB hD;clear hD hh hL hO;unfold pG at p;cases hf:gF (L.map Prod.fst) e.bal with
 |none=>
  have A:=cB (HD.out.symm.trans (aDI hf));rw[hf]at p;dsimp only at p;subst p;obtain⟨U,C,⟨e2,e3,e4,Y,X,V,⟨e8,Z,w,y⟩⟩,d,s,u,b,f,i,o⟩:=e;dsimp only at*;have t:Hid (W.alloc (.cells #[.int .i64 U,.int .i64 C,.int .i64 e2,.int .i64 e3,.int .i64 e4,.int .i64 Y,.int .i64 X,.int .i64 V,.int .i64 e8,.int .i64 Z,.int .i64 w,.int .i64 y,.int .i64 d,.int .i64 s,.int .i64 u,.int .i64 b,.int .i64 f,.int .i64 i,.int .i64 o] 70)=W1):=q;have P:W1.cell? ⟨W.heap.size,18,none⟩=some (.int .i64 o):=cC l 18 _ rfl;have F:=cB j;clear l q j hf N;go_enter func56,ntmps56;go_wp2_with (first|rw[t.out]|(go_at_call 91;refine HF.out.mono ?_;rintro e W2 ⟨rfl,n⟩;rw[n];clear n)|(go_at_call 93;refine HH.out.mono ?_;rintro e W2 ⟨rfl,n⟩;rw[n];clear n));go_ret;exact⟨by rw[A.out]<;>rfl,F.out⟩
 |some k=>
  rw[hf]at p;dsimp only at p;subst p;rw[sH]at N;have a2:k<L.length:=by have:=wD hf;rwa [bL]at this
  have b6:decide ((k:Int)<0)=false:=by simp
  have b9:(k:Int)<(L.length:Int):=by omega
  cases B with
  |false=>
   have A:=cB (HD.out.symm.trans (aFJ hf N));obtain⟨U,C,⟨e2,e3,e4,Y,X,V,⟨e8,Z,w,y⟩⟩,d,s,u,b,f,i,o⟩:=e;dsimp only at*;have t:Hid (W.alloc (.cells #[.int .i64 U,.int .i64 C,.int .i64 e2,.int .i64 e3,.int .i64 e4,.int .i64 Y,.int .i64 X,.int .i64 V,.int .i64 e8,.int .i64 Z,.int .i64 w,.int .i64 y,.int .i64 d,.int .i64 s,.int .i64 u,.int .i64 b,.int .i64 f,.int .i64 i,.int .i64 o] 70)=W1):=q;have P:W1.cell? ⟨W.heap.size,18,none⟩=some (.int .i64 o):=cC l 18 _ rfl;have F:=cB j;clear l q j hf N;go_enter func56,ntmps56;go_wp2_with (first|rw[t.out]|(go_at_call 91;refine HF.out.mono ?_;rintro e W2 ⟨rfl,n⟩;rw[n];clear n)|(go_at_call 93;refine HH.out.mono ?_;rintro e W2 ⟨rfl,n⟩;rw[n];clear n));go_ret;exact⟨by rw[A.out]<;>rfl,F.out⟩
  |true=>
   have A:=cB (HD.out.symm.trans (aGS hf N));obtain⟨g,rfl,_,a0⟩:=HL.out k a2;obtain⟨v,hv⟩:=aJ8 ((dG (L.map Prod.fst) k).m.val);have a5:=cB (LsAt.val a2 hv a0);rw[hv]at A;have J:Hid (e.res=1→D=_):=fun h=>A.out.trans (aJg h);have G:Hid (e.res=2→D=_):=fun h=>A.out.trans (aJb h);have K:Hid (e.res=4→D=_):=fun h=>A.out.trans (aJh h);have H:Hid (¬e.res=1→¬e.res=2→¬e.res=4→D=_):=fun h1 h2 h4=>A.out.trans (aJw h1 h2 h4);clear a0 hv N hf A HD;obtain⟨E,S,v2,v3⟩:=v;obtain⟨U,C,⟨e2,e3,e4,Y,X,V,⟨e8,Z,w,y⟩⟩,d,s,u,b,f,i,o⟩:=e;dsimp only at*;have t:Hid (W.alloc (.cells #[.int .i64 U,.int .i64 C,.int .i64 e2,.int .i64 e3,.int .i64 e4,.int .i64 Y,.int .i64 X,.int .i64 V,.int .i64 e8,.int .i64 Z,.int .i64 w,.int .i64 y,.int .i64 d,.int .i64 s,.int .i64 u,.int .i64 b,.int .i64 f,.int .i64 i,.int .i64 o] 70)=W1):=q;have P:W1.cell? ⟨W.heap.size,18,none⟩=some (.int .i64 o):=cC l 18 _ rfl;have Q:=aA W1 (.cells #[.int .i64 0,.int .i64 0,.int .i64 0,.int .i64 0] 56);have I:Chg NoS W1 (W1.alloc (.cells #[.int .i64 0,.int .i64 0,.int .i64 0,.int .i64 0] 56)):=(Chg.refl _ _).alloc _;generalize a4:W1.alloc (.cells #[.int .i64 0,.int .i64 0,.int .i64 0,.int .i64 0] 56)=W3 at Q I;have a6:=cB a4;have a7:Hid (W3.heap[W1.heap.size]?=some (.cells (vlL zVl).toArray 56 (0,0))):=Q;have s1:=(Array.getElem?_eq_some_iff.1 l).1;have a9:=cB ((I.block _ s1 (fun z=>z)).trans l);have F:=cB (aJX j I s1);clear l q j a4 I Q s1;go_enter func56,ntmps56
   go_wp2_with (first|rw[t.out]|rw[a6.out]|(go_at_call 91;refine HF.out.mono ?_;rintro e W2 ⟨rfl,n⟩;rw[n];clear n)|(go_at_call 93;refine HH.out.mono ?_;rintro e W2 ⟨rfl,n⟩;rw[n];clear n)|(refine cH rfl 56 _ _ rfl W1.heap.size 0 56 _ _ (vlL ⟨E,S,v2,v3⟩) rfl rfl a7.out (by kernel_rfl) (by simp[Value.oneCell']) (by simp) rfl ?_;intro M a3 a8 a1;have O:=cB a3;have R:=cB a1;clear a3 a8 a1;refine cE ?_)|(refine cI rfl 56 _ rfl ⟨g,k*13+6,none⟩ rfl (vlL ⟨E,S,v2,v3⟩) _ a5.out underlying56 rfl (by kernel_rfl) ?_));have hx4:M.heap[W.heap.size]?=_:=(O.out.block _ (aG F.out.2.2 F.out.2.1.size) (fun z=>absurd (show W.heap.size=W1.heap.size from z) (Nat.ne_of_lt F.out.2.2))).trans a9.out;have c1:M.cell? ⟨W.heap.size,1,none⟩=some (.int .i64 C):=cC hx4 1 _ rfl;have b7:M.cell? ⟨W.heap.size,12,none⟩=some (.int .i64 d):=cC hx4 12 _ rfl;have c0:M.cell? ⟨W.heap.size,15,none⟩=some (.int .i64 b):=cC hx4 15 _ rfl;have b0:M.cell? ⟨W.heap.size,16,none⟩=some (.int .i64 f):=cC hx4 16 _ rfl;have b8:M.cell? ⟨W.heap.size,17,none⟩=some (.int .i64 i):=cC hx4 17 _ rfl;have d0:M.cell? ⟨W1.heap.size,0,none⟩=some (.int .i64 E):=cC R.out 0 _ rfl;have d1:M.cell? ⟨W1.heap.size,1,none⟩=some (.int .i64 S):=cC R.out 1 _ rfl;have a:=cB (F.out.1.trans (F.out.2.1.fresh O.out (aE _)) (fun _ _ z=>z));clear hx4 O R P a5 HL;refine cB ?_;by_cases T:b=1
   ·subst T;have c:=cB (J.out rfl);clear H G K;cases b1:(f==C+1)with
    |false=>
     go_wp2_with fail;go_ret;exact⟨by rw[c.out,b1]<;>rfl,a.out⟩
    |true=>
     cases b2:(S==i)with
     |false=>
      go_wp2_with fail;go_ret;exact⟨by rw[c.out,b1,b2]<;>rfl,a.out⟩
     |true=>
      cases b3:(d==3)with
      |false=>
       cases b4:(E==C+1)with
       |false=>
        go_wp2_with fail;go_ret;exact⟨by rw[c.out,b1,b2,b3,b4]<;>rfl,a.out⟩
       |true=>
        go_wp2_with fail;go_ret;exact⟨by rw[c.out,b1,b2,b3,b4]<;>rfl,a.out⟩
      |true=>
       cases b4:(E==0)with
       |false=>
        go_wp2_with fail;go_ret;exact⟨by rw[c.out,b1,b2,b3,b4]<;>rfl,a.out⟩
       |true=>
        go_wp2_with fail;go_ret;exact⟨by rw[c.out,b1,b2,b3,b4]<;>rfl,a.out⟩
   ·have x1:(b==1)=false:=by simpa using T
    by_cases r2:b=2
    ·subst r2;have c:=cB (G.out rfl);clear H J K T x1;cases b1:(E==f)with
     |false=>
      go_wp2_with fail;go_ret;exact⟨by rw[c.out,b1]<;>rfl,a.out⟩
     |true=>
      cases b2:(S==i)with
      |false=>
       go_wp2_with fail;go_ret;exact⟨by rw[c.out,b1,b2]<;>rfl,a.out⟩
      |true=>
       cases b3:(E !=0)with
       |false=>
        go_wp2_with fail;go_ret;exact⟨by rw[c.out,b1,b2,b3]<;>rfl,a.out⟩
       |true=>
        cases b4:(E !=C+1)with
        |false=>
         go_wp2_with fail;go_ret;exact⟨by rw[c.out,b1,b2,b3,b4]<;>rfl,a.out⟩
        |true=>
         cases b5:(d==1)with
         |false=>
          go_wp2_with fail;go_ret;exact⟨by rw[c.out,b1,b2,b3,b4,b5]<;>rfl,a.out⟩
         |true=>
          go_wp2_with fail;go_ret;exact⟨by rw[c.out,b1,b2,b3,b4,b5]<;>rfl,a.out⟩
    ·have x2:(b==2)=false:=by simpa using r2
     by_cases r4:b=4
     ·subst r4;have c:=cB (K.out rfl);clear H J G T x1 r2 x2;cases b1:(E==f)with
      |false=>
       go_wp2_with fail;go_ret;exact⟨by rw[c.out,b1]<;>rfl,a.out⟩
      |true=>
       cases b2:(S==i)with
       |false=>
        go_wp2_with fail;go_ret;exact⟨by rw[c.out,b1,b2]<;>rfl,a.out⟩
       |true=>
        cases b3:(d==4)with
        |false=>
         go_wp2_with fail;go_ret;exact⟨by rw[c.out,b1,b2,b3]<;>rfl,a.out⟩
        |true=>
         go_wp2_with fail;go_ret;exact⟨by rw[c.out,b1,b2,b3]<;>rfl,a.out⟩
     ·have x4:(b==4)=false:=by simpa using r4
      have c:=cB (H.out T r2 r4);clear J G K T r2 r4;cases b1:(b==3)with
      |false=>
       go_wp2_with fail;go_ret;exact⟨by rw[c.out,b1]<;>rfl,a.out⟩
      |true=>
       cases b2:(f==0)with
       |false=>
        go_wp2_with fail;go_ret;exact⟨by rw[c.out,b1,b2]<;>rfl,a.out⟩
       |true=>
        cases b3:(i==0)with
        |false=>
         go_wp2_with fail;go_ret;exact⟨by rw[c.out,b1,b2,b3]<;>rfl,a.out⟩
        |true=>
         cases b4:(d !=1)with
         |false=>
          go_wp2_with fail;go_ret;exact⟨by rw[c.out,b1,b2,b3,b4]<;>rfl,a.out⟩
         |true=>
          cases b5:(d !=4)with
          |false=>
           go_wp2_with fail;go_ret;exact⟨by rw[c.out,b1,b2,b3,b4,b5]<;>rfl,a.out⟩
          |true=>
           go_wp2_with fail;go_ret;exact⟨by rw[c.out,b1,b2,b3,b4,b5]<;>rfl,a.out⟩
theorem pP{t:List Ev}{lk:Int}:∀{n m l},iA t lk n=some l→m≤n→∃l',iA t lk m=some l'
 |0,m,l,h,hm=>⟨l,by rw[Nat.le_zero.1 hm];exact h⟩
 |n+1,m,l,h,hm=>by
  by_cases q:m=n+1
  ·rw[q];exact⟨l,h⟩
  ·unfold iA at h;cases hb:iA t lk n with
   |none=>rw[hb]at h;cases h
   |some l'=>exact pP hb (by omega)
section
variable {t:List Ev} {lk:Int}
theorem sL{n N:Nat}{l lN:List Bt}{e:Ev}(h:iA t lk n=some l)(hN:iA t lk N=some lN)(hn:n<N)(he:t.getD n zEv=e):∃l',iA t lk (n+1)=some l'∧lP t lk l n e=some l':=by
 obtain⟨l',a⟩:=pP hN (show n+1≤N from hn);refine⟨l',a,?_⟩;unfold iA at a;rw[h,he]at a;exact a
theorem tI{out l':List Bt}{i:Nat}{e:Ev}(h:lP t lk out i e=some l')(hq:e.kind≠1∨e.msg.lock≠lk):l'=out:=by
 unfold lP at h;rw[if_pos hq]at h;exact(aN h).symm
theorem wY{out l':List Bt}{i:Nat}{e:Ev}(h:lP t lk out i e=some l')(h3:¬e.msg.kind=3)(h4:¬e.msg.kind=4):l'=out:=by
 unfold lP at h;split at h
 ·exact(aN h).symm
 ·split at h
  ·first|exact(aN h).symm|(rw[if_neg h3,if_neg h4]at h;exact(aN h).symm)
  ·first|exact(aN h).symm|(rw[if_neg h3,if_neg h4]at h;exact(aN h).symm)
theorem aA7{out l':List Bt}{i:Nat}{e:Ev}(h:lP t lk out i e=some l')(hq:¬(e.kind≠1∨e.msg.lock≠lk))(h3:e.msg.kind=3)(hf:gF out e.msg.bal=none):∃op:Nat,eU t i e.msg.src=some op∧uB t op=lk∧256≤e.msg.bal∧e.msg.bal % 4=e.msg.src∧l'=out++[⟨{e.msg with dst:=0},i,op,[]⟩]:=by
 unfold lP at h;rw[if_neg hq,hf]at h;dsimp only at h;rw[if_pos h3]at h;cases hd:eU t i e.msg.src with
 |none=>rw[hd]at h;cases h
 |some op=>
  rw[hd]at h;dsimp only at h;split at h
  ·cases h
  ·rename_i hn;have:=aN h;refine⟨op,rfl,?_,?_,?_,this.symm⟩
   ·exact aH fun z=>hn (Or.inl z)
   ·exact aH fun z=>hn (Or.inr (Or.inl (by omega)))
   ·exact aH fun z=>hn (Or.inr (Or.inr z))
theorem wT{out l':List Bt}{i k:Nat}{e:Ev}(h:lP t lk out i e=some l')(hq:¬(e.kind≠1∨e.msg.lock≠lk))(h3:e.msg.kind=3)(hf:gF out e.msg.bal=some k):mgB {e.msg with dst:=0} (out.getD k zBt).m=true∧l'=out:=by
 unfold lP at h;rw[if_neg hq,hf]at h;dsimp only at h;rw[if_pos h3]at h;split at h
 ·rename_i hm;exact⟨hm,(aN h).symm⟩
 ·cases h
theorem aA5{out l':List Bt}{i:Nat}{e:Ev}(h:lP t lk out i e=some l')(hq:¬(e.kind≠1∨e.msg.lock≠lk))(h4:e.msg.kind=4):∃k,gF out e.msg.bal=some k∧l'=if(out.getD k zBt).acc.contains e.msg.src=true then out else out.set k {(out.getD k zBt)with acc:=(out.getD k zBt).acc++[e.msg.src]}:=by
 unfold lP at h;rw[if_neg hq]at h;cases hf:gF out e.msg.bal with
 |none=>rw[hf]at h;dsimp only at h;rw[if_neg (by omega),if_pos h4]at h;cases h
 |some k=>rw[hf]at h;dsimp only at h;rw[if_neg (by omega),if_pos h4]at h;exact⟨k,rfl,(aN h).symm⟩
end
end Go.Proofs.YtbbdgokdfhdpiaaGreatDoor
