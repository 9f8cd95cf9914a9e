/- A part of the proof: PCount, PTake, PBegin, PErr2, PTk1. -/
import Derived.Defers
import Derived.LaidEql
import Derived.Recover
import Derived.RowKitTokens
import Derived.Stop.Asserts
import Derived.Test.YtbbdgokdfhdpiaaGreatDoorA17
namespace Go.Proofs.YtbbdgokdfhdpiaaGreatDoor
set_option linter.all false
set_option maxRecDepth 100000
set_option maxHeartbeats 40000000
open Go.Proofs.Tryz Go.RowKit
theorem aGB(o:On)(an mv:Value):∀j x,(rP o.att.eres o.att.eown o.att.etok)[j]?=some x→(xB o an mv).toArray[14+j]?=some x:=by
 intro j x a;have b:j<3:=(aF.1 a).1;rcases j with _|_|_|j
 ·exact a
 ·exact a
 ·exact a
 ·omega
theorem aIF(m:Mg):∀j x,(vlL m.val)[j]?=some x→(mgL m).toArray[6+j]?=some x:=by
 intro j x a;have b:j<4:=(aF.1 a).1;rcases j with _|_|_|_|j
 ·exact a
 ·exact a
 ·exact a
 ·exact a
 ·omega
section
variable {f:Cf}{c:Ct}{o:On}{m:Mg}
theorem tI(h:o.att.ans.contains m.src=false)(h2:((heardOn o m).att.ans.length:Int)≤f.f):jT f c o m={c with doing:=some (heardOn o m)}∧jW f c o m=[]:=by
 have hneg:¬o.att.ans.contains m.src=true:=by rw[h];decide
 constructor
 ·unfold jT;rw[if_neg hneg];exact if_pos h2
 ·unfold jW;rw[if_neg hneg];exact if_pos h2
theorem qH(h:o.att.ans.contains m.src=false)(h2:¬((heardOn o m).att.ans.length:Int)≤f.f)(h3:m.kind=2):jT f c o m=iJ f {c with doing:=some (heardOn o m)} (heardOn o m)∧jW f c o m=gZ f {c with doing:=some (heardOn o m)} (heardOn o m):=by
 have hneg:¬o.att.ans.contains m.src=true:=by rw[h];decide
 constructor
 ·unfold jT;rw[if_neg hneg];exact(if_neg h2).trans (if_pos h3)
 ·unfold jW;rw[if_neg hneg];exact(if_neg h2).trans (if_pos h3)
theorem tA(h:o.att.ans.contains m.src=false)(h2:¬((heardOn o m).att.ans.length:Int)≤f.f)(h3:m.kind≠2):jT f c o m=gW c (heardOn o m) (heardOn o m).att.eres (heardOn o m).att.etok (heardOn o m).att.val∧jW f c o m=rK c (heardOn o m) (heardOn o m).att.eres (heardOn o m).att.eown (heardOn o m).att.etok:=by
 have a:¬o.att.ans.contains m.src=true:=by rw[h];decide
 constructor
 ·unfold jT;rw[if_neg a];exact(if_neg h2).trans (if_neg h3)
 ·unfold jW;rw[if_neg a];exact(if_neg h2).trans (if_neg h3)
end
theorem aGW(W:World)(F G:Nat→Prop)(b g:Nat)(f:Cf)(av cv:Value)(c:Ct)(o:On)(net:List Mg)(tr:List Ev)(m:Mg)(h:Sys W F G b g f av cv c net tr)(hd:c.doing=some o)(hf1:1≤f.f)(hf2:f.f≤2)(hdr1:0≤f.drift)(hdr2:f.drift≤10)(hc:aAr c)(ho:aGe o)(hv:aB2 o.att.val)(hvm:aB2 m.val)
 (haw:o.att.awaited≠0) (hm:o.mine.length≤100000000000) (hw:∀l,0≤(c.wat l).since∧(c.wat l).since≤100000000000) (hla:o.att.ans.length≤100000000000) (hn:net.length≤99999999990) (ht:tr.length≤99999999990):
 Calls prog 132 #[.pointer (some ⟨b,0,none⟩),mgV m] W fun r W'=>r= .returned (.tuple #[])∧After W F G b g f av cv (jT f c o m) (net++dJ (jW f c o m)) (tr++jW f c o m) W':=by
 obtain⟨⟨ch,tk,O,wt,dv,c8⟩,d5,d4⟩:=h;obtain⟨I,an,mv,rfl,hk⟩:=c8.kt hd;obtain⟨D,rfl,d1,b0⟩:∃D,an= .map (some D)∧SetAt W D o.att.ans∧F D:=by
  rcases hk.on.2.2.1 with⟨_,_,h⟩|h
  ·exact absurd h haw
  ·exact h
 generalize P:W.alloc (.cells #[.int .i64 m.kind,.int .i64 m.src,.int .i64 m.dst,.int .i64 m.lock,.int .i64 m.bal,.int .i64 m.base,.int .i64 m.val.own,.int .i64 m.val.tok,.int .i64 m.val.ttl,.int .i64 m.val.seq] 66)=W0;have d2:=cN P;have M:Chg NoS W W0:=by rw[←P];exact(Chg.refl _ _).alloc _
 have d7:W0.heap[W.heap.size]?=some (.cells (mgL m).toArray 66 (0,0)):=by rw[←P];exact aA W _
 have d3:W0.heap.size=W.heap.size+1:=by rw[←P];simp
 have E:=cN (hk.kept M);have b9:Hid (SetAt W0 D o.att.ans):=MapAt.kept d1 M (fun h=>h);have c7:=cN (d5.kept M (fun _ _ h=>h));have N:=cN d7;have c6:=cN M;have e6:=cN d3;have R:=cN d4;have a:=cN (aLq hc ho hv hvm hw hd b0);have e7:=E.out.cl.cell 16 _ rfl;clear P M d7 d3 hk d1 d5 c8 d4 hc ho hv hvm hw;by_cases u:o.att.ans.contains m.src=true
 ·have eS:jT f c o m=c:=by unfold jT;rw[if_pos u]
  have eE:jW f c o m=[]:=by unfold jW;rw[if_pos u]
  rw[eS,eE,fF,aC,aC];have HG:∀x,Chg NoS W0 x→(Instr.lookup 189 (.map (some D)) (iK m.src) true).run prog x= .ok (.tuple #[.agg #[],.bool true]) x:=fun x hx=>u▸SetAt.has (MapAt.kept b9.out hx (fun h=>h)) m.src;clear eS eE u hd;go_enter func132,ntmps132;go_wp2_with (rw[d2.out]);refine rlx [0,0,0,1,0,1,1,0,0,0,2] (fun x=>x.cell? ⟨I,8,none⟩=some (.map (some D))∧x.cell? ⟨W.heap.size,1,none⟩=some (.int .i64 m.src)∧(Instr.lookup 189 (.map (some D)) (iK m.src) true).run prog x= .ok (.tuple #[.agg #[],.bool true]) x) (by kernel_rfl) (fun _ _ _ _=>rfl) ?_ ?_
  ·exact⟨cO E.out.on.1 8 _ rfl,cO N.out 1 _ rfl,HG _ (Chg.refl _ _).drew⟩
  simp only[dC,dB];iterate 10 (apply sB rfl rfl;·(intro x h;(try have h:=h rfl);(try dsimp only at h);go_simp;with_reducible rfl))
  try simp only[pA]
  refine dI rfl (fun C hC=>?_);go_simp;have w:Chg NoS W0 (W0.alloc (.cells #[] 206)).drew:=((Chg.refl _ _).alloc _).drew;have bE:(W0.alloc (.cells #[] 206)).drew.heap[W0.heap.size]?=some (.cells #[] 206 (0,0)):=aA W0 _;generalize (W0.alloc (.cells #[] 206)).drew=W1 at*;refine hC _ _ ⟨cO (w.kept E.out.on.1 (fun h=>h)) 8 _ rfl,cO (w.kept N.out (fun h=>h)) 1 _ rfl,HG _ w⟩ ?_;clear hC C;refine cP ?_;(try simp only[pA]);refine cV rfl 206 _ _ rfl W0.heap.size 0 206 _ _ [] rfl rfl bE (by kernel_rfl) (by simp) (by simp) rfl ?_;intro W2 L c3 b5;have H:=cN (w.fresh L (aE _));clear w bE L c3 b5 HG;go_wp2_with fail
  ((try simp only[Exit.inBlock,Exit.then]);refine bodyPost_ret (results_none rfl _ _ _) rfl ?_)
  have e2:=c6.out.trans H.out (fun _ _ h=>h);exact⟨rfl,F,G,⟨⟨ch,tk,O,wt,_,(E.out.kept H.out).cl⟩,c7.out.kept H.out (fun _ _ h=>h),R.out⟩,⟨e2.mono (fun _ _ h=>h.elim),fun _ h=>Or.inl h,fun _ h=>Or.inl h⟩⟩
 ·have u:o.att.ans.contains m.src=false:=by simpa using u
  have HG:∀x,Chg NoS W0 x→(Instr.lookup 189 (.map (some D)) (iK m.src) true).run prog x= .ok (.tuple #[.agg #[],.bool false]) x:=fun x hx=>u▸SetAt.has (MapAt.kept b9.out hx (fun h=>h)) m.src;clear hd;go_enter func132,ntmps132;go_wp2_with (rw[d2.out]);refine rlx [0,0,0,1,0,1,1,0,0,0,2] (fun x=>x.cell? ⟨I,8,none⟩=some (.map (some D))∧x.cell? ⟨W.heap.size,1,none⟩=some (.int .i64 m.src)∧(Instr.lookup 189 (.map (some D)) (iK m.src) true).run prog x= .ok (.tuple #[.agg #[],.bool false]) x) (by kernel_rfl) (fun _ _ _ _=>rfl) ?_ ?_
  ·exact⟨cO E.out.on.1 8 _ rfl,cO N.out 1 _ rfl,HG _ (Chg.refl _ _).drew⟩
  simp only[dC,dB];iterate 10 (apply sB rfl rfl;·(intro x h;(try have h:=h rfl);(try dsimp only at h);go_simp;with_reducible rfl))
  try simp only[pA]
  refine dI rfl (fun C hC=>?_);go_simp;have w:Chg NoS W0 (W0.alloc (.cells #[] 206)).drew:=((Chg.refl _ _).alloc _).drew;have bE:(W0.alloc (.cells #[] 206)).drew.heap[W0.heap.size]?=some (.cells #[] 206 (0,0)):=aA W0 _;generalize (W0.alloc (.cells #[] 206)).drew=W1 at*;refine hC _ _ ⟨cO (w.kept E.out.on.1 (fun h=>h)) 8 _ rfl,cO (w.kept N.out (fun h=>h)) 1 _ rfl,HG _ w⟩ ?_;clear hC C;refine cP ?_;(try simp only[pA]);refine cV rfl 206 _ _ rfl W0.heap.size 0 206 _ _ [] rfl rfl bE (by kernel_rfl) (by simp) (by simp) rfl ?_;intro W2 L c3 b5;have H:=cN (w.fresh L (aE _));clear w bE L c3 b5 HG;have i:=cN (E.out.kept H.out);have b7:Hid (SetAt W2 D o.att.ans):=MapAt.kept b9.out H.out (fun h=>h);have c5:=cN (H.out.kept N.out (fun h=>h));have a8:=cO i.out.on.1 8 _ rfl;have x1:=cO c5.out 1 _ rfl;go_wp2_with fail;refine eD [0,0,0,1,0,1,0] (by kernel_rfl) (fun _ _ _ _=>rfl) ?_;simp only[dC,dB];iterate 7 (apply sB rfl rfl;·(intro x h;(try cases h rfl);go_simp;with_reducible rfl))
  refine cP ?_;try simp only[pA]
  refine kU rfl _ _ _ _ rfl _ _ _ rfl rfl rfl _ (SetAt.put (W:=W2.drew) b7.out m.src u) ?_;rintro W3 ⟨a7,e4,m3⟩;have d0:=i.out.ansset a7.of_drew b7.out _ m3 a.out.2.2.2.2.2.2;obtain⟨_,_,d6⟩:=MapAt.obj b7.out;have a4:=cN (a7.of_drew.kept c5.out (fun e=>eX c5.out d6 (by simp) e));have a5:=cN d0;have c9:=cN ((H.out.mono (T:=F) (fun _ _ h=>h.elim)).trans a7.of_drew (fun x _ e=>e▸b0));clear a7 e4 m3 d0 d6 a8 x1;have a9:=cO a5.out.on.1 9 _ rfl;have x5:=cO a4.out 5 _ rfl;go_wp2_with fail;by_cases hb:o.att.base<m.base
  ·have e1:decide (o.att.base<m.base)=true:=by simpa using hb
   have Q:=cN hb;clear hb;refine eD [0,1,0,0,0,1,0] (by kernel_rfl) (fun _ _ _ _=>rfl) ?_;simp only[dC,dB];iterate 7 (apply sB rfl rfl;·(intro x h;(try cases h rfl);go_simp;with_reducible rfl))
   refine cP ?_;try simp only[pA]
   go_wp2_with fail;have z9:=cX a5.out.on.1 9;refine rlx [0,0,0,1,0,1,0,0,2,0,0] (fun x=>x.cell? ⟨W.heap.size,5,none⟩=some (.int .i64 m.base)∧(∀j y,(vlL m.val)[j]?=some y→x.cell? ((⟨W.heap.size,6,none⟩:Addr).add j)=some y)) (by kernel_rfl) (fun _ _ _ _=>rfl) ?_ ?_
   ·exact⟨x5,eL a4.out 6 _ (aIF m)⟩
   simp only[dC,dB];iterate 5 (apply sB rfl rfl;·(intro x h;(try have h:=h rfl);(try dsimp only at h);go_simp;with_reducible rfl))
   try simp only[pA]
   refine dA (v:=vlV m.val) rfl (fun x hx=>cU 56 _ rfl ⟨W.heap.size,6,none⟩ rfl (vlL m.val) _ hx.2 underlying56 rfl (by kernel_rfl)) ?_;iterate 2 (apply sB rfl rfl;·(intro x h;(try have h:=h rfl);(try dsimp only at h);go_simp;with_reducible rfl))
   try simp only[pA]
   refine dI rfl (fun C hC=>?_);generalize Z:W3.drew.drew=Wd at*;have B:Kt Wd F b g f {c with doing:=some {o with att:={o.att with ans:=o.att.ans++[m.src]}}} {o with att:={o.att with ans:=o.att.ans++[m.src]}} ch tk O wt I (.map (some D)) mv:=Z▸a5.out.kept (Chg.refl _ _).drew.drew;have S:Wd.heap[W.heap.size]?=some (.cells (mgL m).toArray 66 (0,0)):=Z▸a4.out;have b3:=Z▸c9.out.drew.drew;have d9:=cO B.on.1 9 _ rfl;have e5:=cX B.on.1 9;clear Z;go_simp;have a3:=cY Wd I 9 (.int .i64 m.base);have a6:=B.opset a3 {o with att:={o.att with ans:=o.att.ans++[m.src],base:=m.base}} (dD B.on.1 9 _) rfl (fun h=>absurd h haw) (fun h=>absurd h haw) rfl;have K:=a3.kept S (fun e=>gA S B.on.1 (by decide) e);generalize Wd.setCell ⟨I,9,none⟩ (.int .i64 m.base)=We at*;refine hC _ _ ⟨cO K 5 _ rfl,eL K 6 _ (aIF m)⟩ ?_;clear hC C;(try simp only[pA]);iterate 2 (apply sB rfl rfl;·(intro x h;(try have h:=h rfl);(try dsimp only at h);go_simp;with_reducible rfl))
   refine cP ?_;try simp only[pA]
   refine cV rfl 56 _ _ rfl I 10 195 _ _ (xB (heardOn o m) (.map (some D)) mv) rfl rfl a6.on.1 (by kernel_rfl) (by simp[Value.oneCell']) (by simp) (by unfold heardOn;rw[if_pos Q.out,if_pos Q.out];rfl) ?_;intro t a0 e3 b4;have n:=cN (a6.opset a0 (heardOn o m) b4 rfl (fun h=>absurd h haw) (fun h=>absurd h haw) rfl);have b8:=cN (a0.kept K (fun e=>gA K a6.on.1 (by decide) e));have J:=cN ((b3.trans a3 (fun x _ e=>e▸E.out.on.2.1)).trans a0 (fun x _ e=>e▸E.out.on.2.1));clear B S b3 d9 e5 a3 a6 K a0 e3 b4 a9 x5 z9;go_wp2_with fail;have z:Hid (Went W t F F G G):=⟨((c6.out.mono (T:=F) (fun _ _ h=>h.elim)).trans J.out (fun _ _ h=>h)).mono (fun _ _ h=>Or.inl h),fun _ h=>Or.inl h,fun _ h=>Or.inl h⟩;have c4:=cN (c7.out.kept J.out (fun k hk hs=>R.out k hs hk));have b6:Hid (SetAt t D (heardOn o m).att.ans):=by
    rcases n.out.on.2.2.1 with⟨_,_,h⟩|⟨x,h1,h2,_⟩
    ·exact absurd h haw
    ·have e:D=x:=by simpa using h1
     rw[e];exact h2
   have A:Hid (Sys t F G b g f av cv {c with doing:=some (heardOn o m)} net tr):=⟨⟨ch,tk,O,wt,_,n.out.cl⟩,c4.out,R.out⟩;have d8:=SetAt.size (W:=t.drew) b6.out 3;have r8:=cO n.out.on.1 8 _ rfl;have r0:=n.out.cl.cell 0 _ rfl;have e0:=cO b8.out 0 _ rfl;have q:=cN u;clear u;by_cases s:((heardOn o m).att.ans.length:Int)≤f.f
   ·have V:decide (((heardOn o m).att.ans.length:Int)≤f.f)=true:=by simpa using s
    have d:=cN s;clear s;refine eD [0,0,0,1,1,0,0,0,0,1,0] (by kernel_rfl) (fun _ _ _ _=>rfl) ?_;simp only[dC,dB];iterate 11 (apply sB rfl rfl;·(intro x h;(try cases h rfl);go_simp;with_reducible rfl))
    refine cP ?_;try simp only[pA]
    go_wp2_with fail
    ((try simp only[Exit.inBlock,Exit.then]);refine bodyPost_ret (results_none rfl _ _ _) rfl ?_)
    rw[(tI q.out (by have:=d.out;omega)).1,(tI q.out (by have:=d.out;omega)).2,fF,aC,aC];exact⟨rfl,F,G,A.out.drew,⟨z.out.chg.drew,z.out.f,z.out.g⟩⟩
   ·have V:decide (((heardOn o m).att.ans.length:Int)≤f.f)=false:=by simpa using s
    have d:=cN s;clear s;have c0:Hid (aB2 (heardOn o m).att.val):=by
     show aB2 (if o.att.base<m.base then m.val else o.att.val);split
     ·exact a.out.2.2.2.1
     ·exact a.out.2.2.1
    by_cases p:m.kind=2
    ·have U:(m.kind==2)=true:=by simp[p]
     have i:=cN p;clear p;have HP:Hid (Calls prog 175 #[.pointer (some ⟨b,0,none⟩)] t.drew fun r W'=>r= .returned (.tuple #[])∧After t.drew F G b g f av cv (iJ f {c with doing:=some (heardOn o m)} (heardOn o m)) (net++dJ (gZ f {c with doing:=some (heardOn o m)} (heardOn o m))) (tr++gZ f {c with doing:=some (heardOn o m)} (heardOn o m)) W'):=
      zY t.drew F G b g f av cv {c with doing:=some (heardOn o m)} (heardOn o m) net tr A.out.drew rfl hf1 hf2 hdr1 hdr2 ⟨a.out.1.n1,a.out.1.n2,a.out.1.i1,a.out.1.i2,a.out.1.c1,a.out.1.c2,a.out.1.r1,a.out.1.r2⟩ ⟨a.out.2.1.b1,a.out.2.1.b2,a.out.2.1.t1,a.out.2.1.t2,a.out.2.1.k1,a.out.2.1.k2,a.out.2.1.a1,a.out.2.1.a2⟩ c0.out haw hm a.out.2.2.2.2.1 hn ht
     refine eD [0,0,0,1,1,0,0,0,0,1,0] (by kernel_rfl) (fun _ _ _ _=>rfl) ?_;simp only[dC,dB];iterate 11 (apply sB rfl rfl;·(intro x h;(try cases h rfl);go_simp;with_reducible rfl))
     refine cP ?_;try simp only[pA]
     go_wp2_with (go_at_call 175;refine HP.out.mono ?_;rintro r W5 ⟨rfl,k5⟩)
     ((try simp only[Exit.inBlock,Exit.then]);refine bodyPost_ret (results_none rfl _ _ _) rfl ?_)
     rw[(qH q.out (by have:=d.out;omega) i.out).1,(qH q.out (by have:=d.out;omega) i.out).2];exact⟨rfl,After.trans z.out k5.drew⟩
    ·have U:(m.kind==2)=false:=by simp[p]
     have i:=cN p;clear p;have HE:Hid (Calls prog 164 #[.pointer (some ⟨b,0,none⟩),wB (heardOn o m).att.eres (heardOn o m).att.eown (heardOn o m).att.etok,vlV (heardOn o m).att.val] t.drew.drew fun r W'=>r= .returned (.tuple #[])∧After t.drew.drew F G b g f av cv (gW {c with doing:=some (heardOn o m)} (heardOn o m) (heardOn o m).att.eres (heardOn o m).att.etok (heardOn o m).att.val) net (tr++rK {c with doing:=some (heardOn o m)} (heardOn o m) (heardOn o m).att.eres (heardOn o m).att.eown (heardOn o m).att.etok) W'):=
      yG t.drew.drew F G b g f av cv {c with doing:=some (heardOn o m)} (heardOn o m) net tr _ _ _ _ A.out.drew.drew rfl a.out.1.n1 (by have:=a.out.1.n2;show c.num≤1000;omega) a.out.2.1.b1 (by have:=a.out.2.1.b2;show o.began≤1000000000000;omega) a.out.2.1.t1 (by have:=a.out.2.1.t2;show o.ttl≤1000000;omega) (by omega) (by omega)
     have Y:=cN (eL (W:=t.drew.drew) n.out.on.1 14 _ (aGB _ _ _));have X:=cN (eL (W:=t.drew.drew) n.out.on.1 10 _ (aAD _ _ _));refine eD [0,0,0,1,1,0,0,0,0,1,0] (by kernel_rfl) (fun _ _ _ _=>rfl) ?_;simp only[dC,dB];iterate 11 (apply sB rfl rfl;·(intro x h;(try cases h rfl);go_simp;with_reducible rfl))
     refine cP ?_;try simp only[pA]
     go_wp2_with fail;refine eD [0,0,0,0,1,0,0,0,1] (by kernel_rfl) (fun _ _ _ _=>rfl) ?_;simp only[dC,dB];iterate 4 (apply sB rfl rfl;·(intro x h;(try cases h rfl);go_simp;with_reducible rfl))
     try simp only[pA]
     refine dA (v:=wB (heardOn o m).att.eres (heardOn o m).att.eown (heardOn o m).att.etok) rfl (fun x hx=>cU 191 _ rfl ⟨I,14,none⟩ rfl (rP (heardOn o m).att.eres (heardOn o m).att.eown (heardOn o m).att.etok) _ (by subst hx;exact Y.out) underlying191 rfl (by kernel_rfl)) ?_;iterate 3 (apply sB rfl rfl;·(intro x h;(try cases h rfl);go_simp;with_reducible rfl))
     try simp only[pA]
     refine dA (v:=vlV (heardOn o m).att.val) rfl (fun x hx=>cU 56 _ rfl ⟨I,10,none⟩ rfl (vlL (heardOn o m).att.val) _ (by subst hx;exact X.out) underlying56 rfl (by kernel_rfl)) ?_;refine cP ?_;go_wp2_with (go_at_call 164;refine HE.out.mono ?_;rintro r W5 ⟨rfl,k5⟩);go_end0;rw[(tA q.out (by have:=d.out;omega) i.out).1,(tA q.out (by have:=d.out;omega) i.out).2,rN,aC];exact⟨rfl,After.trans z.out k5.drew.drew⟩
  ·have e1:decide (o.att.base<m.base)=false:=by simpa using hb
   have Q:=cN hb;clear hb;refine eD [0,1,0,0,0,1,0] (by kernel_rfl) (fun _ _ _ _=>rfl) ?_;simp only[dC,dB];iterate 7 (apply sB rfl rfl;·(intro x h;(try cases h rfl);go_simp;with_reducible rfl))
   refine cP ?_;try simp only[pA]
   have n:Hid (Kt W3.drew F b g f {c with doing:=some (heardOn o m)} (heardOn o m) ch tk O wt I (.map (some D)) mv):=by
    have e:heardOn o m={o with att:={o.att with ans:=o.att.ans++[m.src]}}:=by unfold heardOn;rw[if_neg Q.out,if_neg Q.out]
    rw[e];exact a5.out.kept (Chg.refl _ _).drew
   have b8:Hid (W3.drew.heap[W.heap.size]?=some (.cells (mgL m).toArray 66 (0,0))):=a4.out;have J:=cN c9.out.drew;clear a9 x5;generalize W3.drew=t at*;go_wp2_with fail;have z:Hid (Went W t F F G G):=⟨((c6.out.mono (T:=F) (fun _ _ h=>h.elim)).trans J.out (fun _ _ h=>h)).mono (fun _ _ h=>Or.inl h),fun _ h=>Or.inl h,fun _ h=>Or.inl h⟩;have c4:=cN (c7.out.kept J.out (fun k hk hs=>R.out k hs hk));have b6:Hid (SetAt t D (heardOn o m).att.ans):=by
    rcases n.out.on.2.2.1 with⟨_,_,h⟩|⟨x,h1,h2,_⟩
    ·exact absurd h haw
    ·have e:D=x:=by simpa using h1
     rw[e];exact h2
   have A:Hid (Sys t F G b g f av cv {c with doing:=some (heardOn o m)} net tr):=⟨⟨ch,tk,O,wt,_,n.out.cl⟩,c4.out,R.out⟩;have d8:=SetAt.size (W:=t.drew) b6.out 3;have r8:=cO n.out.on.1 8 _ rfl;have r0:=n.out.cl.cell 0 _ rfl;have e0:=cO b8.out 0 _ rfl;have q:=cN u;clear u;by_cases s:((heardOn o m).att.ans.length:Int)≤f.f
   ·have V:decide (((heardOn o m).att.ans.length:Int)≤f.f)=true:=by simpa using s
    have d:=cN s;clear s;refine eD [0,0,0,1,1,0,0,0,0,1,0] (by kernel_rfl) (fun _ _ _ _=>rfl) ?_;simp only[dC,dB];iterate 11 (apply sB rfl rfl;·(intro x h;(try cases h rfl);go_simp;with_reducible rfl))
    refine cP ?_;try simp only[pA]
    go_wp2_with fail
    ((try simp only[Exit.inBlock,Exit.then]);refine bodyPost_ret (results_none rfl _ _ _) rfl ?_)
    rw[(tI q.out (by have:=d.out;omega)).1,(tI q.out (by have:=d.out;omega)).2,fF,aC,aC];exact⟨rfl,F,G,A.out.drew,⟨z.out.chg.drew,z.out.f,z.out.g⟩⟩
   ·have V:decide (((heardOn o m).att.ans.length:Int)≤f.f)=false:=by simpa using s
    have d:=cN s;clear s;have c0:Hid (aB2 (heardOn o m).att.val):=by
     show aB2 (if o.att.base<m.base then m.val else o.att.val);split
     ·exact a.out.2.2.2.1
     ·exact a.out.2.2.1
    by_cases p:m.kind=2
    ·have U:(m.kind==2)=true:=by simp[p]
     have i:=cN p;clear p;have HP:Hid (Calls prog 175 #[.pointer (some ⟨b,0,none⟩)] t.drew fun r W'=>r= .returned (.tuple #[])∧After t.drew F G b g f av cv (iJ f {c with doing:=some (heardOn o m)} (heardOn o m)) (net++dJ (gZ f {c with doing:=some (heardOn o m)} (heardOn o m))) (tr++gZ f {c with doing:=some (heardOn o m)} (heardOn o m)) W'):=
      zY t.drew F G b g f av cv {c with doing:=some (heardOn o m)} (heardOn o m) net tr A.out.drew rfl hf1 hf2 hdr1 hdr2 ⟨a.out.1.n1,a.out.1.n2,a.out.1.i1,a.out.1.i2,a.out.1.c1,a.out.1.c2,a.out.1.r1,a.out.1.r2⟩ ⟨a.out.2.1.b1,a.out.2.1.b2,a.out.2.1.t1,a.out.2.1.t2,a.out.2.1.k1,a.out.2.1.k2,a.out.2.1.a1,a.out.2.1.a2⟩ c0.out haw hm a.out.2.2.2.2.1 hn ht
     refine eD [0,0,0,1,1,0,0,0,0,1,0] (by kernel_rfl) (fun _ _ _ _=>rfl) ?_;simp only[dC,dB];iterate 11 (apply sB rfl rfl;·(intro x h;(try cases h rfl);go_simp;with_reducible rfl))
     refine cP ?_;try simp only[pA]
     go_wp2_with (go_at_call 175;refine HP.out.mono ?_;rintro r W5 ⟨rfl,k5⟩)
     ((try simp only[Exit.inBlock,Exit.then]);refine bodyPost_ret (results_none rfl _ _ _) rfl ?_)
     rw[(qH q.out (by have:=d.out;omega) i.out).1,(qH q.out (by have:=d.out;omega) i.out).2];exact⟨rfl,After.trans z.out k5.drew⟩
    ·have U:(m.kind==2)=false:=by simp[p]
     have i:=cN p;clear p;have HE:Hid (Calls prog 164 #[.pointer (some ⟨b,0,none⟩),wB (heardOn o m).att.eres (heardOn o m).att.eown (heardOn o m).att.etok,vlV (heardOn o m).att.val] t.drew.drew fun r W'=>r= .returned (.tuple #[])∧After t.drew.drew F G b g f av cv (gW {c with doing:=some (heardOn o m)} (heardOn o m) (heardOn o m).att.eres (heardOn o m).att.etok (heardOn o m).att.val) net (tr++rK {c with doing:=some (heardOn o m)} (heardOn o m) (heardOn o m).att.eres (heardOn o m).att.eown (heardOn o m).att.etok) W'):=
      yG t.drew.drew F G b g f av cv {c with doing:=some (heardOn o m)} (heardOn o m) net tr _ _ _ _ A.out.drew.drew rfl a.out.1.n1 (by have:=a.out.1.n2;show c.num≤1000;omega) a.out.2.1.b1 (by have:=a.out.2.1.b2;show o.began≤1000000000000;omega) a.out.2.1.t1 (by have:=a.out.2.1.t2;show o.ttl≤1000000;omega) (by omega) (by omega)
     have Y:=cN (eL (W:=t.drew.drew) n.out.on.1 14 _ (aGB _ _ _));have X:=cN (eL (W:=t.drew.drew) n.out.on.1 10 _ (aAD _ _ _));refine eD [0,0,0,1,1,0,0,0,0,1,0] (by kernel_rfl) (fun _ _ _ _=>rfl) ?_;simp only[dC,dB];iterate 11 (apply sB rfl rfl;·(intro x h;(try cases h rfl);go_simp;with_reducible rfl))
     refine cP ?_;try simp only[pA]
     go_wp2_with fail;refine eD [0,0,0,0,1,0,0,0,1] (by kernel_rfl) (fun _ _ _ _=>rfl) ?_;simp only[dC,dB];iterate 4 (apply sB rfl rfl;·(intro x h;(try cases h rfl);go_simp;with_reducible rfl))
     try simp only[pA]
     refine dA (v:=wB (heardOn o m).att.eres (heardOn o m).att.eown (heardOn o m).att.etok) rfl (fun x hx=>cU 191 _ rfl ⟨I,14,none⟩ rfl (rP (heardOn o m).att.eres (heardOn o m).att.eown (heardOn o m).att.etok) _ (by subst hx;exact Y.out) underlying191 rfl (by kernel_rfl)) ?_;iterate 3 (apply sB rfl rfl;·(intro x h;(try cases h rfl);go_simp;with_reducible rfl))
     try simp only[pA]
     refine dA (v:=vlV (heardOn o m).att.val) rfl (fun x hx=>cU 56 _ rfl ⟨I,10,none⟩ rfl (vlL (heardOn o m).att.val) _ (by subst hx;exact X.out) underlying56 rfl (by kernel_rfl)) ?_;refine cP ?_;go_wp2_with (go_at_call 164;refine HE.out.mono ?_;rintro r W5 ⟨rfl,k5⟩);go_end0;rw[(tA q.out (by have:=d.out;omega) i.out).1,(tA q.out (by have:=d.out;omega) i.out).2,rN,aC];exact⟨rfl,After.trans z.out k5.drew.drew⟩
theorem aJY(a b:Int):(if a<b then b else a)=max a b:=by
 split<;>omega
theorem aHr(W:World)(F G:Nat→Prop)(b g:Nat)(f:Cf)(av cv:Value)(c:Ct)(net:List Mg)(tr:List Ev)(m:Mg)(h:Sys W F G b g f av cv c net tr)(hf1:1≤f.f)(hf2:f.f≤2)(hdr1:0≤f.drift)(hdr2:f.drift≤10)(hc:aAr c)(hvm:aB2 m.val)(hmb1:0≤m.base)(hmb2:m.base≤256255)(hmk:m.kind≠0)
 (ho:∀o,c.doing=some o→aGe o∧aB2 o.att.val∧o.mine.length≤100000000000∧o.att.ans.length≤100000000000) (hw:∀l,0≤(c.wat l).since∧(c.wat l).since≤100000000000) (hn:net.length≤99999999990) (ht:tr.length≤99999999990):
 Calls prog 86 #[.pointer (some ⟨b,0,none⟩),mgV m] W fun r W'=>r= .returned (.tuple #[])∧After W F G b g f av cv (gQ f c m) (net++dJ (iA f c m)) (tr++iA f c m) W':=by
 generalize C:W.alloc (.cells #[.int .i64 m.kind,.int .i64 m.src,.int .i64 m.dst,.int .i64 m.lock,.int .i64 m.bal,.int .i64 m.base,.int .i64 m.val.own,.int .i64 m.val.tok,.int .i64 m.val.ttl,.int .i64 m.val.seq] 66)=W0;have z:=cN C;have K:Chg NoS W W0:=by rw[←C];exact(Chg.refl _ _).alloc _
 have J:W0.heap[W.heap.size]?=some (.cells (mgL m).toArray 66 (0,0)):=by rw[←C];exact aA W _
 have p:=cN (h.kept K (fun _ _ h=>h) (fun _ _ h=>h));have L:=cN J;have d:Hid (Went W W0 F F G G):=⟨K.mono (fun _ _ h=>h.elim),fun _ h=>Or.inl h,fun _ h=>Or.inl h⟩;have s:=p.out.cl;obtain⟨ch,tk,a6,wt,dv,s⟩:=s;have U:∀q,c.up=q→Hid (∀x,x=W0.drew→Calls prog 90 #[.pointer (some ⟨b,0,none⟩)] x fun e w'=>e= .returned (.bool q)∧w'=x):=fun q e x hx=>by
  subst hx;subst e;exact wO W0.drew b ch c.up (s.cell 9 _ rfl) s.chan
 have b2:=s.cell 16 _ rfl;have x4:=cO J 4 _ rfl;have i:=cN (aLm hc hvm hw);have B:=cN s;clear C K J h hc hvm hw;cases hu:c.up
 ·have w:gQ f c m=c:=by unfold gQ;rw[if_pos hu]
  have u:iA f c m=[]:=by unfold iA;rw[if_pos hu]
  rw[w,u,fF,aC,aC];clear w u;have y:=U _ hu;clear U hu ho s;go_enter func86,ntmps86;go_wp2_with (rw[z.out]);refine eD [0,1,0,0,0,0,0,1,0,0,0,0,1,0,0,0,1,0,0,0,1,0,0] (by kernel_rfl) (fun _ _ _ _=>rfl) ?_;simp only[dC,dB];iterate 1 (apply sB rfl rfl;·(intro x h;(try cases h rfl);go_simp;with_reducible rfl))
  try simp only[pA]
  refine eW (v:=.bool false) (f:=90) (args:=#[.pointer (some ⟨b,0,none⟩)]) rfl (fun x hx=>by subst hx;go_simp;try rfl) (fun x hx=>y.out x hx) ?_;(try simp only[pA]);iterate 21 ((try simp only[pA]);first|(apply sB rfl rfl;·(intro x h;(try cases h rfl);go_simp;with_reducible rfl))|apply dN rfl|apply dL rfl)
  refine cP ?_;try simp only[pA]
  go_wp2_with fail
  ((try simp only[Exit.inBlock,Exit.then]);refine bodyPost_ret (results_none rfl _ _ _) rfl ?_)
  exact⟨rfl,F,G,p.out.drew,⟨d.out.chg.drew,d.out.f,d.out.g⟩⟩
 ·have y:=U _ hu;clear U;have A:=s.doing;clear s;cases hd:c.doing with
  |none=>
   rw[hd]at A;obtain rfl:dv= .pointer none:=A;have w:gQ f c m=c:=by unfold gQ;rw[if_neg (by simp[hu]),hd]
   have u:iA f c m=[]:=by unfold iA;rw[if_neg (by simp[hu]),hd]
   rw[w,u,fF,aC,aC];clear w u;clear hu hd ho;go_enter func86,ntmps86;go_wp2_with (rw[z.out]);refine eD [0,1,0,0,0,0,0,1,0,0,0,0,1,0,0,0,1,0,0,0,1,0,0] (by kernel_rfl) (fun _ _ _ _=>rfl) ?_;simp only[dC,dB];iterate 1 (apply sB rfl rfl;·(intro x h;(try cases h rfl);go_simp;with_reducible rfl))
   try simp only[pA]
   refine eW (v:=.bool true) (f:=90) (args:=#[.pointer (some ⟨b,0,none⟩)]) rfl (fun x hx=>by subst hx;go_simp;try rfl) (fun x hx=>y.out x hx) ?_;(try simp only[pA]);iterate 21 ((try simp only[pA]);first|(apply sB rfl rfl;·(intro x h;(try cases h rfl);go_simp;with_reducible rfl))|apply dN rfl|apply dL rfl)
   refine cP ?_;try simp only[pA]
   go_wp2_with fail
   ((try simp only[Exit.inBlock,Exit.then]);refine bodyPost_ret (results_none rfl _ _ _) rfl ?_)
   exact⟨rfl,F,G,p.out.drew,⟨d.out.chg.drew,d.out.f,d.out.g⟩⟩
  |some o=>
   rw[hd]at A;obtain⟨ob,an,mv,rfl,N,a1⟩:=A;obtain⟨T,a3,a9,a0⟩:=ho o hd;have o5:=cO N.1 5 _ rfl;have Z:=cN N;clear N a1;by_cases a:m.bal=o.att.bal
   ·have a4:(m.bal !=o.att.bal)=false:=by simp[a]
    have x0:=cO L.out 0 _ rfl;by_cases j:m.kind=5
    ·have Y:(m.kind==5)=true:=by simp[j]
     have w:gQ f c m=lA f {c with round:=max c.round (m.base / 256)} o:=by unfold gQ;rw[if_neg (by simp[hu]),hd];exact(if_neg (by simp[a])).trans (if_pos j)
     have u:iA f c m=kH f {c with round:=max c.round (m.base / 256)} o:=by unfold iA;rw[if_neg (by simp[hu]),hd];exact(if_neg (by simp[a])).trans (if_pos j)
     rw[w,u];clear w u;have HD:=cN hd;clear hu hd ho a j hmk;have a7:=B.out.cell 12 _ rfl;have x5:=cO L.out 5 _ rfl;obtain⟨M,X⟩:=aLw (max c.round (m.base / 256));rw[←X];have HM:=cN X;clear X;have b3:m.base.tdiv 256=m.base / 256:=Int.tdiv_eq_ediv_of_nonneg hmb1;have b4:IntKind.i64.wrap (m.base / 256)=m.base / 256:=fX (by omega) (by omega);go_enter func86,ntmps86;go_wp2_with (rw[z.out]);refine eD [0,1,0,0,0,0,0,1,0,0,0,0,1,0,0,0,1,0,0,0,1,0,0] (by kernel_rfl) (fun _ _ _ _=>rfl) ?_;simp only[dC,dB];iterate 1 (apply sB rfl rfl;·(intro x h;(try cases h rfl);go_simp;with_reducible rfl))
     try simp only[pA]
     refine eW (v:=.bool true) (f:=90) (args:=#[.pointer (some ⟨b,0,none⟩)]) rfl (fun x hx=>by subst hx;go_simp;try rfl) (fun x hx=>y.out x hx) ?_;(try simp only[pA]);iterate 21 ((try simp only[pA]);first|(apply sB rfl rfl;·(intro x h;(try cases h rfl);go_simp;with_reducible rfl))|apply dN rfl|apply dL rfl)
     refine cP ?_;try simp only[pA]
     go_wp2_with fail;refine eD [0,0,0,0,1,0,1,0,0,0,0] (by kernel_rfl) (fun _ _ _ _=>rfl) ?_;simp only[dC,dB];iterate 11 (apply sB rfl rfl;·(intro x h;(try cases h rfl);go_simp;with_reducible rfl))
     refine cP ?_;try simp only[pA]
     (try rw[aJY]);rw[←HM.out];generalize D:W0.drew.drew=Wd at*;have n:=D▸B.out.kept (S:=NoS) (Chg.refl _ _).drew.drew (fun _ _ h=>h);have E:=D▸p.out.drew.drew.nt;have P:Went W Wd F F G G:=D▸⟨d.out.chg.drew.drew,d.out.f,d.out.g⟩;clear D;have b5:=n.cell 12 _ rfl;have b1:=n.froz 12;have O:=cY Wd b 12 (.int .i64 M);have I:=n.cells O {c with round:=M} (.pointer (some ⟨ob,0,none⟩)) rfl rfl rfl rfl (dD n.blk 12 _) (n.doing.kept n.blk (by decide) (by decide) O);have H:=E.kept O (fun k hk e=>p.out.apart b B.out.fb (e▸hk));have R:=P.trans (⟨O.mono (fun k _ e=>Or.inl (e▸B.out.fb)),fun _ h=>Or.inl h,fun _ h=>Or.inl h⟩:Went Wd (Wd.setCell ⟨b,12,none⟩ (.int .i64 M)) F F G G);generalize Q:Wd.setCell ⟨b,12,none⟩ (.int .i64 M)=W4 at*;have a5:=cN Q;have a2:=cN R;have HE:Hid (Calls prog 131 #[.pointer (some ⟨b,0,none⟩)] W4 fun r W'=>r= .returned (.tuple #[])∧After W4 F G b g f av cv (lA f {c with round:=M} o) (net++dJ (kH f {c with round:=M} o)) (tr++kH f {c with round:=M} o) W'):=
      uE W4 F G b g f av cv {c with round:=M} o net tr ⟨⟨ch,tk,a6,wt,_,I⟩,H,p.out.apart⟩ HD.out hf1 hf2 (by rw[HM.out];exact⟨i.out.1.n1,i.out.1.n2,i.out.1.i1,i.out.1.i2,i.out.1.c1,i.out.1.c2,by have:=i.out.1.r1;show 0≤max c.round (m.base / 256);omega,by have:=i.out.1.r2;show max c.round (m.base / 256)≤1000;omega⟩) T hn ht
     clear Q n E P O I H R a7 x5;go_wp2_with (first|rw[a5.out]|(go_at_call 131;refine HE.out.mono ?_;rintro r W5 ⟨rfl,V⟩));go_end0;exact⟨rfl,After.trans a2.out V⟩
    ·have Y:(m.kind==5)=false:=by simp[j]
     have o7:=cO Z.out.1 7 _ rfl;by_cases t:m.kind=o.att.awaited
     ·have b0:(m.kind==o.att.awaited)=true:=by simp[t]
      have w:gQ f c m=jT f c o m:=by unfold gQ;rw[if_neg (by simp[hu]),hd];exact((if_neg (by simp[a])).trans (if_neg j)).trans (if_pos t)
      have u:iA f c m=jW f c o m:=by unfold iA;rw[if_neg (by simp[hu]),hd];exact((if_neg (by simp[a])).trans (if_neg j)).trans (if_pos t)
      rw[w,u];clear w u;have HC:Hid (Calls prog 132 #[.pointer (some ⟨b,0,none⟩),mgV m] W0.drew fun r W'=>r= .returned (.tuple #[])∧After W0.drew F G b g f av cv (jT f c o m) (net++dJ (jW f c o m)) (tr++jW f c o m) W'):=
       aGW W0.drew F G b g f av cv c o net tr m p.out.drew hd hf1 hf2 hdr1 hdr2 i.out.1 T a3 i.out.2.1 (fun e=>hmk (t.trans e)) a9 i.out.2.2 a0 hn ht
      have a8:=cN (cR (W:=W0.drew) L.out);clear hu hd ho a j t hmk;go_enter func86,ntmps86;go_wp2_with (rw[z.out]);refine eD [0,1,0,0,0,0,0,1,0,0,0,0,1,0,0,0,1,0,0,0,1,0,0] (by kernel_rfl) (fun _ _ _ _=>rfl) ?_;simp only[dC,dB];iterate 1 (apply sB rfl rfl;·(intro x h;(try cases h rfl);go_simp;with_reducible rfl))
      try simp only[pA]
      refine eW (v:=.bool true) (f:=90) (args:=#[.pointer (some ⟨b,0,none⟩)]) rfl (fun x hx=>by subst hx;go_simp;try rfl) (fun x hx=>y.out x hx) ?_;(try simp only[pA]);iterate 21 ((try simp only[pA]);first|(apply sB rfl rfl;·(intro x h;(try cases h rfl);go_simp;with_reducible rfl))|apply dN rfl|apply dL rfl)
      refine cP ?_;try simp only[pA]
      go_wp2_with (first|(refine cW rfl 66 _ rfl ⟨W.heap.size,0,none⟩ rfl (mgL m) _ a8.out underlying66 rfl (by kernel_rfl) ?_)|(go_at_call 132;refine HC.out.mono ?_;rintro r W5 ⟨rfl,V⟩));go_end0;exact⟨rfl,After.trans d.out V.drew⟩
     ·have b0:(m.kind==o.att.awaited)=false:=by simp[t]
      have w:gQ f c m=c:=by unfold gQ;rw[if_neg (by simp[hu]),hd];exact((if_neg (by simp[a])).trans (if_neg j)).trans (if_neg t)
      have u:iA f c m=[]:=by unfold iA;rw[if_neg (by simp[hu]),hd];exact((if_neg (by simp[a])).trans (if_neg j)).trans (if_neg t)
      rw[w,u,fF,aC,aC];clear w u;clear hu hd ho a j t;go_enter func86,ntmps86;go_wp2_with (rw[z.out]);refine eD [0,1,0,0,0,0,0,1,0,0,0,0,1,0,0,0,1,0,0,0,1,0,0] (by kernel_rfl) (fun _ _ _ _=>rfl) ?_;simp only[dC,dB];iterate 1 (apply sB rfl rfl;·(intro x h;(try cases h rfl);go_simp;with_reducible rfl))
      try simp only[pA]
      refine eW (v:=.bool true) (f:=90) (args:=#[.pointer (some ⟨b,0,none⟩)]) rfl (fun x hx=>by subst hx;go_simp;try rfl) (fun x hx=>y.out x hx) ?_;(try simp only[pA]);iterate 21 ((try simp only[pA]);first|(apply sB rfl rfl;·(intro x h;(try cases h rfl);go_simp;with_reducible rfl))|apply dN rfl|apply dL rfl)
      refine cP ?_;try simp only[pA]
      go_wp2_with fail;go_end0;exact⟨rfl,F,G,p.out.drew,⟨d.out.chg.drew,d.out.f,d.out.g⟩⟩
   ·have a4:(m.bal !=o.att.bal)=true:=by simp[a]
    have w:gQ f c m=c:=by unfold gQ;rw[if_neg (by simp[hu]),hd];exact if_pos a
    have u:iA f c m=[]:=by unfold iA;rw[if_neg (by simp[hu]),hd];exact if_pos a
    rw[w,u,fF,aC,aC];clear w u;clear hu hd ho a;go_enter func86,ntmps86;go_wp2_with (rw[z.out]);refine eD [0,1,0,0,0,0,0,1,0,0,0,0,1,0,0,0,1,0,0,0,1,0,0] (by kernel_rfl) (fun _ _ _ _=>rfl) ?_;simp only[dC,dB];iterate 1 (apply sB rfl rfl;·(intro x h;(try cases h rfl);go_simp;with_reducible rfl))
    try simp only[pA]
    refine eW (v:=.bool true) (f:=90) (args:=#[.pointer (some ⟨b,0,none⟩)]) rfl (fun x hx=>by subst hx;go_simp;try rfl) (fun x hx=>y.out x hx) ?_;(try simp only[pA]);iterate 21 ((try simp only[pA]);first|(apply sB rfl rfl;·(intro x h;(try cases h rfl);go_simp;with_reducible rfl))|apply dN rfl|apply dL rfl)
    refine cP ?_;try simp only[pA]
    go_wp2_with fail
    ((try simp only[Exit.inBlock,Exit.then]);refine bodyPost_ret (results_none rfl _ _ _) rfl ?_)
    exact⟨rfl,F,G,p.out.drew,⟨d.out.chg.drew,d.out.f,d.out.g⟩⟩
theorem aDu(c:Ct)(k l t:Int):(eI c k l t).num=c.num∧(eI c k l t).inc=c.inc∧(eI c k l t).clock=c.clock∧(eI c k l t).round=c.round∧(eI c k l t).doing=c.doing∧(eI c k l t).up=c.up∧(eI c k l t).wat=c.wat∧(eI c k l t).toks=c.toks:=by
 unfold eI;split
 ·exact⟨rfl,rfl,rfl,rfl,rfl,rfl,rfl,rfl⟩
 ·split<;>exact⟨rfl,rfl,rfl,rfl,rfl,rfl,rfl,rfl⟩
theorem yX(W:World)(F G:Nat→Prop)(b g:Nat)(f:Cf)(av cv:Value)(c:Ct)(net:List Mg)(tr:List Ev)(k l t:Int)(h:Sys W F G b g f av cv c net tr)(hf1:1≤f.f)(hf2:f.f≤2)(hc:aAr c)(ht1:0≤t)(ht2:t≤1000)(hn:net.length≤99999999990)(ht:tr.length≤99999999980):
 Calls prog 81 #[.pointer (some ⟨b,0,none⟩),opV k l t] W fun r W'=>r= .returned (.int .i64 (jH c))∧After W F G b g f av cv (gU c k l t) (net++dJ (iB f c k l t)) (tr++iB f c k l t) W':=by
 generalize I:W.alloc (.cells #[.int .i64 k,.int .i64 l,.int .i64 t] 68)=W0;have Z:=cN I;have V:Chg NoS W W0:=by rw[←I];exact(Chg.refl _ _).alloc _
 have Y:W0.heap[W.heap.size]?=some (.cells #[.int .i64 k,.int .i64 l,.int .i64 t] 68 (0,0)):=by rw[←I];exact aA W _
 have p:=cN (h.kept V (fun _ _ h=>h) (fun _ _ h=>h));have b2:=cN Y;have u:Hid (Went W W0 F F G G):=⟨V.mono (fun _ _ h=>h.elim),fun _ h=>Or.inl h,fun _ h=>Or.inl h⟩;have i:=p.out.cl;obtain⟨ch,tk,d3,wt,dv,i⟩:=i;have HU:∀q,c.up=q→Hid (Calls prog 90 #[.pointer (some ⟨b,0,none⟩)] W0 fun e w'=>e= .returned (.bool q)∧w'=W0):=fun q e=>e▸wO W0 b ch c.up (i.cell 9 _ rfl) i.chan;have e3:=i.cell 16 _ rfl;have b0:=cN i;have y:=cN hc;have a6:=dG Y;have e5:=cN a6;have a9:Hid (¬F W.heap.size∧¬G W.heap.size):=⟨fun a=>by have:=h.ltF _ a;omega,fun a=>by have:=h.nt.lt _ a;omega⟩;clear I V Y h hc a6;cases hu:c.up
 ·have m:jH c=2:=by unfold jH;rw[if_pos hu]
  have M:gU c k l t=c:=by unfold gU;rw[if_pos (by rw[m];decide)]
  have L:iB f c k l t=[]:=by unfold iB;rw[if_pos (by rw[m];decide)]
  rw[m,M,L,fF,aC,aC];clear M L;have H:=HU _ hu;clear m hu HU i;go_enter func81,ntmps81;go_wp2_with (first|rw[Z.out]|(go_at_call 90;refine H.out.mono ?_;rintro e w' ⟨rfl,N⟩;have z:=N.symm;subst z;clear N));go_ret;exact⟨rfl,F,G,p.out,u.out⟩
 ·have H:=HU _ hu;have E:=i.doing;clear HU i;cases hd:c.doing with
  |some o=>
   rw[hd]at E;obtain⟨ob,an,mv,rfl,_,_⟩:=E;have m:jH c=4:=by unfold jH;rw[if_neg (by simp[hu]),hd];rfl
   have M:gU c k l t=c:=by unfold gU;rw[if_pos (by rw[m];decide)]
   have L:iB f c k l t=[]:=by unfold iB;rw[if_pos (by rw[m];decide)]
   rw[m,M,L,fF,aC,aC];clear M L;clear m hu hd;go_enter func81,ntmps81;go_wp2_with (first|rw[Z.out]|(go_at_call 90;refine H.out.mono ?_;rintro e w' ⟨rfl,N⟩;have z:=N.symm;subst z;clear N));go_ret;exact⟨rfl,F,G,p.out,u.out⟩
  |none=>
   rw[hd]at E;obtain rfl:dv= .pointer none:=E;have m:jH c=0:=by unfold jH;rw[if_neg (by simp[hu]),hd];rfl
   have M:gU c k l t=gE (eI {c with doing:=some (newOn c k l t)} k l t) (newOn c k l t):=by unfold gU;rw[if_neg (by rw[m];decide)]
   have L:iB f c k l t=mO c.num (newOn c k l t)::fO f (eI {c with doing:=some (newOn c k l t)} k l t) (newOn c k l t):=by unfold iB;rw[if_neg (by rw[m];decide)]
   rw[m,M,L];clear M L;clear m hu hd;have d5:=b0.out.cell 11 _ rfl;have b3:=cN (cR (W:=W0.drew) b2.out);go_enter func81,ntmps81;go_wp2_with (first|rw[Z.out]|(go_at_call 90;refine H.out.mono ?_;rintro e w' ⟨rfl,N⟩;have z:=N.symm;subst z;clear N));refine eD [0,1,0,0,0,1,0] (by kernel_rfl) (fun _ _ _ _=>rfl) ?_;simp only[dC,dB];iterate 1 (apply sB rfl rfl;·(intro x h;(try cases h rfl);go_simp;with_reducible rfl))
   try simp only[pA]
   refine dA (v:=opV k l t) rfl (fun x hx=>cU 68 _ rfl ⟨W.heap.size,0,none⟩ rfl [.int .i64 k,.int .i64 l,.int .i64 t] _ (by subst hx;exact b3.out) underlying68 rfl (by kernel_rfl)) ?_;iterate 5 (apply sB rfl rfl;·(intro x h;(try cases h rfl);go_simp;with_reducible rfl))
   refine cP ?_;try simp only[pA]
   generalize s:W0.drew=Wd at*;have j:=s▸b0.out.kept (S:=NoS) (Chg.refl _ _).drew (fun _ _ h=>h);have A:=s▸p.out.drew.nt;have a5:Wd.heap[W.heap.size]?=some (.cells #[.int .i64 k,.int .i64 l,.int .i64 t] 68 (0,0)):=s▸b2.out;have b8:Went W Wd F F G G:=s▸⟨u.out.chg.drew,u.out.f,u.out.g⟩;have b9:=p.out.apart;clear s;have w:Chg NoS Wd (Wd.alloc (.cells #[.int .i64 k,.int .i64 l,.int .i64 t,.int .i64 c.clock,.int .i64 0,.int .i64 0,.int .i64 0,.int .i64 0,.map none,.int .i64 0,.int .i64 0,.int .i64 0,.int .i64 0,.int .i64 0,.int .i64 0,.int .i64 0,.int .i64 0,.slice none 0 0] 195)):=(Chg.refl _ _).alloc _;have a1:(Wd.alloc (.cells #[.int .i64 k,.int .i64 l,.int .i64 t,.int .i64 c.clock,.int .i64 0,.int .i64 0,.int .i64 0,.int .i64 0,.map none,.int .i64 0,.int .i64 0,.int .i64 0,.int .i64 0,.int .i64 0,.int .i64 0,.int .i64 0,.int .i64 0,.slice none 0 0] 195)).heap[Wd.heap.size]?=some (.cells (xB (newOn c k l t) (.map none) (.slice none 0 0)).toArray 195 (0,0)):=aA Wd _;have d2:(Wd.alloc (.cells #[.int .i64 k,.int .i64 l,.int .i64 t,.int .i64 c.clock,.int .i64 0,.int .i64 0,.int .i64 0,.int .i64 0,.map none,.int .i64 0,.int .i64 0,.int .i64 0,.int .i64 0,.int .i64 0,.int .i64 0,.int .i64 0,.int .i64 0,.slice none 0 0] 195)).heap.size=Wd.heap.size+1:=by simp
   generalize b6:Wd.alloc (.cells #[.int .i64 k,.int .i64 l,.int .i64 t,.int .i64 c.clock,.int .i64 0,.int .i64 0,.int .i64 0,.int .i64 0,.map none,.int .i64 0,.int .i64 0,.int .i64 0,.int .i64 0,.int .i64 0,.int .i64 0,.int .i64 0,.int .i64 0,.slice none 0 0] 195)=W1 at*;have c8:=cN b6;have d:=(j.kept w (fun _ _ h=>h)).grow (F':=fun q=>F q∨q=Wd.heap.size) (fun _ h=>Or.inl h) (fun q a=>by
    rcases a with a|rfl
    ·have:=j.lt q a;omega
    ·omega)
   have e2:=d.cell 16 _ rfl;have c7:=d.froz 16;have P:=gA d.blk a1 (by decide);have a:=cY W1 b 16 (.pointer (some ⟨Wd.heap.size,0,none⟩));have O:OnAt (W1.setCell ⟨b,16,none⟩ (.pointer (some ⟨Wd.heap.size,0,none⟩))) (fun q=>F q∨q=Wd.heap.size) Wd.heap.size (.map none) (.slice none 0 0) (newOn c k l t):=
    ⟨a.kept a1 (fun e=>P e.symm),Or.inr rfl,Or.inl ⟨rfl,rfl,rfl⟩,⟨rfl,Or.inl ⟨rfl,rfl⟩⟩,fun q a=>by cases a⟩
   have n:=d.cells a {c with doing:=some (newOn c k l t)} (.pointer (some ⟨Wd.heap.size,0,none⟩)) rfl rfl rfl rfl (dD d.blk 16 _) ⟨Wd.heap.size,.map none,.slice none 0 0,rfl,O,by simp,by simp,by simp⟩;have B:∀q,(F q∨q=Wd.heap.size)→¬G q:=fun q a hg=>by
    rcases a with a|rfl
    ·exact b9 q a hg
    ·have:=A.lt _ hg;omega
   have Q:=(A.kept w (fun _ _ h=>h)).kept a (fun q hg e=>B b d.fb (e▸hg));have a3:=a.kept (w.kept a5 (fun h=>h)) (fun e=>a9.out.1 (by have:=j.fb;rw[e];exact this));have b7:Went W (W1.setCell ⟨b,16,none⟩ (.pointer (some ⟨Wd.heap.size,0,none⟩))) F (fun q=>F q∨q=Wd.heap.size) G G:=b8.trans ⟨((w.mono (T:=F) (fun _ _ h=>h.elim)).trans a (fun x _ e=>e▸j.fb)).mono (fun _ _ h=>Or.inl h),fun q a=>by
    rcases a with a|rfl
    ·exact Or.inl a
    ·exact Or.inr (aE _),fun _ h=>Or.inl h⟩
   generalize c0:W1.setCell ⟨b,16,none⟩ (.pointer (some ⟨Wd.heap.size,0,none⟩))=W2 at*;have d7:=cN c0;have d6:=n.cell 10 _ rfl;have e7:W2.cell? ⟨b,7,none⟩=some (.int .i64 c.num):=n.cell 7 _ rfl;have d4:=cN b7;have e4:=cN a3;have HR:Hid (Calls prog 77 #[.pointer (some ⟨g,0,none⟩),evV (mO c.num (newOn c k l t))] W2.drew fun r W'=>r= .returned (.tuple #[])∧∃G',Sys W' (fun q=>F q∨q=Wd.heap.size) G' b g f av cv {c with doing:=some (newOn c k l t)} (net++dJ [mO c.num (newOn c k l t)]) (tr++[mO c.num (newOn c k l t)])∧Chg G W2.drew W'∧∀q,G' q→G q∨W2.drew.heap.size≤q):=
    jY W2.drew _ G b g f av cv _ net tr (mO c.num (newOn c k l t)) (Sys.drew ⟨⟨ch,tk,d3,wt,_,n⟩,Q,B⟩) (by omega) (by omega)
   have e0:=cN (cR (W:=W2.drew) a3);clear b6 c0 d n Q O a w a1 d2 j A a5 b8 b9 B a3 b7 b3 P d5 e3;go_wp2_with (first|rw[c8.out]|rw[d7.out]);refine eD [0,0,0,1,0,0,0,1,1,0] (by kernel_rfl) (fun _ _ _ _=>rfl) ?_;simp only[dC,dB];iterate 8 (apply sB rfl rfl;·(intro x h;(try cases h rfl);go_simp;with_reducible rfl))
   try simp only[pA]
   refine dA (v:=opV k l t) rfl (fun x hx=>cU 68 _ rfl ⟨W.heap.size,0,none⟩ rfl [.int .i64 k,.int .i64 l,.int .i64 t] _ (by subst hx;exact e0.out) underlying68 rfl (by kernel_rfl)) ?_;iterate 1 (apply sB rfl rfl;·(intro x h;(try cases h rfl);go_simp;with_reducible rfl))
   refine cP ?_;try simp only[pA]
   go_wp2_with fail;refine HR.out.mono ?_;rintro r W3 ⟨rfl,G3,a2,a4,a8⟩;have b4:=a4.of_drew.kept e4.out a9.out.2;have d9:=cN (cR b4);rw[fE _ (show(2:Int)≠1 by decide),aC]at a2;have c4:=d4.out.trans ⟨a4.of_drew.mono (fun _ _ h=>Or.inr h),fun _ h=>Or.inl h,a8⟩;have X:=cN a2;have d0:=cN c4;obtain⟨⟨R,K,D,J,a0,C⟩,c5,c6⟩:=a2;have c9:Hid (Calls prog 123 #[.pointer (some ⟨b,0,none⟩),opV k l t] W3 fun r W'=>r= .returned (.tuple #[])∧ClAt W' (fun q=>F q∨q=Wd.heap.size) b g f (eI {c with doing:=some (newOn c k l t)} k l t) R K D J a0∧Chg (S3 K D J) W3 W'):=
    aDC W3 _ b g f {c with doing:=some (newOn c k l t)} R K D J a0 k l t C y.out.c1 (by have:=y.out.c2;show c.clock≤1000000000000;omega) ht1 (by omega)
   have b5:=cN C.inF;clear a4 a8 b4 c4 C c5 c6 d6 e7 e2 c7;go_wp2_with (first|(refine cW rfl 68 _ rfl ⟨W.heap.size,0,none⟩ rfl [.int .i64 k,.int .i64 l,.int .i64 t] _ d9.out underlying68 rfl (by kernel_rfl) ?_)|(go_at_call 123;refine c9.out.mono ?_;rintro r W4 ⟨rfl,k1,k2⟩;refine cQ ?_));have a7:Sys W4 (fun q=>F q∨q=Wd.heap.size) G3 b g f av cv (eI {c with doing:=some (newOn c k l t)} k l t) net (tr++[mO c.num (newOn c k l t)]):=⟨⟨R,K,D,J,a0,k1⟩,X.out.nt.kept k2 (fun q a hs=>X.out.apart q (b5.out q hs) a),X.out.apart⟩;have c3:=d0.out.trans (⟨k2.mono (fun q _ hs=>Or.inl (b5.out q hs)),fun _ h=>Or.inl h,fun _ h=>Or.inl h⟩:Went W3 W4 (fun q=>F q∨q=Wd.heap.size) (fun q=>F q∨q=Wd.heap.size) G3 G3);have U:=aDu {c with doing:=some (newOn c k l t)} k l t;have b1:aAr (eI {c with doing:=some (newOn c k l t)} k l t):=by
    obtain⟨s1,s2,s3,s4,_⟩:=U;have q:=y.out;refine⟨?_,?_,?_,?_,?_,?_,?_,?_⟩
    ·rw[s1];exact q.n1
    ·rw[s1];exact q.n2
    ·rw[s2];exact q.i1
    ·rw[s2];exact q.i2
    ·rw[s3];exact q.c1
    ·rw[s3];exact q.c2
    ·rw[s4];exact q.r1
    ·rw[s4];exact q.r2
   have d1:=cN (rX W4 _ G3 b g f av cv (eI {c with doing:=some (newOn c k l t)} k l t) (newOn c k l t) net (tr++[mO c.num (newOn c k l t)]) a7 U.2.2.2.2.1 hf1 hf2 b1 ⟨y.out.c1,y.out.c2,ht1,ht2,by show(0:Int)≤0;omega,by show(0:Int)≤100000000000;omega,by show(0:Int)≤0;omega,by show(0:Int)≤100000000000;omega⟩ hn (by rw[aD,aK];omega));have d8:=cN c3;clear a7 c3 U b1 k1 k2;refine cN ?_;go_wp2_with (first|(go_at_call 124;refine d1.out.mono ?_;rintro r W5 ⟨rfl,k5⟩));go_ret;refine⟨rfl,After.trans d8.out ?_⟩;rw[aS]at k5;have e:dJ (mO c.num (newOn c k l t)::fO f (eI {c with doing:=some (newOn c k l t)} k l t) (newOn c k l t))=dJ (fO f (eI {c with doing:=some (newOn c k l t)} k l t) (newOn c k l t)):=by
    simp[dJ,aAa,mO]
   rw[e];exact k5
section
open Go.RowKit Go.Extern.Stop Go.Stop Go.Extern
theorem aHZ(t:Addr)(w:World):(ReflectliteValue.unpack (.iface 237 (.pointer (some t)))).run prog w
 = .ok (.agg #[.pointer (some ⟨2,237,none⟩),.pointer (some ⟨w.heap.size,0,none⟩),.int .u64 150]) (w.alloc (.cells #[.pointer (some t)] 237)):=by kernel_rfl
theorem aKU(a:Addr)(w:World):(ReflectliteValue.methodAny (ReflectliteValue.valueError "reflectlite.Value.Type" 0) (fun t _ _ _=>ReflectliteType.toType t) #[.agg #[.pointer (some ⟨2,237,none⟩),.pointer (some a),.int .u64 150]]).run prog w
 = .ok (.iface 295 (.agg #[.pointer (some ⟨2,237,none⟩)])) w:=by kernel_rfl
theorem aF6(h:Value)(w:World):(Go.method 457 295 (.agg #[h]) "Kind").run prog w= .ok (261,h) w:=by kernel_rfl
theorem aKH(w:World):((ReflectliteType.abiMethod fun t=>(fun a:Nat=>Value.int IntKind.u8 (a:Int))<$>Rtype.kind t) #[.pointer (some ⟨2,237,none⟩)]).run prog w= .ok (.int .u8 22) w:=by kernel_rfl
theorem aK5(w:World):((ReflectliteType.abiMethod fun t=>(fun a:Nat=>Value.int IntKind.u8 (a:Int))<$>Rtype.kind t) #[.pointer (some ⟨2,234,none⟩)]).run prog w= .ok (.int .u8 22) w:=by kernel_rfl
theorem rlm(z:Sem Value)(f:TypeId→Addr→Nat→Nat→Sem Value)(v:Value):
 ReflectliteValue.method z f #[v]=(ReflectliteValue.parts v>>=fun o=>match o with|none=>z|some (t,a,fl)=>f t a fl (fl % 32)):=rfl
theorem aGF(a:Addr)(w:World):(ReflectliteValue.parts (.agg #[.pointer (some ⟨2,237,none⟩),.pointer (some a),.int .u64 150])).run prog w= .ok (some (237,a,150)) w:=by kernel_rfl
theorem aKn(a p:Addr)(W:World)(ha:W.cell? a=some (.pointer (some p))):
 (ReflectliteValue.method (ReflectliteValue.valueError "reflectlite.Value.IsNil" 0) ReflectliteValue.isNil #[.agg #[.pointer (some ⟨2,237,none⟩),.pointer (some a),.int .u64 150]]).run prog W= .ok (.bool false) W:=by
 rw[rlm];simp only[aT,aGF,Result.andThen];simp[ReflectliteValue.isNil,loadVar,isAgg,underlying,underlying237,ha,Result.andThen]
section
variable (h:Value) (w:World)
theorem aFG:(Go.method 457 295 (.agg #[h]) "Elem").run prog w= .ok (272,.agg #[h]) w:=by kernel_rfl
theorem zO:(Go.method 457 295 (.agg #[h]) "Implements").run prog w= .ok (273,.agg #[h]) w:=by kernel_rfl
theorem wF:(Go.method 457 295 (.agg #[h]) "AssignableTo").run prog w= .ok (270,.agg #[h]) w:=by kernel_rfl
end
theorem aKL(w:World):(ReflectliteType.method ReflectliteType.elem #[.agg #[.pointer (some ⟨2,237,none⟩)]]).run prog w= .ok (.iface 295 (.agg #[.pointer (some ⟨2,234,none⟩)])) w:=by kernel_rfl
theorem aEY(w:World):(ReflectliteType.relation "Implements" ReflectliteType.implements_ #[.agg #[.pointer (some ⟨2,234,none⟩)],.iface 295 (.agg #[.pointer (some ⟨2,202,none⟩)])]).run prog w= .ok (.bool true) w:=by kernel_rfl
theorem aKe(v:Value)(w:World):(ReflectliteType.typeOf #[.iface 234 v]).run prog w= .ok (.iface 295 (.agg #[.pointer (some ⟨2,234,none⟩)])) w:=by kernel_rfl
theorem aEk(w:World):(ReflectliteType.relation "AssignableTo" ReflectliteType.assignableTo #[.agg #[.pointer (some ⟨2,234,none⟩)],.iface 295 (.agg #[.pointer (some ⟨2,234,none⟩)])]).run prog w= .ok (.bool true) w:=by kernel_rfl
theorem aIY(e:Addr)(w:World):(ReflectliteValue.unpack (.iface 234 (.pointer (some e)))).run prog w
 = .ok (.agg #[.pointer (some ⟨2,234,none⟩),.pointer (some ⟨w.heap.size,0,none⟩),.int .u64 150]) (w.alloc (.cells #[.pointer (some e)] 234)):=by kernel_rfl
theorem aIt(w:World):(Rtype.elem? 237).run prog w= .ok (some 234) w:=by kernel_rfl
theorem mkP(p:Addr)(w:World):(ReflectliteValue.mk 234 p ReflectliteValue.flagAddr).run prog w= .ok (.agg #[.pointer (some ⟨2,234,none⟩),.pointer (some p),.int .u64 406]) w:=by kernel_rfl
theorem aJ0(a p:Addr)(W:World)(ha:W.cell? a=some (.pointer (some p))):
 (ReflectliteValue.method (ReflectliteValue.valueError "reflectlite.Value.Elem" 0) ReflectliteValue.elem #[.agg #[.pointer (some ⟨2,237,none⟩),.pointer (some a),.int .u64 150]]).run prog W
  = .ok (.agg #[.pointer (some ⟨2,234,none⟩),.pointer (some p),.int .u64 406]) W:=by
 rw[rlm];simp only[aT,aGF,Result.andThen];simp[ReflectliteValue.elem,loadVar,isAgg,underlying,underlying237,ha,Result.andThen,aIt,mkP]
theorem aJX(a:Addr)(w:World):(ReflectliteValue.parts (.agg #[.pointer (some ⟨2,234,none⟩),.pointer (some a),.int .u64 406])).run prog w= .ok (some (234,a,406)) w:=by kernel_rfl
theorem aKR(a:Addr)(w:World):(ReflectliteValue.parts (.agg #[.pointer (some ⟨2,234,none⟩),.pointer (some a),.int .u64 150])).run prog w= .ok (some (234,a,150)) w:=by kernel_rfl
theorem aJF(w:World):(Rtype.directlyAssignable 234 234).run prog w= .ok true w:=by kernel_rfl
theorem rls(v x:Value):ReflectliteValue.set #[v,x]=(do
 let (some (dst,a,fl),some (src,b,_)):=(←ReflectliteValue.parts v,←ReflectliteValue.parts x)
  |unsupported (.noEntry "extern/(internal/reflectlite.Value).Set.zeroValue")
 if fl / ReflectliteValue.flagAddr % 2==0 then unsupported (.noEntry "extern/(internal/reflectlite.Value).Set.unaddressable")
 let val←loadVar src b
 if←Rtype.directlyAssignable dst src then storeVar dst a val
 else if←Rtype.implements dst src then
  if(←Rtype.kind src)==20 then
   match val with
   |.nilIface=>unsupported (.noEntry "extern/reflectlite: a nil value of one interface type handed on as a value of another")
   |_=>storeVar dst a val
  else storeVar dst a (.iface src val)
 else panicString ("reflectlite.Set: value of type "++(←Rtype.spelt src)++" is not assignable to type "++(←Rtype.spelt dst))
 pure (.tuple #[])):=rfl
theorem aLg(ta b e:Addr)(old:Value)(W:World)(hb:W.cell? b=some (.pointer (some e)))(ht:W.cell? ta=some old)(hf:W.frozen? ta=false):
 (ReflectliteValue.set #[.agg #[.pointer (some ⟨2,234,none⟩),.pointer (some ta),.int .u64 406],.agg #[.pointer (some ⟨2,234,none⟩),.pointer (some b),.int .u64 150]]).run prog W
  = .ok (.tuple #[]) (W.setCell ta (.pointer (some e))):=by
 rw[rls];simp only[aT,aJX,aKR,Result.andThen];simp[ReflectliteValue.flagAddr,loadVar,isAgg,underlying,underlying234,hb,Result.andThen,aJF,storeVar,Value.cells,storeCells,Addr.add];rw[run_store prog W ta _ _ (by rfl)];simp[ht,hf]
theorem aKK(e t:Addr)(old:Value)(w:World)(hg:w.cell? ⟨1,0,none⟩=some aJc)(hlt:1<w.heap.size)(ht0:w.cell? t=some old)(hf0:w.frozen? t=false):
 Calls prog 168 #[.iface 234 (.pointer (some e)),.iface 237 (.pointer (some t))] w fun ev w'=>ev= .returned (.bool true)∧w'=((((w.alloc (.cells #[.pointer (some t)] 237)).alloc (.cells #[.pointer (some ⟨2,237,none⟩),.pointer (some ⟨w.heap.size,0,none⟩),.int .u64 150] 264)).alloc (.cells #[.pointer (some ⟨2,237,none⟩),.pointer (some ⟨w.heap.size,0,none⟩),.int .u64 150] 264)).alloc (.cells #[.pointer (some e)] 234)).setCell t (.pointer (some e)):=by
 have x:= @run_callFunc_extern prog 192 _ (fun args=>ReflectliteValue.unpack (args.getD 0 (.tuple #[]))) func192 (by kernel_rfl) (by kernel_rfl) (by kernel_rfl) (by kernel_rfl);have A:= @run_callFunc_extern prog 193 _ (ReflectliteValue.methodAny (ReflectliteValue.valueError "reflectlite.Value.Type" 0) (fun t _ _ _=>ReflectliteType.toType t)) func193 (by kernel_rfl) (by kernel_rfl) (by kernel_rfl) (by kernel_rfl);have z:= @run_callFunc_extern prog 194 _ (ReflectliteValue.method (ReflectliteValue.valueError "reflectlite.Value.IsNil" 0) ReflectliteValue.isNil) func194 (by kernel_rfl) (by kernel_rfl) (by kernel_rfl) (by kernel_rfl);have d:= @run_callFunc_extern prog 261 _ (ReflectliteType.abiMethod fun t=>do pure (.int .u8 (←Rtype.kind t))) func261 (by kernel_rfl) (by kernel_rfl) (by kernel_rfl) (by kernel_rfl);have f:= @run_callFunc_extern prog 272 _ (ReflectliteType.method ReflectliteType.elem) func272 (by kernel_rfl) (by kernel_rfl) (by kernel_rfl) (by kernel_rfl);have g:= @run_callFunc_extern prog 273 _ (ReflectliteType.relation "Implements" ReflectliteType.implements_) func273 (by kernel_rfl) (by kernel_rfl) (by kernel_rfl) (by kernel_rfl);have n:= @run_callFunc_extern prog 190 _ ReflectliteType.typeOf func190 (by kernel_rfl) (by kernel_rfl) (by kernel_rfl) (by kernel_rfl);have l:= @run_callFunc_extern prog 270 _ (ReflectliteType.relation "AssignableTo" ReflectliteType.assignableTo) func270 (by kernel_rfl) (by kernel_rfl) (by kernel_rfl) (by kernel_rfl)
 have q:= @run_callFunc_extern prog 219 _ (ReflectliteValue.method (ReflectliteValue.valueError "reflectlite.Value.Elem" 0) ReflectliteValue.elem) func219 (by kernel_rfl) (by kernel_rfl) (by kernel_rfl) (by kernel_rfl);have j:= @run_callFunc_extern prog 220 _ ReflectliteValue.set func220 (by kernel_rfl) (by kernel_rfl) (by kernel_rfl) (by kernel_rfl);have r:=aKe;have F:=wF;have o:=aEk;have p:=aIY;have D:=aHZ;have y:=aKU;have v:=aF6;have E:=aFG;have C:=zO;have i:=aKH;have m:=aK5;have k:=aKL;have c:=aEY;have B:=aKn ⟨w.heap.size,0,none⟩ t ((w.alloc (.cells #[.pointer (some t)] 237)).alloc (.cells #[.pointer (some ⟨2,237,none⟩),.pointer (some ⟨w.heap.size,0,none⟩),.int .u64 150] 264)) (by simp);have b:((w.alloc (.cells #[.pointer (some t)] 237)).alloc (.cells #[.pointer (some ⟨2,237,none⟩),.pointer (some ⟨w.heap.size,0,none⟩),.int .u64 150] 264)).cell? ⟨1,0,none⟩=some aJc:=by
  rw[bJ _ _ ⟨1,0,none⟩ (by simp;omega),bJ _ _ ⟨1,0,none⟩ hlt];exact hg
 have a:t.block<w.heap.size:=by
  rcases Nat.lt_or_ge t.block w.heap.size with h|h
  ·exact h
  ·simp[World.cell?,Array.getElem?_eq_none h]at ht0
 have s:=aJ0 ⟨w.heap.size,0,none⟩ t (((w.alloc (.cells #[.pointer (some t)] 237)).alloc (.cells #[.pointer (some ⟨2,237,none⟩),.pointer (some ⟨w.heap.size,0,none⟩),.int .u64 150] 264)).alloc (.cells #[.pointer (some ⟨2,237,none⟩),.pointer (some ⟨w.heap.size,0,none⟩),.int .u64 150] 264)) (by rw[bJ _ _ ⟨w.heap.size,0,none⟩ (by simp;omega)];simp);have u:=aLg t ⟨w.heap.size+1+1+1,0,none⟩ e old ((((w.alloc (.cells #[.pointer (some t)] 237)).alloc (.cells #[.pointer (some ⟨2,237,none⟩),.pointer (some ⟨w.heap.size,0,none⟩),.int .u64 150] 264)).alloc (.cells #[.pointer (some ⟨2,237,none⟩),.pointer (some ⟨w.heap.size,0,none⟩),.int .u64 150] 264)).alloc (.cells #[.pointer (some e)] 234))
  (by rw[World.cell?_alloc_at _ _ _ _ (by simp)];rfl)
  (by rw[bJ _ _ t (by simp;omega),bJ _ _ t (by simp;omega),bJ _ _ t (by simp;omega),bJ _ _ t a];exact ht0)
  (by rw[World.frozen?_alloc_old _ _ t (by simp;omega),World.frozen?_alloc_old _ _ t (by simp;omega),World.frozen?_alloc_old _ _ t (by simp;omega),World.frozen?_alloc_old _ _ t (Nat.ne_of_lt a)];exact hf0)
 go_enter func168,ntmps168;go_wp2;refine wp_loop_rounds 1 ?_;rw[rounds_succ];go_wp2;go_ret;exact⟨rfl,rfl⟩
theorem aIu(fb t:Nat)(w:World)(hg:w.cell? ⟨1,0,none⟩=some aJc)(h1lt:1<w.heap.size)(ht:w.heap[t]?=some (.cells #[.pointer none] 234 (0,0))):
 Calls prog 168 #[.iface 234 (.pointer (some ⟨fb,0,none⟩)),.iface 237 (.pointer (some ⟨t,0,none⟩))] w fun ev w'=>ev= .returned (.bool true)∧Chg (fun x=>x=t) w w'∧w'.heap[t]?=some (.cells #[.pointer (some ⟨fb,0,none⟩)] 234 (0,0)):=by
 refine(aKK ⟨fb,0,none⟩ ⟨t,0,none⟩ (.pointer none) w hg h1lt (cO ht 0 _ rfl) (cX ht 0)).mono ?_;rintro e w' ⟨rfl,rfl⟩;have a:=dG ht;refine⟨rfl,((((((Chg.refl _ _).alloc _).alloc _).alloc _).alloc _).setCell _ _ (fun _=>rfl)),dD (dM _ (dM _ (dM _ (dM _ ht)))) 0 _⟩
end
section
open Go.RowKit Go.Maps
theorem aAR(pa pe:Nat)(w:World):
 CallsD prog 127 #[.pointer (some ⟨pa,0,none⟩),.pointer (some ⟨pe,0,none⟩)] .returning w fun e u' w'=>e= .returned (.tuple #[])∧u'= .returning∧w'=w:=by
 refine callsD_of_wpS func127 rfl fun c₀ cs hu=>?_;apply wpS_seq;apply wpS_region;simp[wpOpsS,go_sem,recoverD,hu,ntmps127,Exit.thenS];refine wpS_of_wp ?_;go_wp2;cases c₀;simp_all [bodyPostS,results,results127]
theorem aBW(q:Int)(w:World):(Instr.typeAssert (.iface 199 (.agg #[.int .i64 q])) 20 199 true).run prog w= .ok (.tuple #[.agg #[.int .i64 q],.bool true]) w:=by
 simp[Instr.typeAssert,run_underlying underlying199]
theorem aIf(pa pe:Value)(x:Value):(#[pa,pe]++(Array.replicate 13 undef).setIfInBounds 3 x:Array Value)=#[pa,pe,undef,undef,undef,x,undef,undef,undef,undef,undef,undef,undef,undef,undef]:=by
 rfl
theorem aHK(W:World)(F G:Nat→Prop)(b g:Nat)(av cv:Value)(a:Ac)(net:List Mg)(tr:List Ev)(q:Int)(pa pe:Nat)(h:ASys W F G b g av cv a net tr)(hk:aHP a.dk)(hq:0≤q)(hn:net.length≤100000000000)(ht:tr.length≤100000000000)
 (ha:W.heap[pa]?=some (.cells #[.pointer (some ⟨b,0,none⟩)] 114 (0,0))) (he:W.heap[pe]?=some (.cells #[.int .i64 0] 48 (0,0))) (hpF:¬F pe) (hpG:¬G pe):
 CallsD prog 127 #[.pointer (some ⟨pa,0,none⟩),.pointer (some ⟨pe,0,none⟩)] (.panicking (rT q)) W fun e u' w'=>e= .returned (.tuple #[])∧u'= .panicking [{v:=.iface 199 (.agg #[.int .i64 q]),recovered:=true}]∧
  ∃W1,AfterA W F G b g av cv (crashA a q) net (tr++[eO a.num]) W1∧W1.heap[pe]?=W.heap[pe]?∧w'=W1.setCell ⟨pe,0,none⟩ (.int .i64 6):=by
 have hta:=aBW q;have hc1:Chg NoS W (W.alloc (.cells #[.int .i64 q] 199)):=(Chg.refl _ _).alloc _;have hb1:=aA W (.cells #[.int .i64 q] 199);have a1:=dM (.cells #[.int .i64 q] 199) ha;have e1:=dM (.cells #[.int .i64 q] 199) he;have hpe:=dG he;have h1:=h.kept hc1 (fun _ _ h=>h) (fun _ _ h=>h);have hs1:(W.alloc (.cells #[.int .i64 q] 199)).heap.size=W.heap.size+1:=by simp
 generalize hX1:W.alloc (.cells #[.int .i64 q] 199)=W1 at*;have HX1:=cN hX1;have k0:W1.cell? ⟨pa,0,none⟩=some (.pointer (some ⟨b,0,none⟩)):=cO a1 0 _ rfl;have k1:W1.cell? ⟨W.heap.size,0,none⟩=some (.int .i64 q):=cO hb1 0 _ rfl;have HCR:=cN (wP W1 F G b g av cv a net tr q h1 hk hq hn ht);have HC1:=cN hc1;have HS1:=cN hs1;have HE1:=cN e1;have HE:=cN he;have HH:=cN h;have HPE:=cN hpe;clear hX1 hc1 hb1 a1 e1 h1 hs1 ha he h hk hn ht hpe;refine callsD_of_wpS func127 rfl fun c₀ cs hu=>?_;apply wpS_seq;apply wpS_region;simp[wpOpsS,go_sem,recoverD,hu,ntmps127,Exit.thenS];refine wpS_of_wp ?_;try rw[aIf]
 go_wp2_with (first|rw[HX1.out]|(go_at_call 128;refine HCR.out.mono ?_;rintro e w2 ⟨rfl,haf⟩;have HAF:=cN haf;clear haf;refine cQ ?_));refine cN ?_;have hpe2:w2.heap[pe]?=W1.heap[pe]?:=by
  obtain⟨F',G',_,hw⟩:=HAF.out;exact hw.chg.block pe (by have:=HS1.out;have:=HPE.out;omega) (fun h=>h.elim hpF hpG)
 have e2:=hpe2.trans HE1.out;have f2:=cX e2 0;have g2:=cO e2 0 _ rfl;have HE2:=cN (hpe2.trans (HE1.out.trans HE.out.symm));clear hpe2 e2;go_wp2;cases c₀;simp_all [bodyPostS,results,results127];exact⟨w2,AfterA.trans ⟨HC1.out.mono (fun _ _ h=>h.elim),fun _ h=>Or.inl h,fun _ h=>Or.inl h⟩ HAF.out,HE2.out,rfl⟩
end
end Go.Proofs.YtbbdgokdfhdpiaaGreatDoor
