/- A part. -/
import Derived.LaidEql
import Derived.RowKitTokens
import Derived.Stop.Asserts
import Derived.Test.YtbbdgokdfhdpiaaGreatDoorA17
namespace Go.Proofs.YtbbdgokdfhdpiaaGreatDoor
set_option linter.all false
set_option maxRecDepth 100000
set_option maxHeartbeats 0
open Go.Proofs.Tryz Go.RowKit
theorem aGN(o:On)(an mv:Value):∀j x,(rN o.att.eres o.att.eown o.att.etok)[j]?=some x→(wJ o an mv).toArray[14+j]?=some x:=by
 intro j x a;have b:j<3:=(aF.1 a).1;rcases j with _|_|_|j
 ·exact a
 ·exact a
 ·exact a
 ·omega
theorem aJp(m:Mg):∀j x,(vlL m.val)[j]?=some x→(mgL m).toArray[6+j]?=some x:=by
 intro j x a;have b:j<4:=(aF.1 a).1;rcases j with _|_|_|_|j
 ·exact a
 ·exact a
 ·exact a
 ·exact a
 ·omega
section
variable {f:Cf}{c:Ct}{o:On}{m:Mg}
theorem tI(h:o.att.ans.contains m.src=false)(h2:((heardOn o m).att.ans.length:Int)≤f.f):jT f c o m={c with doing:=some (heardOn o m)}∧kB f c o m=[]:=by
 have hneg:¬o.att.ans.contains m.src=true:=by rw[h];decide
 constructor
 ·unfold jT;rw[if_neg hneg];exact if_pos h2
 ·unfold kB;rw[if_neg hneg];exact if_pos h2
theorem qJ(h:o.att.ans.contains m.src=false)(h2:¬((heardOn o m).att.ans.length:Int)≤f.f)(h3:m.kind=2):jT f c o m=iG f {c with doing:=some (heardOn o m)} (heardOn o m)∧kB f c o m=gZ f {c with doing:=some (heardOn o m)} (heardOn o m):=by
 have hneg:¬o.att.ans.contains m.src=true:=by rw[h];decide
 constructor
 ·unfold jT;rw[if_neg hneg];exact(if_neg h2).trans (if_pos h3)
 ·unfold kB;rw[if_neg hneg];exact(if_neg h2).trans (if_pos h3)
theorem sI(h:o.att.ans.contains m.src=false)(h2:¬((heardOn o m).att.ans.length:Int)≤f.f)(h3:m.kind≠2):jT f c o m=gW c (heardOn o m) (heardOn o m).att.eres (heardOn o m).att.etok (heardOn o m).att.val∧kB f c o m=rH c (heardOn o m) (heardOn o m).att.eres (heardOn o m).att.eown (heardOn o m).att.etok:=by
 have a:¬o.att.ans.contains m.src=true:=by rw[h];decide
 constructor
 ·unfold jT;rw[if_neg a];exact(if_neg h2).trans (if_neg h3)
 ·unfold kB;rw[if_neg a];exact(if_neg h2).trans (if_neg h3)
end
theorem aHK(W:World)(F G:Nat→Prop)(b g:Nat)(f:Cf)(av cv:Value)(c:Ct)(o:On)(net:List Mg)(tr:List Ev)(m:Mg)(h:Sys W F G b g f av cv c net tr)(hd:c.doing=some o)(hf1:1≤f.f)(hf2:f.f≤2)(hdr1:0≤f.drift)(hdr2:f.drift≤10)(hc:aAz c)(ho:aF2 o)(hv:aCa o.att.val)(hvm:aCa m.val)
 (haw:o.att.awaited≠0) (hm:o.mine.length≤100000000000) (hw:∀l,0≤(c.wat l).since∧(c.wat l).since≤100000000000) (hla:o.att.ans.length≤100000000000) (hn:net.length≤99999999990) (ht:tr.length≤99999999990):
 Calls prog 132 #[.pointer (some ⟨b,0,none⟩),mgV m] W fun r W'=>r= .returned (.tuple #[])∧After W F G b g f av cv (jT f c o m) (net++dJ (kB f c o m)) (tr++kB f c o m) W':=by
 obtain⟨⟨ch,tk,J,wt,dv,d7⟩,d1,d3⟩:=h;obtain⟨I,an,mv,rfl,hk⟩:=d7.kt hd;obtain⟨D,rfl,c8,b0⟩:∃D,an= .map (some D)∧SetAt W D o.att.ans∧F D:=by
  rcases hk.on.2.2.1 with⟨_,_,h⟩|h
  ·exact absurd h haw
  ·exact h
 generalize O:W.alloc (.cells #[.int .i64 m.kind,.int .i64 m.src,.int .i64 m.dst,.int .i64 m.lock,.int .i64 m.bal,.int .i64 m.base,.int .i64 m.val.own,.int .i64 m.val.tok,.int .i64 m.val.ttl,.int .i64 m.val.seq] 66)=W0;have d2:=cN O;have N:Chg NoS W W0:=by rw[←O];exact(Chg.refl _ _).alloc _
 have d6:W0.heap[W.heap.size]?=some (.cells (mgL m).toArray 66 (0,0)):=by rw[←O];exact aA W _
 have c9:W0.heap.size=W.heap.size+1:=by rw[←O];simp
 have E:=cN (hk.kept N);have c4:Hid (SetAt W0 D o.att.ans):=MapAt.kept c8 N (fun h=>h);have b5:=cN (d1.kept N (fun _ _ h=>h));have M:=cN d6;have b8:=cN N;have e6:=cN c9;have P:=cN d3;have a:=cN (aLt hc ho hv hvm hw hd b0);have e7:=E.out.cl.cell 16 _ rfl;clear O N d6 c9 hk c8 d1 d7 d3 hc ho hv hvm hw;by_cases u:o.att.ans.contains m.src=true
 ·have eS:jT f c o m=c:=by unfold jT;rw[if_pos u]
  have eE:kB f c o m=[]:=by unfold kB;rw[if_pos u]
  rw[eS,eE,fF,aC,aC];have HG:∀x,Chg NoS W0 x→(Instr.lookup 189 (.map (some D)) (iK m.src) true).run prog x= .ok (.tuple #[.agg #[],.bool true]) x:=fun x hx=>u▸SetAt.has (MapAt.kept c4.out hx (fun h=>h)) m.src;clear eS eE u hd;go_enter func132,ntmps132;go_wp2_with (rw[d2.out]);refine rlx [0,0,0,1,0,1,1,0,0,0,2] (fun x=>x.cell? ⟨I,8,none⟩=some (.map (some D))∧x.cell? ⟨W.heap.size,1,none⟩=some (.int .i64 m.src)∧(Instr.lookup 189 (.map (some D)) (iK m.src) true).run prog x= .ok (.tuple #[.agg #[],.bool true]) x) (by kernel_rfl) (fun _ _ _ _=>rfl) ?_ ?_
  ·exact⟨cO E.out.on.1 8 _ rfl,cO M.out 1 _ rfl,HG _ (Chg.refl _ _).drew⟩
  simp only[dC,dB];iterate 10 (apply sB rfl rfl;·(intro x h;(try have h:=h rfl);(try dsimp only at h);go_simp;with_reducible rfl))
  try simp only[pA]
  refine dI rfl (fun C hC=>?_);go_simp;have z:Chg NoS W0 (W0.alloc (.cells #[] 206)).drew:=((Chg.refl _ _).alloc _).drew;have bE:(W0.alloc (.cells #[] 206)).drew.heap[W0.heap.size]?=some (.cells #[] 206 (0,0)):=aA W0 _;generalize (W0.alloc (.cells #[] 206)).drew=W1 at*;refine hC _ _ ⟨cO (z.kept E.out.on.1 (fun h=>h)) 8 _ rfl,cO (z.kept M.out (fun h=>h)) 1 _ rfl,HG _ z⟩ ?_;clear hC C;refine cP ?_;(try simp only[pA]);refine cV rfl 206 _ _ rfl W0.heap.size 0 206 _ _ [] rfl rfl bE (by kernel_rfl) (by simp) (by simp) rfl ?_;intro W2 L b6 c6;have H:=cN (z.fresh L (aE _));clear z bE L b6 c6 HG;go_wp2_with fail
  ((try simp only[Exit.inBlock,Exit.then]);refine bodyPost_ret (results_none rfl _ _ _) rfl ?_)
  have e3:=b8.out.trans H.out (fun _ _ h=>h);exact⟨rfl,F,G,⟨⟨ch,tk,J,wt,_,(E.out.kept H.out).cl⟩,b5.out.kept H.out (fun _ _ h=>h),P.out⟩,⟨e3.mono (fun _ _ h=>h.elim),fun _ h=>Or.inl h,fun _ h=>Or.inl h⟩⟩
 ·have u:o.att.ans.contains m.src=false:=by simpa using u
  have HG:∀x,Chg NoS W0 x→(Instr.lookup 189 (.map (some D)) (iK m.src) true).run prog x= .ok (.tuple #[.agg #[],.bool false]) x:=fun x hx=>u▸SetAt.has (MapAt.kept c4.out hx (fun h=>h)) m.src;clear hd;go_enter func132,ntmps132;go_wp2_with (rw[d2.out]);refine rlx [0,0,0,1,0,1,1,0,0,0,2] (fun x=>x.cell? ⟨I,8,none⟩=some (.map (some D))∧x.cell? ⟨W.heap.size,1,none⟩=some (.int .i64 m.src)∧(Instr.lookup 189 (.map (some D)) (iK m.src) true).run prog x= .ok (.tuple #[.agg #[],.bool false]) x) (by kernel_rfl) (fun _ _ _ _=>rfl) ?_ ?_
  ·exact⟨cO E.out.on.1 8 _ rfl,cO M.out 1 _ rfl,HG _ (Chg.refl _ _).drew⟩
  simp only[dC,dB];iterate 10 (apply sB rfl rfl;·(intro x h;(try have h:=h rfl);(try dsimp only at h);go_simp;with_reducible rfl))
  try simp only[pA]
  refine dI rfl (fun C hC=>?_);go_simp;have z:Chg NoS W0 (W0.alloc (.cells #[] 206)).drew:=((Chg.refl _ _).alloc _).drew;have bE:(W0.alloc (.cells #[] 206)).drew.heap[W0.heap.size]?=some (.cells #[] 206 (0,0)):=aA W0 _;generalize (W0.alloc (.cells #[] 206)).drew=W1 at*;refine hC _ _ ⟨cO (z.kept E.out.on.1 (fun h=>h)) 8 _ rfl,cO (z.kept M.out (fun h=>h)) 1 _ rfl,HG _ z⟩ ?_;clear hC C;refine cP ?_;(try simp only[pA]);refine cV rfl 206 _ _ rfl W0.heap.size 0 206 _ _ [] rfl rfl bE (by kernel_rfl) (by simp) (by simp) rfl ?_;intro W2 L b6 c6;have H:=cN (z.fresh L (aE _));clear z bE L b6 c6 HG;have i:=cN (E.out.kept H.out);have c7:Hid (SetAt W2 D o.att.ans):=MapAt.kept c4.out H.out (fun h=>h);have c0:=cN (H.out.kept M.out (fun h=>h));have a8:=cO i.out.on.1 8 _ rfl;have x1:=cO c0.out 1 _ rfl;go_wp2_with fail;refine eD [0,0,0,1,0,1,0] (by kernel_rfl) (fun _ _ _ _=>rfl) ?_;simp only[dC,dB];iterate 7 (apply sB rfl rfl;·(intro x h;(try cases h rfl);go_simp;with_reducible rfl))
  refine cP ?_;try simp only[pA]
  refine kT rfl _ _ _ _ rfl _ _ _ rfl rfl rfl _ (SetAt.put (W:=W2.drew) c7.out m.src u) ?_;rintro W3 ⟨a3,e1,m3⟩;have d4:=i.out.ansset a3.of_drew c7.out _ m3 a.out.2.2.2.2.2.2;obtain⟨_,_,d5⟩:=MapAt.obj c7.out;have a4:=cN (a3.of_drew.kept c0.out (fun e=>eX c0.out d5 (by simp) e));have a5:=cN d4;have d0:=cN ((H.out.mono (T:=F) (fun _ _ h=>h.elim)).trans a3.of_drew (fun x _ e=>e▸b0));clear a3 e1 m3 d4 d5 a8 x1;have a9:=cO a5.out.on.1 9 _ rfl;have x5:=cO a4.out 5 _ rfl;go_wp2_with fail;by_cases hb:o.att.base<m.base
  ·have e4:decide (o.att.base<m.base)=true:=by simpa using hb
   have Q:=cN hb;clear hb;refine eD [0,1,0,0,0,1,0] (by kernel_rfl) (fun _ _ _ _=>rfl) ?_;simp only[dC,dB];iterate 7 (apply sB rfl rfl;·(intro x h;(try cases h rfl);go_simp;with_reducible rfl))
   refine cP ?_;try simp only[pA]
   go_wp2_with fail;have z9:=cX a5.out.on.1 9;refine rlx [0,0,0,1,0,1,0,0,2,0,0] (fun x=>x.cell? ⟨W.heap.size,5,none⟩=some (.int .i64 m.base)∧(∀j y,(vlL m.val)[j]?=some y→x.cell? ((⟨W.heap.size,6,none⟩:Addr).add j)=some y)) (by kernel_rfl) (fun _ _ _ _=>rfl) ?_ ?_
   ·exact⟨x5,eL a4.out 6 _ (aJp m)⟩
   simp only[dC,dB];iterate 5 (apply sB rfl rfl;·(intro x h;(try have h:=h rfl);(try dsimp only at h);go_simp;with_reducible rfl))
   try simp only[pA]
   refine dA (v:=vlV m.val) rfl (fun x hx=>cU 56 _ rfl ⟨W.heap.size,6,none⟩ rfl (vlL m.val) _ hx.2 underlying56 rfl (by kernel_rfl)) ?_;iterate 2 (apply sB rfl rfl;·(intro x h;(try have h:=h rfl);(try dsimp only at h);go_simp;with_reducible rfl))
   try simp only[pA]
   refine dI rfl (fun C hC=>?_);generalize Z:W3.drew.drew=Wd at*;have B:Kt Wd F b g f {c with doing:=some {o with att:={o.att with ans:=o.att.ans++[m.src]}}} {o with att:={o.att with ans:=o.att.ans++[m.src]}} ch tk J wt I (.map (some D)) mv:=Z▸a5.out.kept (Chg.refl _ _).drew.drew;have V:Wd.heap[W.heap.size]?=some (.cells (mgL m).toArray 66 (0,0)):=Z▸a4.out;have b3:=Z▸d0.out.drew.drew;have d9:=cO B.on.1 9 _ rfl;have e2:=cX B.on.1 9;clear Z;go_simp;have a6:=cY Wd I 9 (.int .i64 m.base);have a7:=B.opset a6 {o with att:={o.att with ans:=o.att.ans++[m.src],base:=m.base}} (dD B.on.1 9 _) rfl (fun h=>absurd h haw) (fun h=>absurd h haw) rfl;have R:=a6.kept V (fun e=>gA V B.on.1 (by decide) e);generalize Wd.setCell ⟨I,9,none⟩ (.int .i64 m.base)=We at*;refine hC _ _ ⟨cO R 5 _ rfl,eL R 6 _ (aJp m)⟩ ?_;clear hC C;(try simp only[pA]);iterate 2 (apply sB rfl rfl;·(intro x h;(try have h:=h rfl);(try dsimp only at h);go_simp;with_reducible rfl))
   refine cP ?_;try simp only[pA]
   refine cV rfl 56 _ _ rfl I 10 195 _ _ (wJ (heardOn o m) (.map (some D)) mv) rfl rfl a7.on.1 (by kernel_rfl) (by simp[Value.oneCell']) (by simp) (by unfold heardOn;rw[if_pos Q.out,if_pos Q.out];rfl) ?_;intro t a0 e5 b4;have s:=cN (a7.opset a0 (heardOn o m) b4 rfl (fun h=>absurd h haw) (fun h=>absurd h haw) rfl);have c5:=cN (a0.kept R (fun e=>gA R a7.on.1 (by decide) e));have K:=cN ((b3.trans a6 (fun x _ e=>e▸E.out.on.2.1)).trans a0 (fun x _ e=>e▸E.out.on.2.1));clear B V b3 d9 e2 a6 a7 R a0 e5 b4 a9 x5 z9;go_wp2_with fail;have w:Hid (Went W t F F G G):=⟨((b8.out.mono (T:=F) (fun _ _ h=>h.elim)).trans K.out (fun _ _ h=>h)).mono (fun _ _ h=>Or.inl h),fun _ h=>Or.inl h,fun _ h=>Or.inl h⟩;have b9:=cN (b5.out.kept K.out (fun k hk hs=>P.out k hs hk));have c3:Hid (SetAt t D (heardOn o m).att.ans):=by
    rcases s.out.on.2.2.1 with⟨_,_,h⟩|⟨x,h1,h2,_⟩
    ·exact absurd h haw
    ·have e:D=x:=by simpa using h1
     rw[e];exact h2
   have A:Hid (Sys t F G b g f av cv {c with doing:=some (heardOn o m)} net tr):=⟨⟨ch,tk,J,wt,_,s.out.cl⟩,b9.out,P.out⟩;have d8:=SetAt.size (W:=t.drew) c3.out 3;have r8:=cO s.out.on.1 8 _ rfl;have r0:=s.out.cl.cell 0 _ rfl;have e0:=cO c5.out 0 _ rfl;have q:=cN u;clear u;by_cases p:((heardOn o m).att.ans.length:Int)≤f.f
   ·have U:decide (((heardOn o m).att.ans.length:Int)≤f.f)=true:=by simpa using p
    have d:=cN p;clear p;refine eD [0,0,0,1,1,0,0,0,0,1,0] (by kernel_rfl) (fun _ _ _ _=>rfl) ?_;simp only[dC,dB];iterate 11 (apply sB rfl rfl;·(intro x h;(try cases h rfl);go_simp;with_reducible rfl))
    refine cP ?_;try simp only[pA]
    go_wp2_with fail
    ((try simp only[Exit.inBlock,Exit.then]);refine bodyPost_ret (results_none rfl _ _ _) rfl ?_)
    rw[(tI q.out (by have:=d.out;omega)).1,(tI q.out (by have:=d.out;omega)).2,fF,aC,aC];exact⟨rfl,F,G,A.out.drew,⟨w.out.chg.drew,w.out.f,w.out.g⟩⟩
   ·have U:decide (((heardOn o m).att.ans.length:Int)≤f.f)=false:=by simpa using p
    have d:=cN p;clear p;have b7:Hid (aCa (heardOn o m).att.val):=by
     show aCa (if o.att.base<m.base then m.val else o.att.val);split
     ·exact a.out.2.2.2.1
     ·exact a.out.2.2.1
    by_cases n:m.kind=2
    ·have Y:(m.kind==2)=true:=by simp[n]
     have i:=cN n;clear n;have HP:Hid (Calls prog 175 #[.pointer (some ⟨b,0,none⟩)] t.drew fun r W'=>r= .returned (.tuple #[])∧After t.drew F G b g f av cv (iG f {c with doing:=some (heardOn o m)} (heardOn o m)) (net++dJ (gZ f {c with doing:=some (heardOn o m)} (heardOn o m))) (tr++gZ f {c with doing:=some (heardOn o m)} (heardOn o m)) W'):=
      aAa t.drew F G b g f av cv {c with doing:=some (heardOn o m)} (heardOn o m) net tr A.out.drew rfl hf1 hf2 hdr1 hdr2 ⟨a.out.1.n1,a.out.1.n2,a.out.1.i1,a.out.1.i2,a.out.1.c1,a.out.1.c2,a.out.1.r1,a.out.1.r2⟩ ⟨a.out.2.1.b1,a.out.2.1.b2,a.out.2.1.t1,a.out.2.1.t2,a.out.2.1.k1,a.out.2.1.k2,a.out.2.1.a1,a.out.2.1.a2⟩ b7.out haw hm a.out.2.2.2.2.1 hn ht
     refine eD [0,0,0,1,1,0,0,0,0,1,0] (by kernel_rfl) (fun _ _ _ _=>rfl) ?_;simp only[dC,dB];iterate 11 (apply sB rfl rfl;·(intro x h;(try cases h rfl);go_simp;with_reducible rfl))
     refine cP ?_;try simp only[pA]
     go_wp2_with (go_at_call 175;refine HP.out.mono ?_;rintro r W5 ⟨rfl,k5⟩)
     ((try simp only[Exit.inBlock,Exit.then]);refine bodyPost_ret (results_none rfl _ _ _) rfl ?_)
     rw[(qJ q.out (by have:=d.out;omega) i.out).1,(qJ q.out (by have:=d.out;omega) i.out).2];exact⟨rfl,After.trans w.out k5.drew⟩
    ·have Y:(m.kind==2)=false:=by simp[n]
     have i:=cN n;clear n;have HE:Hid (Calls prog 164 #[.pointer (some ⟨b,0,none⟩),wA (heardOn o m).att.eres (heardOn o m).att.eown (heardOn o m).att.etok,vlV (heardOn o m).att.val] t.drew.drew fun r W'=>r= .returned (.tuple #[])∧After t.drew.drew F G b g f av cv (gW {c with doing:=some (heardOn o m)} (heardOn o m) (heardOn o m).att.eres (heardOn o m).att.etok (heardOn o m).att.val) net (tr++rH {c with doing:=some (heardOn o m)} (heardOn o m) (heardOn o m).att.eres (heardOn o m).att.eown (heardOn o m).att.etok) W'):=
      xF t.drew.drew F G b g f av cv {c with doing:=some (heardOn o m)} (heardOn o m) net tr _ _ _ _ A.out.drew.drew rfl a.out.1.n1 (by have:=a.out.1.n2;show c.num≤1000;omega) a.out.2.1.b1 (by have:=a.out.2.1.b2;show o.began≤1000000000000;omega) a.out.2.1.t1 (by have:=a.out.2.1.t2;show o.ttl≤1000000;omega) (by omega) (by omega)
     have S:=cN (eL (W:=t.drew.drew) s.out.on.1 14 _ (aGN _ _ _));have X:=cN (eL (W:=t.drew.drew) s.out.on.1 10 _ (aAH _ _ _));refine eD [0,0,0,1,1,0,0,0,0,1,0] (by kernel_rfl) (fun _ _ _ _=>rfl) ?_;simp only[dC,dB];iterate 11 (apply sB rfl rfl;·(intro x h;(try cases h rfl);go_simp;with_reducible rfl))
     refine cP ?_;try simp only[pA]
     go_wp2_with fail;refine eD [0,0,0,0,1,0,0,0,1] (by kernel_rfl) (fun _ _ _ _=>rfl) ?_;simp only[dC,dB];iterate 4 (apply sB rfl rfl;·(intro x h;(try cases h rfl);go_simp;with_reducible rfl))
     try simp only[pA]
     refine dA (v:=wA (heardOn o m).att.eres (heardOn o m).att.eown (heardOn o m).att.etok) rfl (fun x hx=>cU 191 _ rfl ⟨I,14,none⟩ rfl (rN (heardOn o m).att.eres (heardOn o m).att.eown (heardOn o m).att.etok) _ (by subst hx;exact S.out) underlying191 rfl (by kernel_rfl)) ?_;iterate 3 (apply sB rfl rfl;·(intro x h;(try cases h rfl);go_simp;with_reducible rfl))
     try simp only[pA]
     refine dA (v:=vlV (heardOn o m).att.val) rfl (fun x hx=>cU 56 _ rfl ⟨I,10,none⟩ rfl (vlL (heardOn o m).att.val) _ (by subst hx;exact X.out) underlying56 rfl (by kernel_rfl)) ?_;refine cP ?_;go_wp2_with (go_at_call 164;refine HE.out.mono ?_;rintro r W5 ⟨rfl,k5⟩);go_end0;rw[(sI q.out (by have:=d.out;omega) i.out).1,(sI q.out (by have:=d.out;omega) i.out).2,rO,aC];exact⟨rfl,After.trans w.out k5.drew.drew⟩
  ·have e4:decide (o.att.base<m.base)=false:=by simpa using hb
   have Q:=cN hb;clear hb;refine eD [0,1,0,0,0,1,0] (by kernel_rfl) (fun _ _ _ _=>rfl) ?_;simp only[dC,dB];iterate 7 (apply sB rfl rfl;·(intro x h;(try cases h rfl);go_simp;with_reducible rfl))
   refine cP ?_;try simp only[pA]
   have s:Hid (Kt W3.drew F b g f {c with doing:=some (heardOn o m)} (heardOn o m) ch tk J wt I (.map (some D)) mv):=by
    have e:heardOn o m={o with att:={o.att with ans:=o.att.ans++[m.src]}}:=by unfold heardOn;rw[if_neg Q.out,if_neg Q.out]
    rw[e];exact a5.out.kept (Chg.refl _ _).drew
   have c5:Hid (W3.drew.heap[W.heap.size]?=some (.cells (mgL m).toArray 66 (0,0))):=a4.out;have K:=cN d0.out.drew;clear a9 x5;generalize W3.drew=t at*;go_wp2_with fail;have w:Hid (Went W t F F G G):=⟨((b8.out.mono (T:=F) (fun _ _ h=>h.elim)).trans K.out (fun _ _ h=>h)).mono (fun _ _ h=>Or.inl h),fun _ h=>Or.inl h,fun _ h=>Or.inl h⟩;have b9:=cN (b5.out.kept K.out (fun k hk hs=>P.out k hs hk));have c3:Hid (SetAt t D (heardOn o m).att.ans):=by
    rcases s.out.on.2.2.1 with⟨_,_,h⟩|⟨x,h1,h2,_⟩
    ·exact absurd h haw
    ·have e:D=x:=by simpa using h1
     rw[e];exact h2
   have A:Hid (Sys t F G b g f av cv {c with doing:=some (heardOn o m)} net tr):=⟨⟨ch,tk,J,wt,_,s.out.cl⟩,b9.out,P.out⟩;have d8:=SetAt.size (W:=t.drew) c3.out 3;have r8:=cO s.out.on.1 8 _ rfl;have r0:=s.out.cl.cell 0 _ rfl;have e0:=cO c5.out 0 _ rfl;have q:=cN u;clear u;by_cases p:((heardOn o m).att.ans.length:Int)≤f.f
   ·have U:decide (((heardOn o m).att.ans.length:Int)≤f.f)=true:=by simpa using p
    have d:=cN p;clear p;refine eD [0,0,0,1,1,0,0,0,0,1,0] (by kernel_rfl) (fun _ _ _ _=>rfl) ?_;simp only[dC,dB];iterate 11 (apply sB rfl rfl;·(intro x h;(try cases h rfl);go_simp;with_reducible rfl))
    refine cP ?_;try simp only[pA]
    go_wp2_with fail
    ((try simp only[Exit.inBlock,Exit.then]);refine bodyPost_ret (results_none rfl _ _ _) rfl ?_)
    rw[(tI q.out (by have:=d.out;omega)).1,(tI q.out (by have:=d.out;omega)).2,fF,aC,aC];exact⟨rfl,F,G,A.out.drew,⟨w.out.chg.drew,w.out.f,w.out.g⟩⟩
   ·have U:decide (((heardOn o m).att.ans.length:Int)≤f.f)=false:=by simpa using p
    have d:=cN p;clear p;have b7:Hid (aCa (heardOn o m).att.val):=by
     show aCa (if o.att.base<m.base then m.val else o.att.val);split
     ·exact a.out.2.2.2.1
     ·exact a.out.2.2.1
    by_cases n:m.kind=2
    ·have Y:(m.kind==2)=true:=by simp[n]
     have i:=cN n;clear n;have HP:Hid (Calls prog 175 #[.pointer (some ⟨b,0,none⟩)] t.drew fun r W'=>r= .returned (.tuple #[])∧After t.drew F G b g f av cv (iG f {c with doing:=some (heardOn o m)} (heardOn o m)) (net++dJ (gZ f {c with doing:=some (heardOn o m)} (heardOn o m))) (tr++gZ f {c with doing:=some (heardOn o m)} (heardOn o m)) W'):=
      aAa t.drew F G b g f av cv {c with doing:=some (heardOn o m)} (heardOn o m) net tr A.out.drew rfl hf1 hf2 hdr1 hdr2 ⟨a.out.1.n1,a.out.1.n2,a.out.1.i1,a.out.1.i2,a.out.1.c1,a.out.1.c2,a.out.1.r1,a.out.1.r2⟩ ⟨a.out.2.1.b1,a.out.2.1.b2,a.out.2.1.t1,a.out.2.1.t2,a.out.2.1.k1,a.out.2.1.k2,a.out.2.1.a1,a.out.2.1.a2⟩ b7.out haw hm a.out.2.2.2.2.1 hn ht
     refine eD [0,0,0,1,1,0,0,0,0,1,0] (by kernel_rfl) (fun _ _ _ _=>rfl) ?_;simp only[dC,dB];iterate 11 (apply sB rfl rfl;·(intro x h;(try cases h rfl);go_simp;with_reducible rfl))
     refine cP ?_;try simp only[pA]
     go_wp2_with (go_at_call 175;refine HP.out.mono ?_;rintro r W5 ⟨rfl,k5⟩)
     ((try simp only[Exit.inBlock,Exit.then]);refine bodyPost_ret (results_none rfl _ _ _) rfl ?_)
     rw[(qJ q.out (by have:=d.out;omega) i.out).1,(qJ q.out (by have:=d.out;omega) i.out).2];exact⟨rfl,After.trans w.out k5.drew⟩
    ·have Y:(m.kind==2)=false:=by simp[n]
     have i:=cN n;clear n;have HE:Hid (Calls prog 164 #[.pointer (some ⟨b,0,none⟩),wA (heardOn o m).att.eres (heardOn o m).att.eown (heardOn o m).att.etok,vlV (heardOn o m).att.val] t.drew.drew fun r W'=>r= .returned (.tuple #[])∧After t.drew.drew F G b g f av cv (gW {c with doing:=some (heardOn o m)} (heardOn o m) (heardOn o m).att.eres (heardOn o m).att.etok (heardOn o m).att.val) net (tr++rH {c with doing:=some (heardOn o m)} (heardOn o m) (heardOn o m).att.eres (heardOn o m).att.eown (heardOn o m).att.etok) W'):=
      xF t.drew.drew F G b g f av cv {c with doing:=some (heardOn o m)} (heardOn o m) net tr _ _ _ _ A.out.drew.drew rfl a.out.1.n1 (by have:=a.out.1.n2;show c.num≤1000;omega) a.out.2.1.b1 (by have:=a.out.2.1.b2;show o.began≤1000000000000;omega) a.out.2.1.t1 (by have:=a.out.2.1.t2;show o.ttl≤1000000;omega) (by omega) (by omega)
     have S:=cN (eL (W:=t.drew.drew) s.out.on.1 14 _ (aGN _ _ _));have X:=cN (eL (W:=t.drew.drew) s.out.on.1 10 _ (aAH _ _ _));refine eD [0,0,0,1,1,0,0,0,0,1,0] (by kernel_rfl) (fun _ _ _ _=>rfl) ?_;simp only[dC,dB];iterate 11 (apply sB rfl rfl;·(intro x h;(try cases h rfl);go_simp;with_reducible rfl))
     refine cP ?_;try simp only[pA]
     go_wp2_with fail;refine eD [0,0,0,0,1,0,0,0,1] (by kernel_rfl) (fun _ _ _ _=>rfl) ?_;simp only[dC,dB];iterate 4 (apply sB rfl rfl;·(intro x h;(try cases h rfl);go_simp;with_reducible rfl))
     try simp only[pA]
     refine dA (v:=wA (heardOn o m).att.eres (heardOn o m).att.eown (heardOn o m).att.etok) rfl (fun x hx=>cU 191 _ rfl ⟨I,14,none⟩ rfl (rN (heardOn o m).att.eres (heardOn o m).att.eown (heardOn o m).att.etok) _ (by subst hx;exact S.out) underlying191 rfl (by kernel_rfl)) ?_;iterate 3 (apply sB rfl rfl;·(intro x h;(try cases h rfl);go_simp;with_reducible rfl))
     try simp only[pA]
     refine dA (v:=vlV (heardOn o m).att.val) rfl (fun x hx=>cU 56 _ rfl ⟨I,10,none⟩ rfl (vlL (heardOn o m).att.val) _ (by subst hx;exact X.out) underlying56 rfl (by kernel_rfl)) ?_;refine cP ?_;go_wp2_with (go_at_call 164;refine HE.out.mono ?_;rintro r W5 ⟨rfl,k5⟩);go_end0;rw[(sI q.out (by have:=d.out;omega) i.out).1,(sI q.out (by have:=d.out;omega) i.out).2,rO,aC];exact⟨rfl,After.trans w.out k5.drew.drew⟩
theorem aJL(a b:Int):(if a<b then b else a)=max a b:=by
 split<;>omega
theorem aHA(W:World)(F G:Nat→Prop)(b g:Nat)(f:Cf)(av cv:Value)(c:Ct)(net:List Mg)(tr:List Ev)(m:Mg)(h:Sys W F G b g f av cv c net tr)(hf1:1≤f.f)(hf2:f.f≤2)(hdr1:0≤f.drift)(hdr2:f.drift≤10)(hc:aAz c)(hvm:aCa m.val)(hmb1:0≤m.base)(hmb2:m.base≤256255)(hmk:m.kind≠0)
 (ho:∀o,c.doing=some o→aF2 o∧aCa o.att.val∧o.mine.length≤100000000000∧o.att.ans.length≤100000000000) (hw:∀l,0≤(c.wat l).since∧(c.wat l).since≤100000000000) (hn:net.length≤99999999990) (ht:tr.length≤99999999990):
 Calls prog 86 #[.pointer (some ⟨b,0,none⟩),mgV m] W fun r W'=>r= .returned (.tuple #[])∧After W F G b g f av cv (gO f c m) (net++dJ (iB f c m)) (tr++iB f c m) W':=by
 generalize A:W.alloc (.cells #[.int .i64 m.kind,.int .i64 m.src,.int .i64 m.dst,.int .i64 m.lock,.int .i64 m.bal,.int .i64 m.base,.int .i64 m.val.own,.int .i64 m.val.tok,.int .i64 m.val.ttl,.int .i64 m.val.seq] 66)=W0;have z:=cN A;have K:Chg NoS W W0:=by rw[←A];exact(Chg.refl _ _).alloc _
 have N:W0.heap[W.heap.size]?=some (.cells (mgL m).toArray 66 (0,0)):=by rw[←A];exact aA W _
 have p:=cN (h.kept K (fun _ _ h=>h) (fun _ _ h=>h));have J:=cN N;have d:Hid (Went W W0 F F G G):=⟨K.mono (fun _ _ h=>h.elim),fun _ h=>Or.inl h,fun _ h=>Or.inl h⟩;have t:=p.out.cl;obtain⟨ch,tk,a9,wt,dv,t⟩:=t;have U:∀q,c.up=q→Hid (∀x,x=W0.drew→Calls prog 90 #[.pointer (some ⟨b,0,none⟩)] x fun e w'=>e= .returned (.bool q)∧w'=x):=fun q e x hx=>by
  subst hx;subst e;exact wO W0.drew b ch c.up (t.cell 9 _ rfl) t.chan
 have b5:=t.cell 16 _ rfl;have x4:=cO N 4 _ rfl;have i:=cN (aLp hc hvm hw);have D:=cN t;clear A K N h hc hvm hw;cases hu:c.up
 ·have u:gO f c m=c:=by unfold gO;rw[if_pos hu]
  have w:iB f c m=[]:=by unfold iB;rw[if_pos hu]
  rw[u,w,fF,aC,aC];clear u w;have y:=U _ hu;clear U hu ho t;go_enter func86,ntmps86;go_wp2_with (rw[z.out]);refine eD [0,1,0,0,0,0,0,1,0,0,0,0,1,0,0,0,1,0,0,0,1,0,0] (by kernel_rfl) (fun _ _ _ _=>rfl) ?_;simp only[dC,dB];iterate 1 (apply sB rfl rfl;·(intro x h;(try cases h rfl);go_simp;with_reducible rfl))
  try simp only[pA]
  refine eW (v:=.bool false) (f:=90) (args:=#[.pointer (some ⟨b,0,none⟩)]) rfl (fun x hx=>by subst hx;go_simp;try rfl) (fun x hx=>y.out x hx) ?_;(try simp only[pA]);iterate 21 ((try simp only[pA]);first|(apply sB rfl rfl;·(intro x h;(try cases h rfl);go_simp;with_reducible rfl))|apply dN rfl|apply dL rfl)
  refine cP ?_;try simp only[pA]
  go_wp2_with fail
  ((try simp only[Exit.inBlock,Exit.then]);refine bodyPost_ret (results_none rfl _ _ _) rfl ?_)
  exact⟨rfl,F,G,p.out.drew,⟨d.out.chg.drew,d.out.f,d.out.g⟩⟩
 ·have y:=U _ hu;clear U;have B:=t.doing;clear t;cases hd:c.doing with
  |none=>
   rw[hd]at B;obtain rfl:dv= .pointer none:=B;have u:gO f c m=c:=by unfold gO;rw[if_neg (by simp[hu]),hd]
   have w:iB f c m=[]:=by unfold iB;rw[if_neg (by simp[hu]),hd]
   rw[u,w,fF,aC,aC];clear u w;clear hu hd ho;go_enter func86,ntmps86;go_wp2_with (rw[z.out]);refine eD [0,1,0,0,0,0,0,1,0,0,0,0,1,0,0,0,1,0,0,0,1,0,0] (by kernel_rfl) (fun _ _ _ _=>rfl) ?_;simp only[dC,dB];iterate 1 (apply sB rfl rfl;·(intro x h;(try cases h rfl);go_simp;with_reducible rfl))
   try simp only[pA]
   refine eW (v:=.bool true) (f:=90) (args:=#[.pointer (some ⟨b,0,none⟩)]) rfl (fun x hx=>by subst hx;go_simp;try rfl) (fun x hx=>y.out x hx) ?_;(try simp only[pA]);iterate 21 ((try simp only[pA]);first|(apply sB rfl rfl;·(intro x h;(try cases h rfl);go_simp;with_reducible rfl))|apply dN rfl|apply dL rfl)
   refine cP ?_;try simp only[pA]
   go_wp2_with fail
   ((try simp only[Exit.inBlock,Exit.then]);refine bodyPost_ret (results_none rfl _ _ _) rfl ?_)
   exact⟨rfl,F,G,p.out.drew,⟨d.out.chg.drew,d.out.f,d.out.g⟩⟩
  |some o=>
   rw[hd]at B;obtain⟨ob,an,mv,rfl,L,Z⟩:=B;obtain⟨T,a2,a5,a0⟩:=ho o hd;have o5:=cO L.1 5 _ rfl;have a4:=cN L;clear L Z;by_cases a:m.bal=o.att.bal
   ·have a8:(m.bal !=o.att.bal)=false:=by simp[a]
    have x0:=cO J.out 0 _ rfl;by_cases j:m.kind=5
    ·have a3:(m.kind==5)=true:=by simp[j]
     have u:gO f c m=kX f {c with round:=max c.round (m.base / 256)} o:=by unfold gO;rw[if_neg (by simp[hu]),hd];exact(if_neg (by simp[a])).trans (if_pos j)
     have w:iB f c m=kI f {c with round:=max c.round (m.base / 256)} o:=by unfold iB;rw[if_neg (by simp[hu]),hd];exact(if_neg (by simp[a])).trans (if_pos j)
     rw[u,w];clear u w;have HD:=cN hd;clear hu hd ho a j hmk;have Y:=D.out.cell 12 _ rfl;have x5:=cO J.out 5 _ rfl;obtain⟨M,V⟩:=aLz (max c.round (m.base / 256));rw[←V];have HM:=cN V;clear V;have b2:m.base.tdiv 256=m.base / 256:=Int.tdiv_eq_ediv_of_nonneg hmb1;have b4:IntKind.i64.wrap (m.base / 256)=m.base / 256:=fV (by omega) (by omega);go_enter func86,ntmps86;go_wp2_with (rw[z.out]);refine eD [0,1,0,0,0,0,0,1,0,0,0,0,1,0,0,0,1,0,0,0,1,0,0] (by kernel_rfl) (fun _ _ _ _=>rfl) ?_;simp only[dC,dB];iterate 1 (apply sB rfl rfl;·(intro x h;(try cases h rfl);go_simp;with_reducible rfl))
     try simp only[pA]
     refine eW (v:=.bool true) (f:=90) (args:=#[.pointer (some ⟨b,0,none⟩)]) rfl (fun x hx=>by subst hx;go_simp;try rfl) (fun x hx=>y.out x hx) ?_;(try simp only[pA]);iterate 21 ((try simp only[pA]);first|(apply sB rfl rfl;·(intro x h;(try cases h rfl);go_simp;with_reducible rfl))|apply dN rfl|apply dL rfl)
     refine cP ?_;try simp only[pA]
     go_wp2_with fail;refine eD [0,0,0,0,1,0,1,0,0,0,0] (by kernel_rfl) (fun _ _ _ _=>rfl) ?_;simp only[dC,dB];iterate 11 (apply sB rfl rfl;·(intro x h;(try cases h rfl);go_simp;with_reducible rfl))
     refine cP ?_;try simp only[pA]
     try rw[aJL]
     rw[←HM.out];generalize C:W0.drew.drew=Wd at*;have n:=C▸D.out.kept (S:=NoS) (Chg.refl _ _).drew.drew (fun _ _ h=>h);have I:=C▸p.out.drew.drew.nt;have R:Went W Wd F F G G:=C▸⟨d.out.chg.drew.drew,d.out.f,d.out.g⟩;clear C;have b1:=n.cell 12 _ rfl;have b3:=n.froz 12;have O:=cY Wd b 12 (.int .i64 M);have H:=n.cells O {c with round:=M} (.pointer (some ⟨ob,0,none⟩)) rfl rfl rfl rfl (dD n.blk 12 _) (n.doing.kept n.blk (by decide) (by decide) O);have E:=I.kept O (fun k hk e=>p.out.apart b D.out.fb (e▸hk));have P:=R.trans (⟨O.mono (fun k _ e=>Or.inl (e▸D.out.fb)),fun _ h=>Or.inl h,fun _ h=>Or.inl h⟩:Went Wd (Wd.setCell ⟨b,12,none⟩ (.int .i64 M)) F F G G);generalize Q:Wd.setCell ⟨b,12,none⟩ (.int .i64 M)=W4 at*;have b0:=cN Q;have a7:=cN P;have HE:Hid (Calls prog 131 #[.pointer (some ⟨b,0,none⟩)] W4 fun r W'=>r= .returned (.tuple #[])∧After W4 F G b g f av cv (kX f {c with round:=M} o) (net++dJ (kI f {c with round:=M} o)) (tr++kI f {c with round:=M} o) W'):=
      uQ W4 F G b g f av cv {c with round:=M} o net tr ⟨⟨ch,tk,a9,wt,_,H⟩,E,p.out.apart⟩ HD.out hf1 hf2 (by rw[HM.out];exact⟨i.out.1.n1,i.out.1.n2,i.out.1.i1,i.out.1.i2,i.out.1.c1,i.out.1.c2,by have:=i.out.1.r1;show 0≤max c.round (m.base / 256);omega,by have:=i.out.1.r2;show max c.round (m.base / 256)≤1000;omega⟩) T hn ht
     clear Q n I R O H E P Y x5;go_wp2_with (first|rw[b0.out]|(go_at_call 131;refine HE.out.mono ?_;rintro r W5 ⟨rfl,X⟩));go_end0;exact⟨rfl,After.trans a7.out X⟩
    ·have a3:(m.kind==5)=false:=by simp[j]
     have o7:=cO a4.out.1 7 _ rfl;by_cases s:m.kind=o.att.awaited
     ·have a1:(m.kind==o.att.awaited)=true:=by simp[s]
      have u:gO f c m=jT f c o m:=by unfold gO;rw[if_neg (by simp[hu]),hd];exact((if_neg (by simp[a])).trans (if_neg j)).trans (if_pos s)
      have w:iB f c m=kB f c o m:=by unfold iB;rw[if_neg (by simp[hu]),hd];exact((if_neg (by simp[a])).trans (if_neg j)).trans (if_pos s)
      rw[u,w];clear u w;have HC:Hid (Calls prog 132 #[.pointer (some ⟨b,0,none⟩),mgV m] W0.drew fun r W'=>r= .returned (.tuple #[])∧After W0.drew F G b g f av cv (jT f c o m) (net++dJ (kB f c o m)) (tr++kB f c o m) W'):=
       aHK W0.drew F G b g f av cv c o net tr m p.out.drew hd hf1 hf2 hdr1 hdr2 i.out.1 T a2 i.out.2.1 (fun e=>hmk (s.trans e)) a5 i.out.2.2 a0 hn ht
      have a6:=cN (cR (W:=W0.drew) J.out);clear hu hd ho a j s hmk;go_enter func86,ntmps86;go_wp2_with (rw[z.out]);refine eD [0,1,0,0,0,0,0,1,0,0,0,0,1,0,0,0,1,0,0,0,1,0,0] (by kernel_rfl) (fun _ _ _ _=>rfl) ?_;simp only[dC,dB];iterate 1 (apply sB rfl rfl;·(intro x h;(try cases h rfl);go_simp;with_reducible rfl))
      try simp only[pA]
      refine eW (v:=.bool true) (f:=90) (args:=#[.pointer (some ⟨b,0,none⟩)]) rfl (fun x hx=>by subst hx;go_simp;try rfl) (fun x hx=>y.out x hx) ?_;(try simp only[pA]);iterate 21 ((try simp only[pA]);first|(apply sB rfl rfl;·(intro x h;(try cases h rfl);go_simp;with_reducible rfl))|apply dN rfl|apply dL rfl)
      refine cP ?_;try simp only[pA]
      go_wp2_with (first|(refine cW rfl 66 _ rfl ⟨W.heap.size,0,none⟩ rfl (mgL m) _ a6.out underlying66 rfl (by kernel_rfl) ?_)|(go_at_call 132;refine HC.out.mono ?_;rintro r W5 ⟨rfl,X⟩));go_end0;exact⟨rfl,After.trans d.out X.drew⟩
     ·have a1:(m.kind==o.att.awaited)=false:=by simp[s]
      have u:gO f c m=c:=by unfold gO;rw[if_neg (by simp[hu]),hd];exact((if_neg (by simp[a])).trans (if_neg j)).trans (if_neg s)
      have w:iB f c m=[]:=by unfold iB;rw[if_neg (by simp[hu]),hd];exact((if_neg (by simp[a])).trans (if_neg j)).trans (if_neg s)
      rw[u,w,fF,aC,aC];clear u w;clear hu hd ho a j s;go_enter func86,ntmps86;go_wp2_with (rw[z.out]);refine eD [0,1,0,0,0,0,0,1,0,0,0,0,1,0,0,0,1,0,0,0,1,0,0] (by kernel_rfl) (fun _ _ _ _=>rfl) ?_;simp only[dC,dB];iterate 1 (apply sB rfl rfl;·(intro x h;(try cases h rfl);go_simp;with_reducible rfl))
      try simp only[pA]
      refine eW (v:=.bool true) (f:=90) (args:=#[.pointer (some ⟨b,0,none⟩)]) rfl (fun x hx=>by subst hx;go_simp;try rfl) (fun x hx=>y.out x hx) ?_;(try simp only[pA]);iterate 21 ((try simp only[pA]);first|(apply sB rfl rfl;·(intro x h;(try cases h rfl);go_simp;with_reducible rfl))|apply dN rfl|apply dL rfl)
      refine cP ?_;try simp only[pA]
      go_wp2_with fail;go_end0;exact⟨rfl,F,G,p.out.drew,⟨d.out.chg.drew,d.out.f,d.out.g⟩⟩
   ·have a8:(m.bal !=o.att.bal)=true:=by simp[a]
    have u:gO f c m=c:=by unfold gO;rw[if_neg (by simp[hu]),hd];exact if_pos a
    have w:iB f c m=[]:=by unfold iB;rw[if_neg (by simp[hu]),hd];exact if_pos a
    rw[u,w,fF,aC,aC];clear u w;clear hu hd ho a;go_enter func86,ntmps86;go_wp2_with (rw[z.out]);refine eD [0,1,0,0,0,0,0,1,0,0,0,0,1,0,0,0,1,0,0,0,1,0,0] (by kernel_rfl) (fun _ _ _ _=>rfl) ?_;simp only[dC,dB];iterate 1 (apply sB rfl rfl;·(intro x h;(try cases h rfl);go_simp;with_reducible rfl))
    try simp only[pA]
    refine eW (v:=.bool true) (f:=90) (args:=#[.pointer (some ⟨b,0,none⟩)]) rfl (fun x hx=>by subst hx;go_simp;try rfl) (fun x hx=>y.out x hx) ?_;(try simp only[pA]);iterate 21 ((try simp only[pA]);first|(apply sB rfl rfl;·(intro x h;(try cases h rfl);go_simp;with_reducible rfl))|apply dN rfl|apply dL rfl)
    refine cP ?_;try simp only[pA]
    go_wp2_with fail
    ((try simp only[Exit.inBlock,Exit.then]);refine bodyPost_ret (results_none rfl _ _ _) rfl ?_)
    exact⟨rfl,F,G,p.out.drew,⟨d.out.chg.drew,d.out.f,d.out.g⟩⟩
theorem aDu(c:Ct)(k l t:Int):(eI c k l t).num=c.num∧(eI c k l t).inc=c.inc∧(eI c k l t).clock=c.clock∧(eI c k l t).round=c.round∧(eI c k l t).doing=c.doing∧(eI c k l t).up=c.up∧(eI c k l t).wat=c.wat∧(eI c k l t).toks=c.toks:=by
 unfold eI;split
 ·exact⟨rfl,rfl,rfl,rfl,rfl,rfl,rfl,rfl⟩
 ·split<;>exact⟨rfl,rfl,rfl,rfl,rfl,rfl,rfl,rfl⟩
theorem zO(W:World)(F G:Nat→Prop)(b g:Nat)(f:Cf)(av cv:Value)(c:Ct)(net:List Mg)(tr:List Ev)(k l t:Int)(h:Sys W F G b g f av cv c net tr)(hf1:1≤f.f)(hf2:f.f≤2)(hc:aAz c)(ht1:0≤t)(ht2:t≤1000)(hn:net.length≤99999999990)(ht:tr.length≤99999999980):
 Calls prog 81 #[.pointer (some ⟨b,0,none⟩),opV k l t] W fun r W'=>r= .returned (.int .i64 (jO c))∧After W F G b g f av cv (gU c k l t) (net++dJ (iA f c k l t)) (tr++iA f c k l t) W':=by
 generalize K:W.alloc (.cells #[.int .i64 k,.int .i64 l,.int .i64 t] 68)=W0;have a2:=cN K;have a1:Chg NoS W W0:=by rw[←K];exact(Chg.refl _ _).alloc _
 have R:W0.heap[W.heap.size]?=some (.cells #[.int .i64 k,.int .i64 l,.int .i64 t] 68 (0,0)):=by rw[←K];exact aA W _
 have s:=cN (h.kept a1 (fun _ _ h=>h) (fun _ _ h=>h));have b5:=cN R;have y:Hid (Went W W0 F F G G):=⟨a1.mono (fun _ _ h=>h.elim),fun _ h=>Or.inl h,fun _ h=>Or.inl h⟩;have i:=s.out.cl;obtain⟨ch,tk,d2,wt,dv,i⟩:=i;have HU:∀q,c.up=q→Hid (Calls prog 90 #[.pointer (some ⟨b,0,none⟩)] W0 fun e w'=>e= .returned (.bool q)∧w'=W0):=fun q e=>e▸wO W0 b ch c.up (i.cell 9 _ rfl) i.chan;have d4:=i.cell 16 _ rfl;have c4:=cN i;have u:=cN hc;have a9:=dG R;have e5:=cN a9;have b9:Hid (¬F W.heap.size∧¬G W.heap.size):=⟨fun a=>by have:=h.ltF _ a;omega,fun a=>by have:=h.nt.lt _ a;omega⟩;clear K a1 R h hc a9;cases hu:c.up
 ·have m:jO c=2:=by unfold jO;rw[if_pos hu]
  have L:gU c k l t=c:=by unfold gU;rw[if_pos (by rw[m];decide)]
  have M:iA f c k l t=[]:=by unfold iA;rw[if_pos (by rw[m];decide)]
  rw[m,L,M,fF,aC,aC];clear L M;have D:=HU _ hu;clear m hu HU i;go_enter func81,ntmps81;go_wp2_with (first|rw[a2.out]|(go_at_call 90;refine D.out.mono ?_;rintro e w' ⟨rfl,N⟩;have w:=N.symm;subst w;clear N));go_ret;exact⟨rfl,F,G,s.out,y.out⟩
 ·have D:=HU _ hu;have E:=i.doing;clear HU i;cases hd:c.doing with
  |some o=>
   rw[hd]at E;obtain⟨ob,an,mv,rfl,_,_⟩:=E;have m:jO c=4:=by unfold jO;rw[if_neg (by simp[hu]),hd];rfl
   have L:gU c k l t=c:=by unfold gU;rw[if_pos (by rw[m];decide)]
   have M:iA f c k l t=[]:=by unfold iA;rw[if_pos (by rw[m];decide)]
   rw[m,L,M,fF,aC,aC];clear L M;clear m hu hd;go_enter func81,ntmps81;go_wp2_with (first|rw[a2.out]|(go_at_call 90;refine D.out.mono ?_;rintro e w' ⟨rfl,N⟩;have w:=N.symm;subst w;clear N));go_ret;exact⟨rfl,F,G,s.out,y.out⟩
  |none=>
   rw[hd]at E;obtain rfl:dv= .pointer none:=E;have m:jO c=0:=by unfold jO;rw[if_neg (by simp[hu]),hd];rfl
   have L:gU c k l t=gD (eI {c with doing:=some (newOn c k l t)} k l t) (newOn c k l t):=by unfold gU;rw[if_neg (by rw[m];decide)]
   have M:iA f c k l t=nA c.num (newOn c k l t)::fO f (eI {c with doing:=some (newOn c k l t)} k l t) (newOn c k l t):=by unfold iA;rw[if_neg (by rw[m];decide)]
   rw[m,L,M];clear L M;clear m hu hd;have e4:=c4.out.cell 11 _ rfl;have c0:=cN (cR (W:=W0.drew) b5.out);go_enter func81,ntmps81;go_wp2_with (first|rw[a2.out]|(go_at_call 90;refine D.out.mono ?_;rintro e w' ⟨rfl,N⟩;have w:=N.symm;subst w;clear N));refine eD [0,1,0,0,0,1,0] (by kernel_rfl) (fun _ _ _ _=>rfl) ?_;simp only[dC,dB];iterate 1 (apply sB rfl rfl;·(intro x h;(try cases h rfl);go_simp;with_reducible rfl))
   try simp only[pA]
   refine dA (v:=opV k l t) rfl (fun x hx=>cU 68 _ rfl ⟨W.heap.size,0,none⟩ rfl [.int .i64 k,.int .i64 l,.int .i64 t] _ (by subst hx;exact c0.out) underlying68 rfl (by kernel_rfl)) ?_;iterate 5 (apply sB rfl rfl;·(intro x h;(try cases h rfl);go_simp;with_reducible rfl))
   refine cP ?_;try simp only[pA]
   generalize p:W0.drew=Wd at*;have j:=p▸c4.out.kept (S:=NoS) (Chg.refl _ _).drew (fun _ _ h=>h);have B:=p▸s.out.drew.nt;have b0:Wd.heap[W.heap.size]?=some (.cells #[.int .i64 k,.int .i64 l,.int .i64 t] 68 (0,0)):=p▸b5.out;have b3:Went W Wd F F G G:=p▸⟨y.out.chg.drew,y.out.f,y.out.g⟩;have b7:=s.out.apart;clear p;have z:Chg NoS Wd (Wd.alloc (.cells #[.int .i64 k,.int .i64 l,.int .i64 t,.int .i64 c.clock,.int .i64 0,.int .i64 0,.int .i64 0,.int .i64 0,.map none,.int .i64 0,.int .i64 0,.int .i64 0,.int .i64 0,.int .i64 0,.int .i64 0,.int .i64 0,.int .i64 0,.slice none 0 0] 195)):=(Chg.refl _ _).alloc _;have a4:(Wd.alloc (.cells #[.int .i64 k,.int .i64 l,.int .i64 t,.int .i64 c.clock,.int .i64 0,.int .i64 0,.int .i64 0,.int .i64 0,.map none,.int .i64 0,.int .i64 0,.int .i64 0,.int .i64 0,.int .i64 0,.int .i64 0,.int .i64 0,.int .i64 0,.slice none 0 0] 195)).heap[Wd.heap.size]?=some (.cells (wJ (newOn c k l t) (.map none) (.slice none 0 0)).toArray 195 (0,0)):=aA Wd _;have e2:(Wd.alloc (.cells #[.int .i64 k,.int .i64 l,.int .i64 t,.int .i64 c.clock,.int .i64 0,.int .i64 0,.int .i64 0,.int .i64 0,.map none,.int .i64 0,.int .i64 0,.int .i64 0,.int .i64 0,.int .i64 0,.int .i64 0,.int .i64 0,.int .i64 0,.slice none 0 0] 195)).heap.size=Wd.heap.size+1:=by simp
   generalize a5:Wd.alloc (.cells #[.int .i64 k,.int .i64 l,.int .i64 t,.int .i64 c.clock,.int .i64 0,.int .i64 0,.int .i64 0,.int .i64 0,.map none,.int .i64 0,.int .i64 0,.int .i64 0,.int .i64 0,.int .i64 0,.int .i64 0,.int .i64 0,.int .i64 0,.slice none 0 0] 195)=W1 at*;have d7:=cN a5;have d:=(j.kept z (fun _ _ h=>h)).grow (F':=fun q=>F q∨q=Wd.heap.size) (fun _ h=>Or.inl h) (fun q a=>by
    rcases a with a|rfl
    ·have:=j.lt q a;omega
    ·omega)
   have c9:=d.cell 16 _ rfl;have d1:=d.froz 16;have O:=gA d.blk a4 (by decide);have a:=cY W1 b 16 (.pointer (some ⟨Wd.heap.size,0,none⟩));have P:OnAt (W1.setCell ⟨b,16,none⟩ (.pointer (some ⟨Wd.heap.size,0,none⟩))) (fun q=>F q∨q=Wd.heap.size) Wd.heap.size (.map none) (.slice none 0 0) (newOn c k l t):=
    ⟨a.kept a4 (fun e=>O e.symm),Or.inr rfl,Or.inl ⟨rfl,rfl,rfl⟩,⟨rfl,Or.inl ⟨rfl,rfl⟩⟩,fun q a=>by cases a⟩
   have n:=d.cells a {c with doing:=some (newOn c k l t)} (.pointer (some ⟨Wd.heap.size,0,none⟩)) rfl rfl rfl rfl (dD d.blk 16 _) ⟨Wd.heap.size,.map none,.slice none 0 0,rfl,P,by simp,by simp,by simp⟩;have C:∀q,(F q∨q=Wd.heap.size)→¬G q:=fun q a hg=>by
    rcases a with a|rfl
    ·exact b7 q a hg
    ·have:=B.lt _ hg;omega
   have Q:=(B.kept z (fun _ _ h=>h)).kept a (fun q hg e=>C b d.fb (e▸hg));have Z:=a.kept (z.kept b0 (fun h=>h)) (fun e=>b9.out.1 (by have:=j.fb;rw[e];exact this));have a7:Went W (W1.setCell ⟨b,16,none⟩ (.pointer (some ⟨Wd.heap.size,0,none⟩))) F (fun q=>F q∨q=Wd.heap.size) G G:=b3.trans ⟨((z.mono (T:=F) (fun _ _ h=>h.elim)).trans a (fun x _ e=>e▸j.fb)).mono (fun _ _ h=>Or.inl h),fun q a=>by
    rcases a with a|rfl
    ·exact Or.inl a
    ·exact Or.inr (aE _),fun _ h=>Or.inl h⟩
   generalize b1:W1.setCell ⟨b,16,none⟩ (.pointer (some ⟨Wd.heap.size,0,none⟩))=W2 at*;have e3:=cN b1;have d9:=n.cell 10 _ rfl;have e7:W2.cell? ⟨b,7,none⟩=some (.int .i64 c.num):=n.cell 7 _ rfl;have c8:=cN a7;have d6:=cN Z;have HR:Hid (Calls prog 77 #[.pointer (some ⟨g,0,none⟩),evV (nA c.num (newOn c k l t))] W2.drew fun r W'=>r= .returned (.tuple #[])∧∃G',Sys W' (fun q=>F q∨q=Wd.heap.size) G' b g f av cv {c with doing:=some (newOn c k l t)} (net++dJ [nA c.num (newOn c k l t)]) (tr++[nA c.num (newOn c k l t)])∧Chg G W2.drew W'∧∀q,G' q→G q∨W2.drew.heap.size≤q):=
    jW W2.drew _ G b g f av cv _ net tr (nA c.num (newOn c k l t)) (Sys.drew ⟨⟨ch,tk,d2,wt,_,n⟩,Q,C⟩) (by omega) (by omega)
   have d3:=cN (cR (W:=W2.drew) Z);clear a5 b1 d n Q P a z a4 e2 j B b0 b3 b7 C Z a7 c0 O e4 d4;go_wp2_with (first|rw[d7.out]|rw[e3.out]);refine eD [0,0,0,1,0,0,0,1,1,0] (by kernel_rfl) (fun _ _ _ _=>rfl) ?_;simp only[dC,dB];iterate 8 (apply sB rfl rfl;·(intro x h;(try cases h rfl);go_simp;with_reducible rfl))
   try simp only[pA]
   refine dA (v:=opV k l t) rfl (fun x hx=>cU 68 _ rfl ⟨W.heap.size,0,none⟩ rfl [.int .i64 k,.int .i64 l,.int .i64 t] _ (by subst hx;exact d3.out) underlying68 rfl (by kernel_rfl)) ?_;iterate 1 (apply sB rfl rfl;·(intro x h;(try cases h rfl);go_simp;with_reducible rfl))
   refine cP ?_;try simp only[pA]
   go_wp2_with fail;refine HR.out.mono ?_;rintro r W3 ⟨rfl,G3,V,a0,b2⟩;have b4:=a0.of_drew.kept d6.out b9.out.2;have e0:=cN (cR b4);rw[fE _ (show(2:Int)≠1 by decide),aC]at V;have b6:=c8.out.trans ⟨a0.of_drew.mono (fun _ _ h=>Or.inr h),fun _ h=>Or.inl h,b2⟩;have Y:=cN V;have d8:=cN b6;obtain⟨⟨X,J,H,I,a3,A⟩,c5,c6⟩:=V;have d5:Hid (Calls prog 123 #[.pointer (some ⟨b,0,none⟩),opV k l t] W3 fun r W'=>r= .returned (.tuple #[])∧ClAt W' (fun q=>F q∨q=Wd.heap.size) b g f (eI {c with doing:=some (newOn c k l t)} k l t) X J H I a3∧Chg (S3 J H I) W3 W'):=
    aD8 W3 _ b g f {c with doing:=some (newOn c k l t)} X J H I a3 k l t A u.out.c1 (by have:=u.out.c2;show c.clock≤1000000000000;omega) ht1 (by omega)
   have b8:=cN A.inF;clear a0 b2 b4 b6 A c5 c6 d9 e7 c9 d1;go_wp2_with (first|(refine cW rfl 68 _ rfl ⟨W.heap.size,0,none⟩ rfl [.int .i64 k,.int .i64 l,.int .i64 t] _ e0.out underlying68 rfl (by kernel_rfl) ?_)|(go_at_call 123;refine d5.out.mono ?_;rintro r W4 ⟨rfl,k1,k2⟩;refine cQ ?_));have c3:Sys W4 (fun q=>F q∨q=Wd.heap.size) G3 b g f av cv (eI {c with doing:=some (newOn c k l t)} k l t) net (tr++[nA c.num (newOn c k l t)]):=⟨⟨X,J,H,I,a3,k1⟩,Y.out.nt.kept k2 (fun q a hs=>Y.out.apart q (b8.out q hs) a),Y.out.apart⟩;have a6:=d8.out.trans (⟨k2.mono (fun q _ hs=>Or.inl (b8.out q hs)),fun _ h=>Or.inl h,fun _ h=>Or.inl h⟩:Went W3 W4 (fun q=>F q∨q=Wd.heap.size) (fun q=>F q∨q=Wd.heap.size) G3 G3);have U:=aDu {c with doing:=some (newOn c k l t)} k l t;have a8:aAz (eI {c with doing:=some (newOn c k l t)} k l t):=by
    obtain⟨s1,s2,s3,s4,_⟩:=U;have q:=u.out;refine⟨?_,?_,?_,?_,?_,?_,?_,?_⟩
    ·rw[s1];exact q.n1
    ·rw[s1];exact q.n2
    ·rw[s2];exact q.i1
    ·rw[s2];exact q.i2
    ·rw[s3];exact q.c1
    ·rw[s3];exact q.c2
    ·rw[s4];exact q.r1
    ·rw[s4];exact q.r2
   have c7:=cN (rF W4 _ G3 b g f av cv (eI {c with doing:=some (newOn c k l t)} k l t) (newOn c k l t) net (tr++[nA c.num (newOn c k l t)]) c3 U.2.2.2.2.1 hf1 hf2 a8 ⟨u.out.c1,u.out.c2,ht1,ht2,by show(0:Int)≤0;omega,by show(0:Int)≤100000000000;omega,by show(0:Int)≤0;omega,by show(0:Int)≤100000000000;omega⟩ hn (by rw[aD,aK];omega));have d0:=cN a6;clear c3 a6 U a8 k1 k2;refine cN ?_;go_wp2_with (first|(go_at_call 124;refine c7.out.mono ?_;rintro r W5 ⟨rfl,k5⟩));go_ret;refine⟨rfl,After.trans d0.out ?_⟩;rw[aS]at k5;have e:dJ (nA c.num (newOn c k l t)::fO f (eI {c with doing:=some (newOn c k l t)} k l t) (newOn c k l t))=dJ (fO f (eI {c with doing:=some (newOn c k l t)} k l t) (newOn c k l t)):=by
    simp[dJ,aAm,nA]
   rw[e];exact k5
section
open Go.RowKit Go.Extern.Stop Go.Stop Go.Extern
theorem aHI(t:Addr)(w:World):(ReflectliteValue.unpack (.iface 237 (.pointer (some t)))).run prog w
 = .ok (.agg #[.pointer (some ⟨2,237,none⟩),.pointer (some ⟨w.heap.size,0,none⟩),.int .u64 150]) (w.alloc (.cells #[.pointer (some t)] 237)):=by kernel_rfl
theorem aKM(a:Addr)(w:World):(ReflectliteValue.methodAny (ReflectliteValue.valueError "reflectlite.Value.Type" 0) (fun t _ _ _=>ReflectliteType.toType t) #[.agg #[.pointer (some ⟨2,237,none⟩),.pointer (some a),.int .u64 150]]).run prog w
 = .ok (.iface 295 (.agg #[.pointer (some ⟨2,237,none⟩)])) w:=by kernel_rfl
theorem aFd(h:Value)(w:World):(Go.method 457 295 (.agg #[h]) "Kind").run prog w= .ok (261,h) w:=by kernel_rfl
theorem aKV(w:World):((ReflectliteType.abiMethod fun t=>Functor.map (fun a:Nat=>Value.int IntKind.u8 (a:Int)) (Rtype.kind t)) #[.pointer (some ⟨2,237,none⟩)]).run prog w= .ok (.int .u8 22) w:=by kernel_rfl
theorem aLd(w:World):((ReflectliteType.abiMethod fun t=>Functor.map (fun a:Nat=>Value.int IntKind.u8 (a:Int)) (Rtype.kind t)) #[.pointer (some ⟨2,234,none⟩)]).run prog w= .ok (.int .u8 22) w:=by kernel_rfl
theorem rlm(z:Sem Value)(f:TypeId→Addr→Nat→Nat→Sem Value)(v:Value):
 ReflectliteValue.method z f #[v]=(ReflectliteValue.parts v>>=fun o=>match o with|none=>z|some (t,a,fl)=>f t a fl (fl % 32)):=rfl
theorem aGH(a:Addr)(w:World):(ReflectliteValue.parts (.agg #[.pointer (some ⟨2,237,none⟩),.pointer (some a),.int .u64 150])).run prog w= .ok (some (237,a,150)) w:=by kernel_rfl
theorem aJG(a p:Addr)(W:World)(ha:W.cell? a=some (.pointer (some p))):
 (ReflectliteValue.method (ReflectliteValue.valueError "reflectlite.Value.IsNil" 0) ReflectliteValue.isNil #[.agg #[.pointer (some ⟨2,237,none⟩),.pointer (some a),.int .u64 150]]).run prog W= .ok (.bool false) W:=by
 rw[rlm];simp only[aT,aGH,Result.andThen];simp[ReflectliteValue.isNil,loadVar,isAgg,underlying,underlying237,ha,Result.andThen]
section
variable (h:Value) (w:World)
theorem aFM:(Go.method 457 295 (.agg #[h]) "Elem").run prog w= .ok (272,.agg #[h]) w:=by kernel_rfl
theorem zQ:(Go.method 457 295 (.agg #[h]) "Implements").run prog w= .ok (273,.agg #[h]) w:=by kernel_rfl
theorem wN:(Go.method 457 295 (.agg #[h]) "AssignableTo").run prog w= .ok (270,.agg #[h]) w:=by kernel_rfl
end
theorem aKY(w:World):(ReflectliteType.method ReflectliteType.elem #[.agg #[.pointer (some ⟨2,237,none⟩)]]).run prog w= .ok (.iface 295 (.agg #[.pointer (some ⟨2,234,none⟩)])) w:=by kernel_rfl
theorem aEb(w:World):(ReflectliteType.relation "Implements" ReflectliteType.implements_ #[.agg #[.pointer (some ⟨2,234,none⟩)],.iface 295 (.agg #[.pointer (some ⟨2,202,none⟩)])]).run prog w= .ok (.bool true) w:=by kernel_rfl
theorem aKl(v:Value)(w:World):(ReflectliteType.typeOf #[.iface 234 v]).run prog w= .ok (.iface 295 (.agg #[.pointer (some ⟨2,234,none⟩)])) w:=by kernel_rfl
theorem aEV(w:World):(ReflectliteType.relation "AssignableTo" ReflectliteType.assignableTo #[.agg #[.pointer (some ⟨2,234,none⟩)],.iface 295 (.agg #[.pointer (some ⟨2,234,none⟩)])]).run prog w= .ok (.bool true) w:=by kernel_rfl
theorem aIE(e:Addr)(w:World):(ReflectliteValue.unpack (.iface 234 (.pointer (some e)))).run prog w
 = .ok (.agg #[.pointer (some ⟨2,234,none⟩),.pointer (some ⟨w.heap.size,0,none⟩),.int .u64 150]) (w.alloc (.cells #[.pointer (some e)] 234)):=by kernel_rfl
theorem aIv(w:World):(Rtype.elem? 237).run prog w= .ok (some 234) w:=by kernel_rfl
theorem mkP(p:Addr)(w:World):(ReflectliteValue.mk 234 p ReflectliteValue.flagAddr).run prog w= .ok (.agg #[.pointer (some ⟨2,234,none⟩),.pointer (some p),.int .u64 406]) w:=by kernel_rfl
theorem aKm(a p:Addr)(W:World)(ha:W.cell? a=some (.pointer (some p))):
 (ReflectliteValue.method (ReflectliteValue.valueError "reflectlite.Value.Elem" 0) ReflectliteValue.elem #[.agg #[.pointer (some ⟨2,237,none⟩),.pointer (some a),.int .u64 150]]).run prog W
  = .ok (.agg #[.pointer (some ⟨2,234,none⟩),.pointer (some p),.int .u64 406]) W:=by
 rw[rlm];simp only[aT,aGH,Result.andThen];simp[ReflectliteValue.elem,loadVar,isAgg,underlying,underlying237,ha,Result.andThen,aIv,mkP]
theorem aJW(a:Addr)(w:World):(ReflectliteValue.parts (.agg #[.pointer (some ⟨2,234,none⟩),.pointer (some a),.int .u64 406])).run prog w= .ok (some (234,a,406)) w:=by kernel_rfl
theorem aKC(a:Addr)(w:World):(ReflectliteValue.parts (.agg #[.pointer (some ⟨2,234,none⟩),.pointer (some a),.int .u64 150])).run prog w= .ok (some (234,a,150)) w:=by kernel_rfl
theorem aKh(w:World):(Rtype.directlyAssignable 234 234).run prog w= .ok true w:=by kernel_rfl
theorem rls(v x:Value):ReflectliteValue.set #[v,x]=(do
 let (some (dst,a,fl),some (src,b,_)):=(←ReflectliteValue.parts v,←ReflectliteValue.parts x)
  |unsupported (.noEntry "extern/(internal/reflectlite.Value).Set.zeroValue")
 if fl / ReflectliteValue.flagAddr % 2==0 then unsupported (.noEntry "extern/(internal/reflectlite.Value).Set.unaddressable")
 let val←loadVar src b
 if←Rtype.directlyAssignable dst src then storeVar dst a val
 else if←Rtype.implements dst src then
  if(←Rtype.kind src)==20 then
   match val with
   |.nilIface=>unsupported (.noEntry "extern/reflectlite: a nil value of one interface type handed on as a value of another")
   |_=>storeVar dst a val
  else storeVar dst a (.iface src val)
 else panicString ("reflectlite.Set: value of type "++(←Rtype.spelt src)++ " is not assignable to type "++(←Rtype.spelt dst))
 pure (.tuple #[])):=rfl
theorem aLl(ta b e:Addr)(old:Value)(W:World)(hb:W.cell? b=some (.pointer (some e)))(ht:W.cell? ta=some old)(hf:W.frozen? ta=false):
 (ReflectliteValue.set #[.agg #[.pointer (some ⟨2,234,none⟩),.pointer (some ta),.int .u64 406],.agg #[.pointer (some ⟨2,234,none⟩),.pointer (some b),.int .u64 150]]).run prog W
  = .ok (.tuple #[]) (W.setCell ta (.pointer (some e))):=by
 rw[rls];simp only[aT,aJW,aKC,Result.andThen];simp[ReflectliteValue.flagAddr,loadVar,isAgg,underlying,underlying234,hb,Result.andThen,aKh,storeVar,Value.cells,storeCells,Addr.add];rw[run_store prog W ta _ _ (by rfl)];simp[ht,hf]
theorem aKR(e t:Addr)(old:Value)(w:World)(hg:w.cell? ⟨1,0,none⟩=some aIS)(hlt:1<w.heap.size)(ht0:w.cell? t=some old)(hf0:w.frozen? t=false):
 Calls prog 168 #[.iface 234 (.pointer (some e)),.iface 237 (.pointer (some t))] w fun ev w'=>ev= .returned (.bool true)∧w'=((((w.alloc (.cells #[.pointer (some t)] 237)).alloc (.cells #[.pointer (some ⟨2,237,none⟩),.pointer (some ⟨w.heap.size,0,none⟩),.int .u64 150] 264)).alloc (.cells #[.pointer (some ⟨2,237,none⟩),.pointer (some ⟨w.heap.size,0,none⟩),.int .u64 150] 264)).alloc (.cells #[.pointer (some e)] 234)).setCell t (.pointer (some e)):=by
 have E:= @run_callFunc_extern prog 192 _ (fun args=>ReflectliteValue.unpack (args.getD 0 (.tuple #[]))) func192 (by kernel_rfl) (by kernel_rfl) (by kernel_rfl) (by kernel_rfl);have x:= @run_callFunc_extern prog 193 _ (ReflectliteValue.methodAny (ReflectliteValue.valueError "reflectlite.Value.Type" 0) (fun t _ _ _=>ReflectliteType.toType t)) func193 (by kernel_rfl) (by kernel_rfl) (by kernel_rfl) (by kernel_rfl);have y:= @run_callFunc_extern prog 194 _ (ReflectliteValue.method (ReflectliteValue.valueError "reflectlite.Value.IsNil" 0) ReflectliteValue.isNil) func194 (by kernel_rfl) (by kernel_rfl) (by kernel_rfl) (by kernel_rfl);have i:= @run_callFunc_extern prog 261 _ (ReflectliteType.abiMethod fun t=>do pure (.int .u8 (←Rtype.kind t))) func261 (by kernel_rfl) (by kernel_rfl) (by kernel_rfl) (by kernel_rfl);have m:= @run_callFunc_extern prog 272 _ (ReflectliteType.method ReflectliteType.elem) func272 (by kernel_rfl) (by kernel_rfl) (by kernel_rfl) (by kernel_rfl);have p:= @run_callFunc_extern prog 273 _ (ReflectliteType.relation "Implements" ReflectliteType.implements_) func273 (by kernel_rfl) (by kernel_rfl) (by kernel_rfl) (by kernel_rfl);have f:= @run_callFunc_extern prog 190 _ ReflectliteType.typeOf func190 (by kernel_rfl) (by kernel_rfl) (by kernel_rfl) (by kernel_rfl);have b:= @run_callFunc_extern prog 270 _ (ReflectliteType.relation "AssignableTo" ReflectliteType.assignableTo) func270 (by kernel_rfl) (by kernel_rfl) (by kernel_rfl) (by kernel_rfl)
 have k:= @run_callFunc_extern prog 219 _ (ReflectliteValue.method (ReflectliteValue.valueError "reflectlite.Value.Elem" 0) ReflectliteValue.elem) func219 (by kernel_rfl) (by kernel_rfl) (by kernel_rfl) (by kernel_rfl);have g:= @run_callFunc_extern prog 220 _ ReflectliteValue.set func220 (by kernel_rfl) (by kernel_rfl) (by kernel_rfl) (by kernel_rfl);have F:=aKl;have D:=wN;have q:=aEV;have j:=aIE;have A:=aHI;have u:=aKM;have z:=aFd;have s:=aFM;have r:=zQ;have o:=aKV;have c:=aLd;have n:=aKY;have d:=aEb;have B:=aJG ⟨w.heap.size,0,none⟩ t ((w.alloc (.cells #[.pointer (some t)] 237)).alloc (.cells #[.pointer (some ⟨2,237,none⟩),.pointer (some ⟨w.heap.size,0,none⟩),.int .u64 150] 264)) (by simp);have l:((w.alloc (.cells #[.pointer (some t)] 237)).alloc (.cells #[.pointer (some ⟨2,237,none⟩),.pointer (some ⟨w.heap.size,0,none⟩),.int .u64 150] 264)).cell? ⟨1,0,none⟩=some aIS:=by
  rw[bJ _ _ ⟨1,0,none⟩ (by simp;omega),bJ _ _ ⟨1,0,none⟩ hlt];exact hg
 have a:t.block<w.heap.size:=by
  rcases Nat.lt_or_ge t.block w.heap.size with h|h
  ·exact h
  ·simp[World.cell?,Array.getElem?_eq_none h]at ht0
 have v:=aKm ⟨w.heap.size,0,none⟩ t (((w.alloc (.cells #[.pointer (some t)] 237)).alloc (.cells #[.pointer (some ⟨2,237,none⟩),.pointer (some ⟨w.heap.size,0,none⟩),.int .u64 150] 264)).alloc (.cells #[.pointer (some ⟨2,237,none⟩),.pointer (some ⟨w.heap.size,0,none⟩),.int .u64 150] 264)) (by rw[bJ _ _ ⟨w.heap.size,0,none⟩ (by simp;omega)];simp);have C:=aLl t ⟨w.heap.size+1+1+1,0,none⟩ e old ((((w.alloc (.cells #[.pointer (some t)] 237)).alloc (.cells #[.pointer (some ⟨2,237,none⟩),.pointer (some ⟨w.heap.size,0,none⟩),.int .u64 150] 264)).alloc (.cells #[.pointer (some ⟨2,237,none⟩),.pointer (some ⟨w.heap.size,0,none⟩),.int .u64 150] 264)).alloc (.cells #[.pointer (some e)] 234))
  (by rw[World.cell?_alloc_at _ _ _ _ (by simp)];rfl)
  (by rw[bJ _ _ t (by simp;omega),bJ _ _ t (by simp;omega),bJ _ _ t (by simp;omega),bJ _ _ t a];exact ht0)
  (by rw[World.frozen?_alloc_old _ _ t (by simp;omega),World.frozen?_alloc_old _ _ t (by simp;omega),World.frozen?_alloc_old _ _ t (by simp;omega),World.frozen?_alloc_old _ _ t (Nat.ne_of_lt a)];exact hf0)
 go_enter func168,ntmps168;go_wp2;refine wp_loop_rounds 1 ?_;rw[rounds_succ];go_wp2;go_ret;exact⟨rfl,rfl⟩
theorem aIX(fb t:Nat)(w:World)(hg:w.cell? ⟨1,0,none⟩=some aIS)(h1lt:1<w.heap.size)(ht:w.heap[t]?=some (.cells #[.pointer none] 234 (0,0))):
 Calls prog 168 #[.iface 234 (.pointer (some ⟨fb,0,none⟩)),.iface 237 (.pointer (some ⟨t,0,none⟩))] w fun ev w'=>ev= .returned (.bool true)∧Chg (fun x=>x=t) w w'∧w'.heap[t]?=some (.cells #[.pointer (some ⟨fb,0,none⟩)] 234 (0,0)):=by
 refine(aKR ⟨fb,0,none⟩ ⟨t,0,none⟩ (.pointer none) w hg h1lt (cO ht 0 _ rfl) (cX ht 0)).mono ?_;rintro e w' ⟨rfl,rfl⟩;have a:=dG ht;refine⟨rfl,((((((Chg.refl _ _).alloc _).alloc _).alloc _).alloc _).setCell _ _ (fun _=>rfl)),dD (dM _ (dM _ (dM _ (dM _ ht)))) 0 _⟩
end
end Go.Proofs.YtbbdgokdfhdpiaaGreatDoor
