/- A part of the proof: PTake, PBegin, PErr2, PAc3, PAc4. -/
import Derived.LaidEql
import Derived.RowKitTokens
import Derived.Stop.Asserts
import Derived.Test.YtbbdgokdfhdpiaaGreatDoorE17
namespace Go.Proofs.YtbbdgokdfhdpiaaGreatDoor
set_option linter.all false
set_option maxRecDepth 100000
set_option maxHeartbeats 40000000
open Go.Proofs.Tryz Go.RowKit
theorem aGn(a b:Int):(if a<b then b else a)=max a b:=by
 split<;>omega
theorem aEa(W:World)(F G:Nat→Prop)(b g:Nat)(f:Cf)(av cv:Value)(c:Ct)(net:List Mg)(tr:List Ev)(m:Mg)(h:Sys W F G b g f av cv c net tr)(hf1:1≤f.f)(hf2:f.f≤2)(hdr1:0≤f.drift)(hdr2:f.drift≤10)(hc:vQ c)(hvm:zP m.val)(hmb1:0≤m.base)(hmb2:m.base≤256255)(hmk:m.kind≠0)
 (ho:∀o,c.doing=some o→aCL o∧zP o.att.val∧o.mine.length≤100000000000∧o.att.ans.length≤100000000000) (hw:∀l,0≤(c.wat l).since∧(c.wat l).since≤100000000000) (hn:net.length≤99999999990) (ht:tr.length≤99999999990):
 Calls prog 86 #[.pointer (some ⟨b,0,none⟩),mgV m] W fun r W'=>r= .returned (.tuple #[])∧After W F G b g f av cv (fI f c m) (net++cH (fE f c m)) (tr++fE f c m) W':=by
 generalize A:W.alloc (.cells #[.int .i64 m.kind,.int .i64 m.src,.int .i64 m.dst,.int .i64 m.lock,.int .i64 m.bal,.int .i64 m.base,.int .i64 m.val.own,.int .i64 m.val.tok,.int .i64 m.val.ttl,.int .i64 m.val.seq] 66)=W0;have z:=cA A;have K:Chg NoS W W0:=by rw[←A];exact(Chg.refl _ _).alloc _
 have N:W0.heap[W.heap.size]?=some (.cells (mgL m).toArray 66 (0,0)):=by rw[←A];exact aA W _
 have p:=cA (h.kept K (fun _ _ h=>h) (fun _ _ h=>h));have J:=cA N;have d:Hid (Went W W0 F F G G):=⟨K.mono (fun _ _ h=>h.elim),fun _ h=>Or.inl h,fun _ h=>Or.inl h⟩;have t:=p.out.cl;obtain⟨ch,tk,a9,wt,dv,t⟩:=t;have U:∀q,c.up=q→Hid (∀x,x=W0.drew→Calls prog 90 #[.pointer (some ⟨b,0,none⟩)] x fun e w'=>e= .returned (.bool q)∧w'=x):=fun q e x hx=>by
  subst hx;subst e;exact uK W0.drew b ch c.up (t.cell 9 _ rfl) t.chan
 have b5:=t.cell 16 _ rfl;have x4:=cB N 4 _ rfl;have i:=cA (aH4 hc hvm hw);have D:=cA t;clear A K N h hc hvm hw;cases hu:c.up
 ·have u:fI f c m=c:=by unfold fI;rw[if_pos hu]
  have w:fE f c m=[]:=by unfold fE;rw[if_pos hu]
  rw[u,w,eU,aC,aC];clear u w;have y:=U _ hu;clear U hu ho t;go_enter func86,ntmps86;go_wp2_with (rw[z.out]);refine dZ [0,1,0,0,0,0,0,1,0,0,0,0,1,0,0,0,1,0,0,0,1,0,0] (by kernel_rfl) (fun _ _ _ _=>rfl) ?_;simp only[cM,cL];iterate 1 (apply sB rfl rfl;·(intro x h;(try cases h rfl);go_simp;with_reducible rfl))
  try simp only[pA]
  refine dB (v:=.bool false) (f:=90) (args:=#[.pointer (some ⟨b,0,none⟩)]) rfl (fun x hx=>by subst hx;go_simp;try rfl) (fun x hx=>y.out x hx) ?_;(try simp only[pA]);iterate 21 ((try simp only[pA]);first|(apply sB rfl rfl;·(intro x h;(try cases h rfl);go_simp;with_reducible rfl))|apply dU rfl|apply dO rfl)
  refine cC ?_;try simp only[pA]
  go_wp2_with fail
  ((try simp only[Exit.inBlock,Exit.then]);refine bodyPost_ret (results_none rfl _ _ _) rfl ?_)
  exact⟨rfl,F,G,p.out.drew,⟨d.out.chg.drew,d.out.f,d.out.g⟩⟩
 ·have y:=U _ hu;clear U;have B:=t.doing;clear t;cases hd:c.doing with
  |none=>
   rw[hd]at B;obtain rfl:dv= .pointer none:=B;have u:fI f c m=c:=by unfold fI;rw[if_neg (by simp[hu]),hd]
   have w:fE f c m=[]:=by unfold fE;rw[if_neg (by simp[hu]),hd]
   rw[u,w,eU,aC,aC];clear u w;clear hu hd ho;go_enter func86,ntmps86;go_wp2_with (rw[z.out]);refine dZ [0,1,0,0,0,0,0,1,0,0,0,0,1,0,0,0,1,0,0,0,1,0,0] (by kernel_rfl) (fun _ _ _ _=>rfl) ?_;simp only[cM,cL];iterate 1 (apply sB rfl rfl;·(intro x h;(try cases h rfl);go_simp;with_reducible rfl))
   try simp only[pA]
   refine dB (v:=.bool true) (f:=90) (args:=#[.pointer (some ⟨b,0,none⟩)]) rfl (fun x hx=>by subst hx;go_simp;try rfl) (fun x hx=>y.out x hx) ?_;(try simp only[pA]);iterate 21 ((try simp only[pA]);first|(apply sB rfl rfl;·(intro x h;(try cases h rfl);go_simp;with_reducible rfl))|apply dU rfl|apply dO rfl)
   refine cC ?_;try simp only[pA]
   go_wp2_with fail
   ((try simp only[Exit.inBlock,Exit.then]);refine bodyPost_ret (results_none rfl _ _ _) rfl ?_)
   exact⟨rfl,F,G,p.out.drew,⟨d.out.chg.drew,d.out.f,d.out.g⟩⟩
  |some o=>
   rw[hd]at B;obtain⟨ob,an,mv,rfl,L,Z⟩:=B;obtain⟨T,a2,a5,a0⟩:=ho o hd;have o5:=cB L.1 5 _ rfl;have a4:=cA L;clear L Z;by_cases a:m.bal=o.att.bal
   ·have a8:(m.bal !=o.att.bal)=false:=by simp[a]
    have x0:=cB J.out 0 _ rfl;by_cases j:m.kind=5
    ·have a3:(m.kind==5)=true:=by simp[j]
     have u:fI f c m=jL f {c with round:=max c.round (m.base / 256)} o:=by unfold fI;rw[if_neg (by simp[hu]),hd];exact(if_neg (by simp[a])).trans (if_pos j)
     have w:fE f c m=jF f {c with round:=max c.round (m.base / 256)} o:=by unfold fE;rw[if_neg (by simp[hu]),hd];exact(if_neg (by simp[a])).trans (if_pos j)
     rw[u,w];clear u w;have HD:=cA hd;clear hu hd ho a j hmk;have Y:=D.out.cell 12 _ rfl;have x5:=cB J.out 5 _ rfl;obtain⟨M,V⟩:=aIe (max c.round (m.base / 256));rw[←V];have HM:=cA V;clear V;have b2:m.base.tdiv 256=m.base / 256:=Int.tdiv_eq_ediv_of_nonneg hmb1;have b4:IntKind.i64.wrap (m.base / 256)=m.base / 256:=eI (by omega) (by omega);go_enter func86,ntmps86;go_wp2_with (rw[z.out]);refine dZ [0,1,0,0,0,0,0,1,0,0,0,0,1,0,0,0,1,0,0,0,1,0,0] (by kernel_rfl) (fun _ _ _ _=>rfl) ?_;simp only[cM,cL];iterate 1 (apply sB rfl rfl;·(intro x h;(try cases h rfl);go_simp;with_reducible rfl))
     try simp only[pA]
     refine dB (v:=.bool true) (f:=90) (args:=#[.pointer (some ⟨b,0,none⟩)]) rfl (fun x hx=>by subst hx;go_simp;try rfl) (fun x hx=>y.out x hx) ?_;(try simp only[pA]);iterate 21 ((try simp only[pA]);first|(apply sB rfl rfl;·(intro x h;(try cases h rfl);go_simp;with_reducible rfl))|apply dU rfl|apply dO rfl)
     refine cC ?_;try simp only[pA]
     go_wp2_with fail;refine dZ [0,0,0,0,1,0,1,0,0,0,0] (by kernel_rfl) (fun _ _ _ _=>rfl) ?_;simp only[cM,cL];iterate 11 (apply sB rfl rfl;·(intro x h;(try cases h rfl);go_simp;with_reducible rfl))
     refine cC ?_;try simp only[pA]
     try rw[aGn]
     rw[←HM.out];generalize C:W0.drew.drew=Wd at*;have n:=C▸D.out.kept (S:=NoS) (Chg.refl _ _).drew.drew (fun _ _ h=>h);have I:=C▸p.out.drew.drew.nt;have R:Went W Wd F F G G:=C▸⟨d.out.chg.drew.drew,d.out.f,d.out.g⟩;clear C;have b1:=n.cell 12 _ rfl;have b3:=n.froz 12;have O:=dA Wd b 12 (.int .i64 M);have H:=n.cells O {c with round:=M} (.pointer (some ⟨ob,0,none⟩)) rfl rfl rfl rfl (cO n.blk 12 _) (n.doing.kept n.blk (by decide) (by decide) O);have E:=I.kept O (fun k hk e=>p.out.apart b D.out.fb (e▸hk));have P:=R.trans (⟨O.mono (fun k _ e=>Or.inl (e▸D.out.fb)),fun _ h=>Or.inl h,fun _ h=>Or.inl h⟩:Went Wd (Wd.setCell ⟨b,12,none⟩ (.int .i64 M)) F F G G);generalize Q:Wd.setCell ⟨b,12,none⟩ (.int .i64 M)=W4 at*;have b0:=cA Q;have a7:=cA P;have HE:Hid (Calls prog 131 #[.pointer (some ⟨b,0,none⟩)] W4 fun r W'=>r= .returned (.tuple #[])∧After W4 F G b g f av cv (jL f {c with round:=M} o) (net++cH (jF f {c with round:=M} o)) (tr++jF f {c with round:=M} o) W'):=
      pX W4 F G b g f av cv {c with round:=M} o net tr ⟨⟨ch,tk,a9,wt,_,H⟩,E,p.out.apart⟩ HD.out hf1 hf2 (by rw[HM.out];exact⟨i.out.1.n1,i.out.1.n2,i.out.1.i1,i.out.1.i2,i.out.1.c1,i.out.1.c2,by have:=i.out.1.r1;show 0≤max c.round (m.base / 256);omega,by have:=i.out.1.r2;show max c.round (m.base / 256)≤1000;omega⟩) T hn ht
     clear Q n I R O H E P Y x5;go_wp2_with (first|rw[b0.out]|(go_at_call 131;refine HE.out.mono ?_;rintro r W5 ⟨rfl,X⟩));go_end0;exact⟨rfl,After.trans a7.out X⟩
    ·have a3:(m.kind==5)=false:=by simp[j]
     have o7:=cB a4.out.1 7 _ rfl;by_cases s:m.kind=o.att.awaited
     ·have a1:(m.kind==o.att.awaited)=true:=by simp[s]
      have u:fI f c m=iS f c o m:=by unfold fI;rw[if_neg (by simp[hu]),hd];exact((if_neg (by simp[a])).trans (if_neg j)).trans (if_pos s)
      have w:fE f c m=iW f c o m:=by unfold fE;rw[if_neg (by simp[hu]),hd];exact((if_neg (by simp[a])).trans (if_neg j)).trans (if_pos s)
      rw[u,w];clear u w;have HC:Hid (Calls prog 132 #[.pointer (some ⟨b,0,none⟩),mgV m] W0.drew fun r W'=>r= .returned (.tuple #[])∧After W0.drew F G b g f av cv (iS f c o m) (net++cH (iW f c o m)) (tr++iW f c o m) W'):=
       aEg W0.drew F G b g f av cv c o net tr m p.out.drew hd hf1 hf2 hdr1 hdr2 i.out.1 T a2 i.out.2.1 (fun e=>hmk (s.trans e)) a5 i.out.2.2 a0 hn ht
      have a6:=cA (cE (W:=W0.drew) J.out);clear hu hd ho a j s hmk;go_enter func86,ntmps86;go_wp2_with (rw[z.out]);refine dZ [0,1,0,0,0,0,0,1,0,0,0,0,1,0,0,0,1,0,0,0,1,0,0] (by kernel_rfl) (fun _ _ _ _=>rfl) ?_;simp only[cM,cL];iterate 1 (apply sB rfl rfl;·(intro x h;(try cases h rfl);go_simp;with_reducible rfl))
      try simp only[pA]
      refine dB (v:=.bool true) (f:=90) (args:=#[.pointer (some ⟨b,0,none⟩)]) rfl (fun x hx=>by subst hx;go_simp;try rfl) (fun x hx=>y.out x hx) ?_;(try simp only[pA]);iterate 21 ((try simp only[pA]);first|(apply sB rfl rfl;·(intro x h;(try cases h rfl);go_simp;with_reducible rfl))|apply dU rfl|apply dO rfl)
      refine cC ?_;try simp only[pA]
      go_wp2_with (first|(refine cJ rfl 66 _ rfl ⟨W.heap.size,0,none⟩ rfl (mgL m) _ a6.out underlying66 rfl (by kernel_rfl) ?_)|(go_at_call 132;refine HC.out.mono ?_;rintro r W5 ⟨rfl,X⟩));go_end0;exact⟨rfl,After.trans d.out X.drew⟩
     ·have a1:(m.kind==o.att.awaited)=false:=by simp[s]
      have u:fI f c m=c:=by unfold fI;rw[if_neg (by simp[hu]),hd];exact((if_neg (by simp[a])).trans (if_neg j)).trans (if_neg s)
      have w:fE f c m=[]:=by unfold fE;rw[if_neg (by simp[hu]),hd];exact((if_neg (by simp[a])).trans (if_neg j)).trans (if_neg s)
      rw[u,w,eU,aC,aC];clear u w;clear hu hd ho a j s;go_enter func86,ntmps86;go_wp2_with (rw[z.out]);refine dZ [0,1,0,0,0,0,0,1,0,0,0,0,1,0,0,0,1,0,0,0,1,0,0] (by kernel_rfl) (fun _ _ _ _=>rfl) ?_;simp only[cM,cL];iterate 1 (apply sB rfl rfl;·(intro x h;(try cases h rfl);go_simp;with_reducible rfl))
      try simp only[pA]
      refine dB (v:=.bool true) (f:=90) (args:=#[.pointer (some ⟨b,0,none⟩)]) rfl (fun x hx=>by subst hx;go_simp;try rfl) (fun x hx=>y.out x hx) ?_;(try simp only[pA]);iterate 21 ((try simp only[pA]);first|(apply sB rfl rfl;·(intro x h;(try cases h rfl);go_simp;with_reducible rfl))|apply dU rfl|apply dO rfl)
      refine cC ?_;try simp only[pA]
      go_wp2_with fail;go_end0;exact⟨rfl,F,G,p.out.drew,⟨d.out.chg.drew,d.out.f,d.out.g⟩⟩
   ·have a8:(m.bal !=o.att.bal)=true:=by simp[a]
    have u:fI f c m=c:=by unfold fI;rw[if_neg (by simp[hu]),hd];exact if_pos a
    have w:fE f c m=[]:=by unfold fE;rw[if_neg (by simp[hu]),hd];exact if_pos a
    rw[u,w,eU,aC,aC];clear u w;clear hu hd ho a;go_enter func86,ntmps86;go_wp2_with (rw[z.out]);refine dZ [0,1,0,0,0,0,0,1,0,0,0,0,1,0,0,0,1,0,0,0,1,0,0] (by kernel_rfl) (fun _ _ _ _=>rfl) ?_;simp only[cM,cL];iterate 1 (apply sB rfl rfl;·(intro x h;(try cases h rfl);go_simp;with_reducible rfl))
    try simp only[pA]
    refine dB (v:=.bool true) (f:=90) (args:=#[.pointer (some ⟨b,0,none⟩)]) rfl (fun x hx=>by subst hx;go_simp;try rfl) (fun x hx=>y.out x hx) ?_;(try simp only[pA]);iterate 21 ((try simp only[pA]);first|(apply sB rfl rfl;·(intro x h;(try cases h rfl);go_simp;with_reducible rfl))|apply dU rfl|apply dO rfl)
    refine cC ?_;try simp only[pA]
    go_wp2_with fail
    ((try simp only[Exit.inBlock,Exit.then]);refine bodyPost_ret (results_none rfl _ _ _) rfl ?_)
    exact⟨rfl,F,G,p.out.drew,⟨d.out.chg.drew,d.out.f,d.out.g⟩⟩
theorem aAU(c:Ct)(k l t:Int):(dJ c k l t).num=c.num∧(dJ c k l t).inc=c.inc∧(dJ c k l t).clock=c.clock∧(dJ c k l t).round=c.round∧(dJ c k l t).doing=c.doing∧(dJ c k l t).up=c.up∧(dJ c k l t).wat=c.wat∧(dJ c k l t).toks=c.toks:=by
 unfold dJ;split
 ·exact⟨rfl,rfl,rfl,rfl,rfl,rfl,rfl,rfl⟩
 ·split<;>exact⟨rfl,rfl,rfl,rfl,rfl,rfl,rfl,rfl⟩
theorem uR(W:World)(F G:Nat→Prop)(b g:Nat)(f:Cf)(av cv:Value)(c:Ct)(net:List Mg)(tr:List Ev)(k l t:Int)(h:Sys W F G b g f av cv c net tr)(hf1:1≤f.f)(hf2:f.f≤2)(hc:vQ c)(ht1:0≤t)(ht2:t≤1000)(hn:net.length≤99999999990)(ht:tr.length≤99999999980):
 Calls prog 81 #[.pointer (some ⟨b,0,none⟩),opV k l t] W fun r W'=>r= .returned (.int .i64 (jX c))∧After W F G b g f av cv (iN c k l t) (net++cH (iB f c k l t)) (tr++iB f c k l t) W':=by
 generalize K:W.alloc (.cells #[.int .i64 k,.int .i64 l,.int .i64 t] 68)=W0;have a2:=cA K;have a1:Chg NoS W W0:=by rw[←K];exact(Chg.refl _ _).alloc _
 have R:W0.heap[W.heap.size]?=some (.cells #[.int .i64 k,.int .i64 l,.int .i64 t] 68 (0,0)):=by rw[←K];exact aA W _
 have s:=cA (h.kept a1 (fun _ _ h=>h) (fun _ _ h=>h));have b5:=cA R;have y:Hid (Went W W0 F F G G):=⟨a1.mono (fun _ _ h=>h.elim),fun _ h=>Or.inl h,fun _ h=>Or.inl h⟩;have i:=s.out.cl;obtain⟨ch,tk,d2,wt,dv,i⟩:=i;have HU:∀q,c.up=q→Hid (Calls prog 90 #[.pointer (some ⟨b,0,none⟩)] W0 fun e w'=>e= .returned (.bool q)∧w'=W0):=fun q e=>e▸uK W0 b ch c.up (i.cell 9 _ rfl) i.chan;have d4:=i.cell 16 _ rfl;have c4:=cA i;have u:=cA hc;have a9:=cX R;have e5:=cA a9;have b9:Hid (¬F W.heap.size∧¬G W.heap.size):=⟨fun a=>by have:=h.ltF _ a;omega,fun a=>by have:=h.nt.lt _ a;omega⟩;clear K a1 R h hc a9;cases hu:c.up
 ·have m:jX c=2:=by unfold jX;rw[if_pos hu]
  have L:iN c k l t=c:=by unfold iN;rw[if_pos (by rw[m];decide)]
  have M:iB f c k l t=[]:=by unfold iB;rw[if_pos (by rw[m];decide)]
  rw[m,L,M,eU,aC,aC];clear L M;have D:=HU _ hu;clear m hu HU i;go_enter func81,ntmps81;go_wp2_with (first|rw[a2.out]|(go_at_call 90;refine D.out.mono ?_;rintro e w' ⟨rfl,N⟩;have w:=N.symm;subst w;clear N));go_ret;exact⟨rfl,F,G,s.out,y.out⟩
 ·have D:=HU _ hu;have E:=i.doing;clear HU i;cases hd:c.doing with
  |some o=>
   rw[hd]at E;obtain⟨ob,an,mv,rfl,_,_⟩:=E;have m:jX c=4:=by unfold jX;rw[if_neg (by simp[hu]),hd];rfl
   have L:iN c k l t=c:=by unfold iN;rw[if_pos (by rw[m];decide)]
   have M:iB f c k l t=[]:=by unfold iB;rw[if_pos (by rw[m];decide)]
   rw[m,L,M,eU,aC,aC];clear L M;clear m hu hd;go_enter func81,ntmps81;go_wp2_with (first|rw[a2.out]|(go_at_call 90;refine D.out.mono ?_;rintro e w' ⟨rfl,N⟩;have w:=N.symm;subst w;clear N));go_ret;exact⟨rfl,F,G,s.out,y.out⟩
  |none=>
   rw[hd]at E;obtain rfl:dv= .pointer none:=E;have m:jX c=0:=by unfold jX;rw[if_neg (by simp[hu]),hd];rfl
   have L:iN c k l t=gG (dJ {c with doing:=some (dT c k l t)} k l t) (dT c k l t):=by unfold iN;rw[if_neg (by rw[m];decide)]
   have M:iB f c k l t=gW c.num (dT c k l t)::fH f (dJ {c with doing:=some (dT c k l t)} k l t) (dT c k l t):=by unfold iB;rw[if_neg (by rw[m];decide)]
   rw[m,L,M];clear L M;clear m hu hd;have e4:=c4.out.cell 11 _ rfl;have c0:=cA (cE (W:=W0.drew) b5.out);go_enter func81,ntmps81;go_wp2_with (first|rw[a2.out]|(go_at_call 90;refine D.out.mono ?_;rintro e w' ⟨rfl,N⟩;have w:=N.symm;subst w;clear N));refine dZ [0,1,0,0,0,1,0] (by kernel_rfl) (fun _ _ _ _=>rfl) ?_;simp only[cM,cL];iterate 1 (apply sB rfl rfl;·(intro x h;(try cases h rfl);go_simp;with_reducible rfl))
   try simp only[pA]
   refine cK (v:=opV k l t) rfl (fun x hx=>cF 68 _ rfl ⟨W.heap.size,0,none⟩ rfl [.int .i64 k,.int .i64 l,.int .i64 t] _ (by subst hx;exact c0.out) underlying68 rfl (by kernel_rfl)) ?_;iterate 5 (apply sB rfl rfl;·(intro x h;(try cases h rfl);go_simp;with_reducible rfl))
   refine cC ?_;try simp only[pA]
   generalize p:W0.drew=Wd at*;have j:=p▸c4.out.kept (S:=NoS) (Chg.refl _ _).drew (fun _ _ h=>h);have B:=p▸s.out.drew.nt;have b0:Wd.heap[W.heap.size]?=some (.cells #[.int .i64 k,.int .i64 l,.int .i64 t] 68 (0,0)):=p▸b5.out;have b3:Went W Wd F F G G:=p▸⟨y.out.chg.drew,y.out.f,y.out.g⟩;have b7:=s.out.apart;clear p;have z:Chg NoS Wd (Wd.alloc (.cells #[.int .i64 k,.int .i64 l,.int .i64 t,.int .i64 c.clock,.int .i64 0,.int .i64 0,.int .i64 0,.int .i64 0,.map none,.int .i64 0,.int .i64 0,.int .i64 0,.int .i64 0,.int .i64 0,.int .i64 0,.int .i64 0,.int .i64 0,.slice none 0 0] 195)):=(Chg.refl _ _).alloc _;have a4:(Wd.alloc (.cells #[.int .i64 k,.int .i64 l,.int .i64 t,.int .i64 c.clock,.int .i64 0,.int .i64 0,.int .i64 0,.int .i64 0,.map none,.int .i64 0,.int .i64 0,.int .i64 0,.int .i64 0,.int .i64 0,.int .i64 0,.int .i64 0,.int .i64 0,.slice none 0 0] 195)).heap[Wd.heap.size]?=some (.cells (rT (dT c k l t) (.map none) (.slice none 0 0)).toArray 195 (0,0)):=aA Wd _;have e2:(Wd.alloc (.cells #[.int .i64 k,.int .i64 l,.int .i64 t,.int .i64 c.clock,.int .i64 0,.int .i64 0,.int .i64 0,.int .i64 0,.map none,.int .i64 0,.int .i64 0,.int .i64 0,.int .i64 0,.int .i64 0,.int .i64 0,.int .i64 0,.int .i64 0,.slice none 0 0] 195)).heap.size=Wd.heap.size+1:=by simp
   generalize a5:Wd.alloc (.cells #[.int .i64 k,.int .i64 l,.int .i64 t,.int .i64 c.clock,.int .i64 0,.int .i64 0,.int .i64 0,.int .i64 0,.map none,.int .i64 0,.int .i64 0,.int .i64 0,.int .i64 0,.int .i64 0,.int .i64 0,.int .i64 0,.int .i64 0,.slice none 0 0] 195)=W1 at*;have d7:=cA a5;have d:=(j.kept z (fun _ _ h=>h)).grow (F':=fun q=>F q∨q=Wd.heap.size) (fun _ h=>Or.inl h) (fun q a=>by
    rcases a with a|rfl
    ·have:=j.lt q a;omega
    ·omega)
   have c9:=d.cell 16 _ rfl;have d1:=d.froz 16;have O:=fQ d.blk a4 (by decide);have a:=dA W1 b 16 (.pointer (some ⟨Wd.heap.size,0,none⟩));have P:OnAt (W1.setCell ⟨b,16,none⟩ (.pointer (some ⟨Wd.heap.size,0,none⟩))) (fun q=>F q∨q=Wd.heap.size) Wd.heap.size (.map none) (.slice none 0 0) (dT c k l t):=
    ⟨a.kept a4 (fun e=>O e.symm),Or.inr rfl,Or.inl ⟨rfl,rfl,rfl⟩,⟨rfl,Or.inl ⟨rfl,rfl⟩⟩,fun q a=>by cases a⟩
   have n:=d.cells a {c with doing:=some (dT c k l t)} (.pointer (some ⟨Wd.heap.size,0,none⟩)) rfl rfl rfl rfl (cO d.blk 16 _) ⟨Wd.heap.size,.map none,.slice none 0 0,rfl,P,by simp,by simp,by simp⟩;have C:∀q,(F q∨q=Wd.heap.size)→¬G q:=fun q a hg=>by
    rcases a with a|rfl
    ·exact b7 q a hg
    ·have:=B.lt _ hg;omega
   have Q:=(B.kept z (fun _ _ h=>h)).kept a (fun q hg e=>C b d.fb (e▸hg));have Z:=a.kept (z.kept b0 (fun h=>h)) (fun e=>b9.out.1 (by have:=j.fb;rw[e];exact this));have a7:Went W (W1.setCell ⟨b,16,none⟩ (.pointer (some ⟨Wd.heap.size,0,none⟩))) F (fun q=>F q∨q=Wd.heap.size) G G:=b3.trans ⟨((z.mono (T:=F) (fun _ _ h=>h.elim)).trans a (fun x _ e=>e▸j.fb)).mono (fun _ _ h=>Or.inl h),fun q a=>by
    rcases a with a|rfl
    ·exact Or.inl a
    ·exact Or.inr (aE _),fun _ h=>Or.inl h⟩
   generalize b1:W1.setCell ⟨b,16,none⟩ (.pointer (some ⟨Wd.heap.size,0,none⟩))=W2 at*;have e3:=cA b1;have d9:=n.cell 10 _ rfl;have e7:W2.cell? ⟨b,7,none⟩=some (.int .i64 c.num):=n.cell 7 _ rfl;have c8:=cA a7;have d6:=cA Z;have HR:Hid (Calls prog 77 #[.pointer (some ⟨g,0,none⟩),evV (gW c.num (dT c k l t))] W2.drew fun r W'=>r= .returned (.tuple #[])∧∃G',Sys W' (fun q=>F q∨q=Wd.heap.size) G' b g f av cv {c with doing:=some (dT c k l t)} (net++cH [gW c.num (dT c k l t)]) (tr++[gW c.num (dT c k l t)])∧Chg G W2.drew W'∧∀q,G' q→G q∨W2.drew.heap.size≤q):=
    jE W2.drew _ G b g f av cv _ net tr (gW c.num (dT c k l t)) (Sys.drew ⟨⟨ch,tk,d2,wt,_,n⟩,Q,C⟩) (by omega) (by omega)
   have d3:=cA (cE (W:=W2.drew) Z);clear a5 b1 d n Q P a z a4 e2 j B b0 b3 b7 C Z a7 c0 O e4 d4;go_wp2_with (first|rw[d7.out]|rw[e3.out]);refine dZ [0,0,0,1,0,0,0,1,1,0] (by kernel_rfl) (fun _ _ _ _=>rfl) ?_;simp only[cM,cL];iterate 8 (apply sB rfl rfl;·(intro x h;(try cases h rfl);go_simp;with_reducible rfl))
   try simp only[pA]
   refine cK (v:=opV k l t) rfl (fun x hx=>cF 68 _ rfl ⟨W.heap.size,0,none⟩ rfl [.int .i64 k,.int .i64 l,.int .i64 t] _ (by subst hx;exact d3.out) underlying68 rfl (by kernel_rfl)) ?_;iterate 1 (apply sB rfl rfl;·(intro x h;(try cases h rfl);go_simp;with_reducible rfl))
   refine cC ?_;try simp only[pA]
   go_wp2_with fail;refine HR.out.mono ?_;rintro r W3 ⟨rfl,G3,V,a0,b2⟩;have b4:=a0.of_drew.kept d6.out b9.out.2;have e0:=cA (cE b4);rw[fL _ (show(2:Int)≠1 by decide),aC]at V;have b6:=c8.out.trans ⟨a0.of_drew.mono (fun _ _ h=>Or.inr h),fun _ h=>Or.inl h,b2⟩;have Y:=cA V;have d8:=cA b6;obtain⟨⟨X,J,H,I,a3,A⟩,c5,c6⟩:=V;have d5:Hid (Calls prog 123 #[.pointer (some ⟨b,0,none⟩),opV k l t] W3 fun r W'=>r= .returned (.tuple #[])∧ClAt W' (fun q=>F q∨q=Wd.heap.size) b g f (dJ {c with doing:=some (dT c k l t)} k l t) X J H I a3∧Chg (S3 J H I) W3 W'):=
    aBq W3 _ b g f {c with doing:=some (dT c k l t)} X J H I a3 k l t A u.out.c1 (by have:=u.out.c2;show c.clock≤1000000000000;omega) ht1 (by omega)
   have b8:=cA A.inF;clear a0 b2 b4 b6 A c5 c6 d9 e7 c9 d1;go_wp2_with (first|(refine cJ rfl 68 _ rfl ⟨W.heap.size,0,none⟩ rfl [.int .i64 k,.int .i64 l,.int .i64 t] _ e0.out underlying68 rfl (by kernel_rfl) ?_)|(go_at_call 123;refine d5.out.mono ?_;rintro r W4 ⟨rfl,k1,k2⟩;refine cD ?_));have c3:Sys W4 (fun q=>F q∨q=Wd.heap.size) G3 b g f av cv (dJ {c with doing:=some (dT c k l t)} k l t) net (tr++[gW c.num (dT c k l t)]):=⟨⟨X,J,H,I,a3,k1⟩,Y.out.nt.kept k2 (fun q a hs=>Y.out.apart q (b8.out q hs) a),Y.out.apart⟩;have a6:=d8.out.trans (⟨k2.mono (fun q _ hs=>Or.inl (b8.out q hs)),fun _ h=>Or.inl h,fun _ h=>Or.inl h⟩:Went W3 W4 (fun q=>F q∨q=Wd.heap.size) (fun q=>F q∨q=Wd.heap.size) G3 G3);have U:=aAU {c with doing:=some (dT c k l t)} k l t;have a8:vQ (dJ {c with doing:=some (dT c k l t)} k l t):=by
    obtain⟨s1,s2,s3,s4,_⟩:=U;have q:=u.out;refine⟨?_,?_,?_,?_,?_,?_,?_,?_⟩
    ·rw[s1];exact q.n1
    ·rw[s1];exact q.n2
    ·rw[s2];exact q.i1
    ·rw[s2];exact q.i2
    ·rw[s3];exact q.c1
    ·rw[s3];exact q.c2
    ·rw[s4];exact q.r1
    ·rw[s4];exact q.r2
   have c7:=cA (oD W4 _ G3 b g f av cv (dJ {c with doing:=some (dT c k l t)} k l t) (dT c k l t) net (tr++[gW c.num (dT c k l t)]) c3 U.2.2.2.2.1 hf1 hf2 a8 ⟨u.out.c1,u.out.c2,ht1,ht2,by show(0:Int)≤0;omega,by show(0:Int)≤100000000000;omega,by show(0:Int)≤0;omega,by show(0:Int)≤100000000000;omega⟩ hn (by rw[aD,aK];omega));have d0:=cA a6;clear c3 a6 U a8 k1 k2;refine cA ?_;go_wp2_with (first|(go_at_call 124;refine c7.out.mono ?_;rintro r W5 ⟨rfl,k5⟩));go_ret;refine⟨rfl,After.trans d0.out ?_⟩;rw[aS]at k5;have e:cH (gW c.num (dT c k l t)::fH f (dJ {c with doing:=some (dT c k l t)} k l t) (dT c k l t))=cH (fH f (dJ {c with doing:=some (dT c k l t)} k l t) (dT c k l t)):=by
    simp[cH,pG,gW]
   rw[e];exact k5
section
open Go.RowKit Go.Extern.Stop Go.Stop Go.Extern
theorem aEd(t:Addr)(w:World):(ReflectliteValue.unpack (.iface 237 (.pointer (some t)))).run prog w
 = .ok (.agg #[.pointer (some ⟨2,237,none⟩),.pointer (some ⟨w.heap.size,0,none⟩),.int .u64 150]) (w.alloc (.cells #[.pointer (some t)] 237)):=by kernel_rfl
theorem aHt(a:Addr)(w:World):(ReflectliteValue.methodAny (ReflectliteValue.valueError "reflectlite.Value.Type" 0) (fun t _ _ _=>ReflectliteType.toType t) #[.agg #[.pointer (some ⟨2,237,none⟩),.pointer (some a),.int .u64 150]]).run prog w
 = .ok (.iface 295 (.agg #[.pointer (some ⟨2,237,none⟩)])) w:=by kernel_rfl
theorem aCg(h:Value)(w:World):(Go.method 457 295 (.agg #[h]) "Kind").run prog w= .ok (261,h) w:=by kernel_rfl
theorem aHE(w:World):((ReflectliteType.abiMethod fun t=>Functor.map (fun a:Nat=>Value.int IntKind.u8 (a:Int)) (Rtype.kind t)) #[.pointer (some ⟨2,237,none⟩)]).run prog w= .ok (.int .u8 22) w:=by kernel_rfl
theorem aHX(w:World):((ReflectliteType.abiMethod fun t=>Functor.map (fun a:Nat=>Value.int IntKind.u8 (a:Int)) (Rtype.kind t)) #[.pointer (some ⟨2,234,none⟩)]).run prog w= .ok (.int .u8 22) w:=by kernel_rfl
theorem rlm(z:Sem Value)(f:TypeId→Addr→Nat→Nat→Sem Value)(v:Value):
 ReflectliteValue.method z f #[v]=(ReflectliteValue.parts v>>=fun o=>match o with|none=>z|some (t,a,fl)=>f t a fl (fl % 32)):=rfl
theorem aDp(a:Addr)(w:World):(ReflectliteValue.parts (.agg #[.pointer (some ⟨2,237,none⟩),.pointer (some a),.int .u64 150])).run prog w= .ok (some (237,a,150)) w:=by kernel_rfl
theorem aGi(a p:Addr)(W:World)(ha:W.cell? a=some (.pointer (some p))):
 (ReflectliteValue.method (ReflectliteValue.valueError "reflectlite.Value.IsNil" 0) ReflectliteValue.isNil #[.agg #[.pointer (some ⟨2,237,none⟩),.pointer (some a),.int .u64 150]]).run prog W= .ok (.bool false) W:=by
 rw[rlm];simp only[aT,aDp,Result.andThen];simp[ReflectliteValue.isNil,loadVar,isAgg,underlying,underlying237,ha,Result.andThen]
section
variable (h:Value) (w:World)
theorem aCB:(Go.method 457 295 (.agg #[h]) "Elem").run prog w= .ok (272,.agg #[h]) w:=by kernel_rfl
theorem uS:(Go.method 457 295 (.agg #[h]) "Implements").run prog w= .ok (273,.agg #[h]) w:=by kernel_rfl
theorem rW:(Go.method 457 295 (.agg #[h]) "AssignableTo").run prog w= .ok (270,.agg #[h]) w:=by kernel_rfl
end
theorem aHG(w:World):(ReflectliteType.method ReflectliteType.elem #[.agg #[.pointer (some ⟨2,237,none⟩)]]).run prog w= .ok (.iface 295 (.agg #[.pointer (some ⟨2,234,none⟩)])) w:=by kernel_rfl
theorem aBr(w:World):(ReflectliteType.relation "Implements" ReflectliteType.implements_ #[.agg #[.pointer (some ⟨2,234,none⟩)],.iface 295 (.agg #[.pointer (some ⟨2,202,none⟩)])]).run prog w= .ok (.bool true) w:=by kernel_rfl
theorem aG5(v:Value)(w:World):(ReflectliteType.typeOf #[.iface 234 v]).run prog w= .ok (.iface 295 (.agg #[.pointer (some ⟨2,234,none⟩)])) w:=by kernel_rfl
theorem aB3(w:World):(ReflectliteType.relation "AssignableTo" ReflectliteType.assignableTo #[.agg #[.pointer (some ⟨2,234,none⟩)],.iface 295 (.agg #[.pointer (some ⟨2,234,none⟩)])]).run prog w= .ok (.bool true) w:=by kernel_rfl
theorem aE8(e:Addr)(w:World):(ReflectliteValue.unpack (.iface 234 (.pointer (some e)))).run prog w
 = .ok (.agg #[.pointer (some ⟨2,234,none⟩),.pointer (some ⟨w.heap.size,0,none⟩),.int .u64 150]) (w.alloc (.cells #[.pointer (some e)] 234)):=by kernel_rfl
theorem aEX(w:World):(Rtype.elem? 237).run prog w= .ok (some 234) w:=by kernel_rfl
theorem mkP(p:Addr)(w:World):(ReflectliteValue.mk 234 p ReflectliteValue.flagAddr).run prog w= .ok (.agg #[.pointer (some ⟨2,234,none⟩),.pointer (some p),.int .u64 406]) w:=by kernel_rfl
theorem aG6(a p:Addr)(W:World)(ha:W.cell? a=some (.pointer (some p))):
 (ReflectliteValue.method (ReflectliteValue.valueError "reflectlite.Value.Elem" 0) ReflectliteValue.elem #[.agg #[.pointer (some ⟨2,237,none⟩),.pointer (some a),.int .u64 150]]).run prog W
  = .ok (.agg #[.pointer (some ⟨2,234,none⟩),.pointer (some p),.int .u64 406]) W:=by
 rw[rlm];simp only[aT,aDp,Result.andThen];simp[ReflectliteValue.elem,loadVar,isAgg,underlying,underlying237,ha,Result.andThen,aEX,mkP]
theorem aGF(a:Addr)(w:World):(ReflectliteValue.parts (.agg #[.pointer (some ⟨2,234,none⟩),.pointer (some a),.int .u64 406])).run prog w= .ok (some (234,a,406)) w:=by kernel_rfl
theorem aHm(a:Addr)(w:World):(ReflectliteValue.parts (.agg #[.pointer (some ⟨2,234,none⟩),.pointer (some a),.int .u64 150])).run prog w= .ok (some (234,a,150)) w:=by kernel_rfl
theorem aG0(w:World):(Rtype.directlyAssignable 234 234).run prog w= .ok true w:=by kernel_rfl
theorem rls(v x:Value):ReflectliteValue.set #[v,x]=(do
 let (some (dst,a,fl),some (src,b,_)):=(←ReflectliteValue.parts v,←ReflectliteValue.parts x)
  |unsupported (.noEntry "extern/(internal/reflectlite.Value).Set.zeroValue")
 if fl / ReflectliteValue.flagAddr % 2==0 then unsupported (.noEntry "extern/(internal/reflectlite.Value).Set.unaddressable")
 let val←loadVar src b
 if←Rtype.directlyAssignable dst src then storeVar dst a val
 else if←Rtype.implements dst src then
  if(←Rtype.kind src)==20 then
   match val with
   |.nilIface=>unsupported (.noEntry "extern/reflectlite: a nil value of one interface type handed on as a value of another")
   |_=>storeVar dst a val
  else storeVar dst a (.iface src val)
 else panicString ("reflectlite.Set: value of type "++(←Rtype.spelt src)++ " is not assignable to type "++(←Rtype.spelt dst))
 pure (.tuple #[])):=rfl
theorem aH1(ta b e:Addr)(old:Value)(W:World)(hb:W.cell? b=some (.pointer (some e)))(ht:W.cell? ta=some old)(hf:W.frozen? ta=false):
 (ReflectliteValue.set #[.agg #[.pointer (some ⟨2,234,none⟩),.pointer (some ta),.int .u64 406],.agg #[.pointer (some ⟨2,234,none⟩),.pointer (some b),.int .u64 150]]).run prog W
  = .ok (.tuple #[]) (W.setCell ta (.pointer (some e))):=by
 rw[rls];simp only[aT,aGF,aHm,Result.andThen];simp[ReflectliteValue.flagAddr,loadVar,isAgg,underlying,underlying234,hb,Result.andThen,aG0,storeVar,Value.cells,storeCells,Addr.add];rw[run_store prog W ta _ _ (by rfl)];simp[ht,hf]
theorem aHB(e t:Addr)(old:Value)(w:World)(hg:w.cell? ⟨1,0,none⟩=some aFh)(hlt:1<w.heap.size)(ht0:w.cell? t=some old)(hf0:w.frozen? t=false):
 Calls prog 168 #[.iface 234 (.pointer (some e)),.iface 237 (.pointer (some t))] w fun ev w'=>ev= .returned (.bool true)∧w'=((((w.alloc (.cells #[.pointer (some t)] 237)).alloc (.cells #[.pointer (some ⟨2,237,none⟩),.pointer (some ⟨w.heap.size,0,none⟩),.int .u64 150] 264)).alloc (.cells #[.pointer (some ⟨2,237,none⟩),.pointer (some ⟨w.heap.size,0,none⟩),.int .u64 150] 264)).alloc (.cells #[.pointer (some e)] 234)).setCell t (.pointer (some e)):=by
 have E:= @run_callFunc_extern prog 192 _ (fun args=>ReflectliteValue.unpack (args.getD 0 (.tuple #[]))) func192 (by kernel_rfl) (by kernel_rfl) (by kernel_rfl) (by kernel_rfl);have x:= @run_callFunc_extern prog 193 _ (ReflectliteValue.methodAny (ReflectliteValue.valueError "reflectlite.Value.Type" 0) (fun t _ _ _=>ReflectliteType.toType t)) func193 (by kernel_rfl) (by kernel_rfl) (by kernel_rfl) (by kernel_rfl);have y:= @run_callFunc_extern prog 194 _ (ReflectliteValue.method (ReflectliteValue.valueError "reflectlite.Value.IsNil" 0) ReflectliteValue.isNil) func194 (by kernel_rfl) (by kernel_rfl) (by kernel_rfl) (by kernel_rfl);have i:= @run_callFunc_extern prog 261 _ (ReflectliteType.abiMethod fun t=>do pure (.int .u8 (←Rtype.kind t))) func261 (by kernel_rfl) (by kernel_rfl) (by kernel_rfl) (by kernel_rfl);have m:= @run_callFunc_extern prog 272 _ (ReflectliteType.method ReflectliteType.elem) func272 (by kernel_rfl) (by kernel_rfl) (by kernel_rfl) (by kernel_rfl);have p:= @run_callFunc_extern prog 273 _ (ReflectliteType.relation "Implements" ReflectliteType.implements_) func273 (by kernel_rfl) (by kernel_rfl) (by kernel_rfl) (by kernel_rfl);have f:= @run_callFunc_extern prog 190 _ ReflectliteType.typeOf func190 (by kernel_rfl) (by kernel_rfl) (by kernel_rfl) (by kernel_rfl);have b:= @run_callFunc_extern prog 270 _ (ReflectliteType.relation "AssignableTo" ReflectliteType.assignableTo) func270 (by kernel_rfl) (by kernel_rfl) (by kernel_rfl) (by kernel_rfl)
 have k:= @run_callFunc_extern prog 219 _ (ReflectliteValue.method (ReflectliteValue.valueError "reflectlite.Value.Elem" 0) ReflectliteValue.elem) func219 (by kernel_rfl) (by kernel_rfl) (by kernel_rfl) (by kernel_rfl);have g:= @run_callFunc_extern prog 220 _ ReflectliteValue.set func220 (by kernel_rfl) (by kernel_rfl) (by kernel_rfl) (by kernel_rfl);have F:=aG5;have D:=rW;have q:=aB3;have j:=aE8;have A:=aEd;have u:=aHt;have z:=aCg;have s:=aCB;have r:=uS;have o:=aHE;have c:=aHX;have n:=aHG;have d:=aBr;have B:=aGi ⟨w.heap.size,0,none⟩ t ((w.alloc (.cells #[.pointer (some t)] 237)).alloc (.cells #[.pointer (some ⟨2,237,none⟩),.pointer (some ⟨w.heap.size,0,none⟩),.int .u64 150] 264)) (by simp);have l:((w.alloc (.cells #[.pointer (some t)] 237)).alloc (.cells #[.pointer (some ⟨2,237,none⟩),.pointer (some ⟨w.heap.size,0,none⟩),.int .u64 150] 264)).cell? ⟨1,0,none⟩=some aFh:=by
  rw[bH _ _ ⟨1,0,none⟩ (by simp;omega),bH _ _ ⟨1,0,none⟩ hlt];exact hg
 have a:t.block<w.heap.size:=by
  rcases Nat.lt_or_ge t.block w.heap.size with h|h
  ·exact h
  ·simp[World.cell?,Array.getElem?_eq_none h]at ht0
 have v:=aG6 ⟨w.heap.size,0,none⟩ t (((w.alloc (.cells #[.pointer (some t)] 237)).alloc (.cells #[.pointer (some ⟨2,237,none⟩),.pointer (some ⟨w.heap.size,0,none⟩),.int .u64 150] 264)).alloc (.cells #[.pointer (some ⟨2,237,none⟩),.pointer (some ⟨w.heap.size,0,none⟩),.int .u64 150] 264)) (by rw[bH _ _ ⟨w.heap.size,0,none⟩ (by simp;omega)];simp);have C:=aH1 t ⟨w.heap.size+1+1+1,0,none⟩ e old ((((w.alloc (.cells #[.pointer (some t)] 237)).alloc (.cells #[.pointer (some ⟨2,237,none⟩),.pointer (some ⟨w.heap.size,0,none⟩),.int .u64 150] 264)).alloc (.cells #[.pointer (some ⟨2,237,none⟩),.pointer (some ⟨w.heap.size,0,none⟩),.int .u64 150] 264)).alloc (.cells #[.pointer (some e)] 234))
  (by rw[World.cell?_alloc_at _ _ _ _ (by simp)];rfl)
  (by rw[bH _ _ t (by simp;omega),bH _ _ t (by simp;omega),bH _ _ t (by simp;omega),bH _ _ t a];exact ht0)
  (by rw[World.frozen?_alloc_old _ _ t (by simp;omega),World.frozen?_alloc_old _ _ t (by simp;omega),World.frozen?_alloc_old _ _ t (by simp;omega),World.frozen?_alloc_old _ _ t (Nat.ne_of_lt a)];exact hf0)
 go_enter func168,ntmps168;go_wp2;refine wp_loop_rounds 1 ?_;rw[rounds_succ];go_wp2;go_ret;exact⟨rfl,rfl⟩
theorem aFn(fb t:Nat)(w:World)(hg:w.cell? ⟨1,0,none⟩=some aFh)(h1lt:1<w.heap.size)(ht:w.heap[t]?=some (.cells #[.pointer none] 234 (0,0))):
 Calls prog 168 #[.iface 234 (.pointer (some ⟨fb,0,none⟩)),.iface 237 (.pointer (some ⟨t,0,none⟩))] w fun ev w'=>ev= .returned (.bool true)∧Chg (fun x=>x=t) w w'∧w'.heap[t]?=some (.cells #[.pointer (some ⟨fb,0,none⟩)] 234 (0,0)):=by
 refine(aHB ⟨fb,0,none⟩ ⟨t,0,none⟩ (.pointer none) w hg h1lt (cB ht 0 _ rfl) (cY ht 0)).mono ?_;rintro e w' ⟨rfl,rfl⟩;have a:=cX ht;refine⟨rfl,((((((Chg.refl _ _).alloc _).alloc _).alloc _).alloc _).setCell _ _ (fun _=>rfl)),cO (cR _ (cR _ (cR _ (cR _ ht)))) 0 _⟩
end
section
open Go.RowKit Go.Maps
theorem vN(a b:ByteArray):Lib.strCells (a++b)=Lib.strCells a++Lib.strCells b:=by
 simp[Lib.strCells,ByteArray.data_append]
theorem aEZ{w:World}{base:Nat}{e:TypeId}{size:Nat}{v:Value}{n:Nat}{xs:List Value}(h:w.ownsRow base e size v n xs):∃p cap,v= .slice p n cap∧(0<n→∃g cur,p=some ⟨g,0,none⟩∧base≤g∧w.heap[g]?=some (.cells cur e (0,0))):=by
 rcases lH h with⟨rfl,rfl⟩|⟨g,cap,cur,rfl,b,a⟩
 ·exact⟨none,0,rfl,fun h=>absurd h (by omega)⟩
 ·exact⟨some ⟨g,0,none⟩,cap,rfl,fun _=>⟨g,cur,rfl,b,a⟩⟩
theorem aFR{W:World}{base g n cap:Nat}{rs:List Rw}(h:W.ownsRow base 58 7 (.slice (some ⟨g,0,none⟩) n cap) n (cellsOf rs))(hn:n=rs.length)(i:Nat)(hi:i<rs.length):∀j y,(rwL rs[i])[j]?=some y→W.cell? ((⟨g,i*7,none⟩:Addr).add j)=some y:=by
 intro j y b;have e:(⟨g,i*7,none⟩:Addr).add j=⟨g,i*7+j,none⟩:=by unfold Addr.add;split<;>simp_all
 have a:j<7:=(aF.1 b).1;rw[e,h.cellAt (i*7+j) (by omega),vE rs i hi j a];exact b
theorem zU(rs:List Rw):(gS rs 4).length≤4:=by
 rw[rR];exact mG rs
theorem uF(r:Rw):(dM r).length≤25:=by
 unfold dM;split
 ·rw[nQ];omega
 ·simp
theorem uQ:∀rs:List Rw,(rs.flatMap dM).length≤25*rs.length
 |[]=>by simp
 |r::rs=>by
  have:=uQ rs;have:=uF r;simp only[List.flatMap_cons,aD,bF];omega
theorem uV(W:World)(F:Nat→Prop)(b g:Nat)(a:Ac)(h:Acc W F b g a)(hok:uM a):
 Calls prog 199 #[.pointer (some ⟨b,0,none⟩)] W fun e W'=>e= .returned (.string (strOfNums (gP a.rows)))∧Chg NoS W W':=by
 obtain⟨FD,d,tb,h,d5,O⟩:=h;have I:Chg NoS W (W.alloc (.cells #[.pointer none,.slice none 0 0] 312)):=(Chg.refl _ _).alloc _;have R:(W.alloc (.cells #[.pointer none,.slice none 0 0] 312)).heap[W.heap.size]?=some (.cells #[.pointer none,.slice none 0 0] 312 (0,0)):=aA W _;have Q:(W.alloc (.cells #[.pointer none,.slice none 0 0] 312)).heap.size=W.heap.size+1:=by simp
 generalize a3:W.alloc (.cells #[.pointer none,.slice none 0 0] 312)=W0 at*;have c7:=cA a3;have h0:=h.kept I (fun _ _ h=>h);have c3:=h0.cell 3 _ rfl;have L:=cA (zI tb 4 a.rows W0 h0.table hok.lk);have b6:=cA I;have c6:=cA R;have b4:=cA Q;have a2:=zU a.rows;obtain⟨T,hT⟩:=aIe (gS a.rows 4);have eT:gP a.rows=T.flatMap dM:=by rw[hT];rfl
 rw[eT];rw[←hT]at a2;have HT:=cA hT;clear eT hT a3 h0 h d5 O hok I R Q;go_enter func199,ntmps199;go_wp2_with (first|rw[c7.out]|(go_at_call 62;refine L.out.mono ?_;rintro e W1 ⟨v,rfl,f,c⟩;obtain⟨pv,d4,rfl,B⟩:=aEZ f;refine cD ?_));rw[←HT.out]at f B⊢;obtain⟨n,hn⟩:=aIe (T.length);rw[←hn]at f B⊢a2;have z:=cA hn;have a6:=(Chg.below' c).kept c6.out (fun h=>h);have a7:=b6.out.trans (S:=NoS) (Chg.below' c) (fun _ _ h=>h);have G:BldAt W.heap.size W1 W.heap.size (.slice none 0 0) (Lib.strCells (strOfNums ((T.take 0).flatMap dM))):=⟨⟨_,Or.inl rfl,a6⟩,⟨rfl,Or.inl ⟨rfl,rfl⟩⟩,(by intro h;cases h),aE _⟩;have a9:=cA f;have a8:=cA G;have b9:=cA a7;have c9:=cA B;have E:W.heap.size+1≤W1.heap.size:=by have:=(Chg.below' c).size;have:=b4.out;omega
 have d6:=cA E;clear hn f B a6 a7 G c c3 E;refine cA ?_;go_wp2_with fail;go_loopw [12] (fun i wr=>∃(k:Nat) (bv:Value),k≤n∧i= .int .i64 k∧BldAt W.heap.size wr W.heap.size bv (Lib.strCells (strOfNums ((T.take k).flatMap dM)))∧wr.ownsRow W0.heap.size 58 7 (.slice pv n d4) n (cellsOf T)∧Chg NoS W wr) (fun i _=>n-(intOf i).toNat)
 case atStart=>exact⟨0,_,aI _,rfl,a8.out,a9.out,b9.out⟩
 case round=>
  obtain⟨k,bv,hk,rfl,Y,f,a1⟩:=hrel;have m:=cA Y;have a0:=cA f;have A:=cA a1;clear Y f a1;by_cases O:k<n
  ·have b8:(k:Int)<(n:Int):=by omega
   obtain⟨g',d7,rfl,d8,_⟩:=c9.out (by omega);have Z:k<T.length:=by have:=z.out;omega
   obtain⟨r,hr⟩:=aIe (T[k]);have HR:Hid (T.take (k+1)=T.take k++[r]):=by
    show _=_;rw[hr,List.take_succ_eq_append_getElem Z]
   have K:Hid (∀j y,(rwL r)[j]?=some y→wr.cell? ((⟨g',k*7,none⟩:Addr).add j)=some y):=by
    rw[hr];exact aFR a0.out z.out k Z
   clear hr;go_wp2_with (first|(refine cJ rfl 58 _ rfl ⟨g',k*7,none⟩ rfl (rwL r) _ K.out underlying58 rfl (by kernel_rfl) ?_;refine cD ?_));have V:=aA wr (.cells #[.int .i64 0,.int .i64 0,.int .i64 0,.int .i64 0,.int .i64 0,.int .i64 0,.int .i64 0] 58);have U:Chg NoS wr (wr.alloc (.cells #[.int .i64 0,.int .i64 0,.int .i64 0,.int .i64 0,.int .i64 0,.int .i64 0,.int .i64 0] 58)):=(Chg.refl _ _).alloc _;generalize P:wr.alloc (.cells #[.int .i64 0,.int .i64 0,.int .i64 0,.int .i64 0,.int .i64 0,.int .i64 0,.int .i64 0] 58)=W2 at*;have d2:=cA P;have c2:=cA U;clear P U;refine cA ?_;go_wp2_with (first|rw[d2.out]|(refine cG rfl 58 _ _ rfl wr.heap.size 0 58 _ _ (rwL r) rfl rfl V (by kernel_rfl) (by simp[Value.oneCell']) (by simp) rfl ?_;intro W3 X b2 a4;refine cD ?_));have H:=c2.out.trans (S:=NoS) X (fun x hx e=>by omega);have c5:=cA (cE a4);have c0:=cA H;have b5:Hid (Calls prog 100 #[rwV r] W3 fun e w'=>e= .returned (.string (strOfNums (dM r)))∧Below W3.heap.size W3 w'):=aCj r W3;clear X b2 a4 V H;refine cA ?_;go_wp2_with (first|(refine cJ rfl 58 _ rfl ⟨wr.heap.size,0,none⟩ rfl (rwL r) _ c5.out underlying58 rfl (by kernel_rfl) ?_)|(go_at_call 100;refine b5.out.mono ?_;rintro e W4 ⟨rfl,c⟩;refine cD ?_));have o:=c0.out.trans (S:=NoS) (Chg.below' c) (fun _ _ h=>h);have s:BldAt W.heap.size W4 W.heap.size bv (Lib.strCells (strOfNums ((T.take k).flatMap dM))):=by
    obtain⟨p,hp,hb⟩:=m.out.blk;exact⟨⟨p,hp,o.kept hb (fun h=>h)⟩,o.row m.out.own (fun _ _ h=>h),m.out.ne,m.out.hB⟩
   have c1:=uQ (T.take k);have d1:(T.take k).length≤4:=by rw[aZ];have:=z.out;omega
   have c4:=uF r;have b3:=cA (vJ W.heap.size W.heap.size bv (Lib.strCells (strOfNums ((T.take k).flatMap dM))) (strOfNums (dM r)) W4 s (by rw[Lib.strCells_length,fM,fM];omega) (by have:=A.out.size;have:=o.size;omega));have N:=cA o;have t:=cA s;clear o s c1 d1 c4 c;refine cA ?_;go_wp2_with (first|(go_at_call 222;refine b3.out.mono ?_;rintro e W5 ⟨rfl,M,D,J⟩;refine cD ?_));have u:BldAt W.heap.size W5 W.heap.size M (Lib.strCells (strOfNums ((T.take (k+1)).flatMap dM))):=by
    rw[HR.out,List.flatMap_append,←lG,vN];simpa using D
   have l:=N.out.row a0.out (fun _ _ h=>h);have w:=J.row l (fun q hq h=>by
    rcases h with h|h
    ·obtain⟨p,_,hb⟩:=t.out.blk;exact gA l hb (by decide) q hq h
    ·exact oS l t.out.own (by decide) q hq h)
   have C:Chg NoS W W5:=by
    refine(A.out.trans (S:=NoS) N.out (fun _ _ h=>h)).trans J (fun x hx h=>?_);rcases h with h|h
    ·omega
    ·have:=(t.out.own.lt x h).1;omega
   have d3:=cA u;have b7:=cA w;have d0:=cA C;clear D J u l w C;refine cA ?_;go_wp2_with fail;go_roundw
   case rel=>exact⟨k+1,M,by omega,by go_num,d3.out,b7.out,d0.out⟩
   case measure=>simp[intOf];omega
  ·have b8:¬(k:Int)<(n:Int):=by omega
   have b1:k=n:=by omega
   subst b1;have a5:T.take k=T:=aY (by have:=z.out;omega);have b0:=cA (Builder_String_any W.heap.size W.heap.size (strOfNums (T.flatMap dM)).data.toList wr (by have:=m.out.is;rw[a5]at this;exact this) A.out.size);clear a5;go_wp2_with (first|(go_at_call 223;refine b0.out.mono ?_;rintro e W5 ⟨rfl,c⟩;refine cD ?_));have c8:=cA (A.out.trans (S:=NoS) (⟨c.os,c.tape,c.output,c.size,fun x hx hn=>c.block x (by omega)⟩:Chg (fun x=>W.heap.size≤x) wr W5) (fun x hx h=>by omega));clear c;refine cA ?_;go_wp2_with fail;go_ret;exact⟨rfl,c8.out⟩
end
section
open Go.RowKit Go.Maps
def Nx(W:World)(F:Nat→Prop)(b g d tb:Nat)(a:Ac)(W':World):Prop:=∃FD':Nat→Prop,∃F':Nat→Prop,AcAt W' FD' b g d tb a∧(∀x,InF FD' b tb x→F' x)∧(∀x,F' x→x<W'.heap.size)∧Chg F W W'∧∀x,F' x→F x∨W.heap.size≤x
theorem Nx.to{W W':World}{F:Nat→Prop}{b g d tb:Nat}{a:Ac}(h:Nx W F b g d tb a W'):AcTo W F b g a W':=by
 obtain⟨c,e,j,f,l,i,k⟩:=h;exact⟨e,⟨c,d,tb,j,f,l⟩,i,k⟩
theorem Nx.of{W:World}{FD F:Nat→Prop}{b g d tb:Nat}{a:Ac}(h:AcAt W FD b g d tb a)(hin:∀x,InF FD b tb x→F x)(hlt:∀x,F x→x<W.heap.size):Nx W F b g d tb a W:=⟨FD,F,h,hin,hlt,Chg.refl _ _,fun _ h=>Or.inl h⟩
theorem Nx.trans{A B C:World}{F F1:Nat→Prop}{b g d tb:Nat}{a:Ac}(hc:Chg F A B)(hf:∀x,F1 x→F x∨A.heap.size≤x)(h:Nx B F1 b g d tb a C):Nx A F b g d tb a C:=by
 obtain⟨c,e,j,f,l,i,k⟩:=h;refine⟨c,e,j,f,l,hc.trans i (fun x hx h'=>?_),fun x hx=>?_⟩
 ·rcases hf x h' with h|h
  ·exact h
  ·omega
 ·rcases k x hx with h|h
  ·exact hf x h
  ·right;have:=hc.size;omega
theorem Nx.nos{A B C:World}{F:Nat→Prop}{b g d tb:Nat}{a:Ac}(h:Nx A F b g d tb a B)(hc:Chg NoS B C):Nx A F b g d tb a C:=by
 obtain⟨c,e,j,f,l,i,k⟩:=h;exact⟨c,e,j.kept hc (fun _ _ h=>h),f,fun x hx=>aG (l x hx) hc.size,i.nos' hc,k⟩
theorem yG{f:FuncId}{args:Array Value}{v ev:Value}{W0 W:World}{FD F F0:Nat→Prop}{b g d tb:Nat}{a:Ac}{p:Dk×How}(h:AcAt W FD b g d tb a)(hin:∀x,InF FD b tb x→F x)(hlt:∀x,F x→x<W.heap.size)(hc0:Chg F0 W0 W)(hf0:∀x,F x→F0 x∨W0.heap.size≤x)
 (hc:Calls prog f args W fun e W'=>EndsK v ev W FD d p e W'):match p.2 with
 |.none=>Calls prog f args W fun e W'=>e= .returned v∧Nx W0 F0 b g d tb {a with dk:=p.1} W'
 |(.some (.some q))=>Calls prog f args W fun e W'=>e= .panicked (oM q)∧Nx W0 F0 b g d tb {a with dk:=p.1} W'
 |(.some .none)=>Calls prog f args W fun e W'=>∃fb,e= .returned (kI fb)∧kH W' fb ev∧W0.heap.size≤fb∧Nx W0 F0 b g d tb {a with dk:=p.1} W':=by
 have hn:∀W',DkTo W FD d p.1 W'→Nx W0 F0 b g d tb {a with dk:=p.1} W':=fun W' ht=>by
  obtain⟨FD',F',h1,h2,h3,h4,h5,h6⟩:=h.to hin hlt ht;exact Nx.trans hc0 hf0 ⟨FD',F',h1,h2,h3,h4,h6⟩
 have hk:=aCU hc;obtain⟨k,h1⟩:=p;cases h1 using lB with
 |fine=>exact hk.mono fun e W' ⟨h1,h2⟩=>⟨h1,hn _ h2⟩
 |dies q=>exact hk.mono fun e W' ⟨h1,h2⟩=>⟨h1,hn _ h2⟩
 |full=>exact hk.mono fun e W' ⟨b,h2,h3,h4,h5⟩=>⟨b,h2,h3,bP hc0.size h4,hn _ h5⟩
theorem nR{k k1:Dk}{go:Dk→Dk}(h:dD k go=(k1,.none)):∃k0,fS k=some k0∧k1=go k0:=by
 unfold dD at h;cases hs:fS k with
 |none=>rw[hs]at h;cases h
 |some k0=>rw[hs]at h;exact⟨k0,rfl,(Prod.mk.inj h).1.symm⟩
theorem rF{k k1:Dk}{s:List Int}{put:Dk→List Int→Dk}(h:dL k s put=(k1,.none)):∃k0,fS k=some k0∧k1=put k0 s:=by
 unfold dL at h;cases hs:fS k with
 |none=>rw[hs]at h;cases h
 |some k0=>
  rw[hs]at h;dsimp only at h;split at h
  ·cases h
  ·exact⟨k0,rfl,(Prod.mk.inj h).1.symm⟩
theorem nS{k:Dk}{go:Dk→Dk}:(dD k go).2≠(.some .none):=by
 unfold dD;cases fS k<;>simp
theorem zJ{k:Dk}(h:gZ k):gZ (gD k):=by
 unfold gD;split
 ·exact h
 ·exact h
theorem mS(W:World)(F:Nat→Prop)(B:Nat)(eb:Addr)(b g:Nat)(a:Ac)(h:Acc W F b g a)(hgl:GlAt W B eb)(hFB:∀x,F x→B≤x)(hok:uM a)(hnew:a.dk.new=none)(hold:a.dk.old=none):
 Calls prog 174 #[.pointer (some ⟨b,0,none⟩)] W fun e W'=>pF .nilIface (mF eb) W F b g (cP a) e W':=by
 obtain⟨FD,d,tb,h,d7,b3⟩:=h;obtain⟨s,hs⟩:=aIe (gP a.rows);have e7:=cA hs;have b5:(s.length:Int)≤100:=by
  have N:=uQ (gS a.rows 4);have J:=zU a.rows;rw[hs];unfold gP;omega
 have b4:∀k hw,fY a.dk s=(k,hw)→cP a=({a with dk:=k},hw):=fun k hw e=>by unfold cP;rw[←hs,e]
 have z:=cA b4;have e5:=cA b5;have c2:=h.cell 2 _ rfl;have b2:=cA (yG h d7 b3 (Chg.refl F W) (fun _ h=>Or.inl h) (aCD W FD d a.dk (mF eb) h.disk hok.fo hnew hold));have M:=cA (aH6 hgl hFB hok hnew hold);clear b4 hs b5 h d7 b3 hgl hFB hok hnew hold;go_enter func174,ntmps174;obtain⟨m,n⟩:=aIf ((dD a.dk jN).1);have N:=b2.out;rw[n]at N;have d1:=cA n;clear n b2;cases hp:(dD a.dk jN).2 using lB with
 |full=>exact absurd hp nS
 |dies q=>
  have e:dD a.dk jN=(m,(.some (.some q))):=by rw[←d1.out,←hp]
  have j:Hid (cP a=({a with dk:=m},(.some (.some q)))):=z.out _ _ (by unfold fY;rw[e];rfl);rw[hp]at N;have H1:=cA N;clear N hp e;go_wp2_with (first|(go_at_call 198;refine H1.out.mono ?_;rintro e W1 ⟨rfl,c⟩;refine cD ?_));have y:=cA c;clear c;refine cA ?_;go_wp2_with fail;refine⟨rfl,?_⟩;rw[j.out];exact⟨y.out.to,rfl⟩
 |fine=>
  have e1:dD a.dk jN=(m,.none):=by rw[←d1.out,←hp]
  rw[hp]at N;have H1:=cA N;have l:=cA e1;clear N hp e1;go_wp2_with (first|(go_at_call 198;refine H1.out.mono ?_;rintro e W1 ⟨rfl,S,F1,a1,i1,l1,q1,f1⟩;refine cD ?_));obtain⟨k0,f,n⟩:=nR l.out;have i:=gO f;have a9:gZ m:=by have G:=jR f M.out.2.2.1.fo;rw[n];exact G
  have c1:m.old=none:=by have G:=i.2.2.2.2.trans M.out.2.2.2.2;rw[n];exact G
  have b1:m.new=some ([],0):=by rw[n];rfl
  have V:m.log=a.dk.log:=by rw[n];exact i.2.1
  have L:uM {a with dk:=m}:={M.out.2.2.1 with fo:=a9,l1:=by show((m.log.length:Nat):Int)≤_;rw[V];exact M.out.2.2.1.l1};have c7:=cA (fun x (hx:x=W1.drew)=>hx▸uV W1.drew F1 b g {a with dk:=m} ⟨S,d,tb,a1.kept (Chg.refl NoS W1).drew (fun _ _ h=>h),i1,l1⟩ L);have d2:=a1.cell 2 _ rfl;have o:=cA (aH6 a1 i1 l1 q1 f1);have p:=cA (aH6 a9 c1 b1 V L);clear a1 i1 l1 q1 f1 a9 c1 b1 V L i f n c2;refine cA ?_;go_wp2_with fail;refine rlx [0,0,0,1,0,2] (fun x=>x.cell? ⟨b,2,none⟩=some (.pointer (some ⟨d,0,none⟩))) (by kernel_rfl) (fun _ _ _ _=>rfl) ?_ ?_
  ·exact d2
  simp only[cM,cL];iterate 5 (apply sB rfl rfl;·(intro x h;(try have h:=h rfl);(try dsimp only at h);go_simp;with_reducible rfl))
  try simp only[pA]
  refine dC rfl (fun C hC=>?_);go_simp;refine(c7.out _ rfl).mono ?_;rintro e W2 ⟨rfl,b7⟩;have u:=b7.of_drew;have a2:=o.out.1.kept u (fun _ _ h=>h);refine hC _ _ (a2.cell 2 _ rfl) ?_;clear hC C;refine cC ?_;have es:gP ({a with dk:=m}:Ac).rows=s:=e7.out.symm;rw[es];have E:=M.out.1.kept ((o.out.2.2.2.1.nos' u:Chg F W W2)) (fun x hx=>M.out.2.1 x hx);have O:¬S 0:=fun hx=>by
   rcases o.out.2.2.2.2 0 (o.out.2.1 0 (Or.inl hx))with h|h
   ·have:=M.out.2.1 0 h;have:=E.b0;omega
   ·have:=M.out.1.hB;have:=E.b0;omega
  have e6:gU m=0:=by unfold gU;rw[p.out.2.2.1];rfl
  have b9:=cA (yG a2 o.out.2.1 (fun x hx=>aG (o.out.2.2.1 x hx) u.size) (o.out.2.2.2.1.nos' u:Chg F W W2) o.out.2.2.2.2
   (zQ W2 S d m _ _ s [] 0 a2.disk p.out.1 E.err O p.out.2.2.1 p.out.2.1 (by have:=e5.out;omega) (by rw[p.out.2.2.2.1];have:=M.out.2.2.1.l1;omega) (by omega)))
  clear b7 u a2 E O e6 es d2 c7;obtain⟨w,r⟩:=aIf ((dL m s hZ).1);have J:=b9.out;rw[r]at J;have a7:=cA r;clear r b9;cases hp:(dL m s hZ).2 using lB with
  |dies q=>
   have e:dL m s hZ=(w,(.some (.some q))):=by rw[←a7.out,←hp]
   have j:Hid (cP a=({a with dk:=w},(.some (.some q)))):=z.out _ _ (by unfold fY;rw[l.out];unfold gM;dsimp only;rw[e]);rw[hp]at J;have H2:=cA J;clear J hp e;go_wp2_with (first|(go_at_call 196;refine H2.out.mono ?_;rintro e W3 ⟨rfl,c⟩;refine cD ?_));have y:=cA c;clear c;refine cA ?_;go_wp2_with fail;refine⟨rfl,?_⟩;rw[j.out];exact⟨y.out.to,rfl⟩
  |full=>
   have e:dL m s hZ=(w,(.some .none)):=by rw[←a7.out,←hp]
   have j:Hid (cP a=({a with dk:=w},(.some .none))):=z.out _ _ (by unfold fY;rw[l.out];unfold gM;dsimp only;rw[e]);rw[hp]at J;have H2:=cA J;clear J hp e;go_wp2_with (first|(go_at_call 196;refine H2.out.mono ?_;rintro e W3 ⟨fb,rfl,d4,b8,c⟩;refine cD ?_));have y:=cA (aH4 c d4 b8);clear c d4 b8;refine cA ?_;go_wp2_with fail;go_ret;rw[j.out];exact⟨y.out.1.to,fb,rfl,y.out.2.1,y.out.2.2⟩
  |fine=>
   have e2:dL m s hZ=(w,.none):=by rw[←a7.out,←hp]
   rw[hp]at J;have H2:=cA J;have v:=cA e2;clear J hp e2;go_wp2_with (first|(go_at_call 196;refine H2.out.mono ?_;rintro e W3 ⟨rfl,d9,F3,a3,i3,l3,q3,f3⟩;refine cD ?_));obtain⟨k0,f,r⟩:=rF v.out;have i:=gO f;have Y:gZ w:=by have G:=jR f p.out.1;rw[r];exact G
   have Z:w.old=none:=by have G:=i.2.2.2.2.trans p.out.2.1;rw[r];exact G
   have a8:w.new=some (s,0):=by rw[r];unfold hZ;rw[i.2.2.2.1,p.out.2.2.1];rfl
   have c3:=a3.cell 2 _ rfl;have d0:=cA (yG a3 i3 l3 q3 f3 (aA2 W3 d9 d w (mF eb) s 0 a3.disk Y a8 Z));have U:=cA (aH4 Y Z a8);clear a3 i3 l3 q3 f3 Y Z a8 i f r;obtain⟨H,t⟩:=aIf ((dD w gV).1);have P:=d0.out;rw[t]at P;have c0:=cA t;clear t d0;refine cA ?_;cases hp:(dD w gV).2 using lB with
   |full=>exact absurd hp nS
   |dies q=>
    have e:dD w gV=(H,(.some (.some q))):=by rw[←c0.out,←hp]
    have j:Hid (cP a=({a with dk:=H},(.some (.some q)))):=z.out _ _ (by unfold fY;rw[l.out];unfold gM;dsimp only;rw[v.out];dsimp only;rw[e]);rw[hp]at P;have H3:=cA P;clear P hp e;go_wp2_with (first|(go_at_call 197;refine H3.out.mono ?_;rintro e W4 ⟨rfl,c⟩;refine cD ?_));have y:=cA c;clear c;refine cA ?_;go_wp2_with fail;refine⟨rfl,?_⟩;rw[j.out];exact⟨y.out.to,rfl⟩
   |fine=>
    have e3:dD w gV=(H,.none):=by rw[←c0.out,←hp]
    rw[hp]at P;have H3:=cA P;have D:=cA e3;clear P hp e3;go_wp2_with (first|(go_at_call 197;refine H3.out.mono ?_;rintro e W4 ⟨rfl,e0,F4,a4,i4,l4,q4,f4⟩;refine cD ?_));obtain⟨k0,f,t⟩:=nR D.out;have i:=gO f;have T:gZ H:=by have G:=jR f U.out.1;rw[t];exact G
    have a6:H.old=none:=by have G:=i.2.2.2.2.trans U.out.2.1;rw[t];exact G
    have X:H.new=some (s,(s.length:Int)):=by rw[t];unfold gV;rw[i.2.2.2.1,U.out.2.2]
    have c4:=a4.cell 2 _ rfl;have d5:=cA (yG a4 i4 l4 q4 f4 (aCI W4 e0 d H (mF eb) s s.length a4.disk T X a6));have d6:=cA (aH4 T a6 X);clear a4 i4 l4 q4 f4 T a6 X i f t c3;obtain⟨I,A⟩:=aIf ((dD H gD).1);have R:=d5.out;rw[A]at R;have c8:=cA A;clear A d5;refine cA ?_;cases hp:(dD H gD).2 using lB with
    |full=>exact absurd hp nS
    |dies q=>
     have e:dD H gD=(I,(.some (.some q))):=by rw[←c8.out,←hp]
     have j:Hid (cP a=({a with dk:=I},(.some (.some q)))):=z.out _ _ (by unfold fY;rw[l.out];unfold gM;dsimp only;rw[v.out];dsimp only;rw[D.out];dsimp only;rw[e]);rw[hp]at R;have H4:=cA R;clear R hp e;go_wp2_with (first|(go_at_call 200;refine H4.out.mono ?_;rintro e W5 ⟨rfl,c⟩;refine cD ?_));have y:=cA c;clear c;refine cA ?_;go_wp2_with fail;refine⟨rfl,?_⟩;rw[j.out];exact⟨y.out.to,rfl⟩
    |fine=>
     have e4:dD H gD=(I,.none):=by rw[←c8.out,←hp]
     rw[hp]at R;have H4:=cA R;have K:=cA e4;clear R hp e4;go_wp2_with (first|(go_at_call 200;refine H4.out.mono ?_;rintro e W5 ⟨rfl,d8,F5,a5,i5,l5,q5,f5⟩;refine cD ?_));obtain⟨k0,f,A⟩:=nR K.out;have i:=gO f;have b6:gZ I:=by have G:=jR f d6.out.1;rw[A];exact zJ G
     have d3:I.new=none:=by rw[A];unfold gD;rw[i.2.2.2.1,d6.out.2.2]
     have c5:=a5.cell 2 _ rfl;have c9:=cA (yG a5 i5 l5 q5 f5 (zF W5 d8 d I (mF eb) a5.disk b6 d3));clear a5 i5 l5 q5 f5 b6 d3 i f A c4;obtain⟨k5,a0⟩:=aIf ((dD I nH).1);have Q:=c9.out;rw[a0]at Q;have c6:=cA a0;clear a0 c9;refine cA ?_;cases hp:(dD I nH).2 using lB with
     |full=>exact absurd hp nS
     |dies q=>
      have e:dD I nH=(k5,(.some (.some q))):=by rw[←c6.out,←hp]
      have j:Hid (cP a=({a with dk:=k5},(.some (.some q)))):=z.out _ _ (by unfold fY;rw[l.out];unfold gM;dsimp only;rw[v.out];dsimp only;rw[D.out];dsimp only;rw[K.out];dsimp only;rw[e]);rw[hp]at Q;have H5:=cA Q;clear Q hp e;go_wp2_with (first|(go_at_call 163;refine H5.out.mono ?_;rintro e W6 ⟨rfl,c⟩;refine cD ?_));have y:=cA c;clear c;refine cA ?_;go_wp2_with fail;refine⟨rfl,?_⟩;rw[j.out];exact⟨y.out.to,rfl⟩
     |fine=>
      have e:dD I nH=(k5,.none):=by rw[←c6.out,←hp]
      have j:Hid (cP a=({a with dk:=k5},.none)):=z.out _ _ (by unfold fY;rw[l.out];unfold gM;dsimp only;rw[v.out];dsimp only;rw[D.out];dsimp only;rw[K.out];dsimp only;rw[e]);rw[hp]at Q;have H5:=cA Q;clear Q hp e;go_wp2_with (first|(go_at_call 163;refine H5.out.mono ?_;rintro e W6 ⟨rfl,c⟩;refine cD ?_));have y:=cA c;clear c;refine cA ?_;go_wp2_with fail;go_ret;rw[j.out];exact⟨y.out.to,rfl⟩
end
end Go.Proofs.YtbbdgokdfhdpiaaGreatDoor
