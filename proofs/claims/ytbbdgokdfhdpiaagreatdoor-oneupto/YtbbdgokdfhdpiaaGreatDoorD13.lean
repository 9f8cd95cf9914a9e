/- A part of the proof: PTake, PErr2, PAc5, PAc7, PTk1. -/
import Derived.Defers
import Derived.LaidEql
import Derived.Recover
import Derived.RowKitTokens
import Derived.Stop.Asserts
import Derived.Test.YtbbdgokdfhdpiaaGreatDoorD12
namespace Go.Proofs.YtbbdgokdfhdpiaaGreatDoor
set_option linter.all false
set_option maxRecDepth 100000
set_option maxHeartbeats 40000000
open Go.Proofs.Tryz Go.RowKit
theorem aH8(a b:Int):(if a<b then b else a)=max a b:=by
 split<;>omega
theorem aFs(W:World)(F G:Nat→Prop)(b g:Nat)(f:Cf)(av cv:Value)(c:Ct)(net:List Mg)(tr:List Ev)(m:Mg)(h:Sys W F G b g f av cv c net tr)(hf1:1≤f.f)(hf2:f.f≤2)(hdr1:0≤f.drift)(hdr2:f.drift≤10)(hc:xL c)(hvm:aAL m.val)(hmb1:0≤m.base)(hmb2:m.base≤256255)(hmk:m.kind≠0)
 (ho:∀o,c.doing=some o→aDS o∧aAL o.att.val∧o.mine.length≤100000000000∧o.att.ans.length≤100000000000) (hw:∀l,0≤(c.wat l).since∧(c.wat l).since≤100000000000) (hn:net.length≤99999999990) (ht:tr.length≤99999999990):
 Calls prog 86 #[.pointer (some ⟨b,0,none⟩),mgV m] W fun r W'=>r= .returned (.tuple #[])∧After W F G b g f av cv (gS f c m) (net++cJ (gT f c m)) (tr++gT f c m) W':=by
 generalize A:W.alloc (.cells #[.int .i64 m.kind,.int .i64 m.src,.int .i64 m.dst,.int .i64 m.lock,.int .i64 m.bal,.int .i64 m.base,.int .i64 m.val.own,.int .i64 m.val.tok,.int .i64 m.val.ttl,.int .i64 m.val.seq] 66)=W0;have z:=cB A;have K:Chg NoS W W0:=by rw[←A];exact(Chg.refl _ _).alloc _
 have N:W0.heap[W.heap.size]?=some (.cells (mgL m).toArray 66 (0,0)):=by rw[←A];exact aA W _
 have p:=cB (h.kept K (fun _ _ h=>h) (fun _ _ h=>h));have J:=cB N;have d:Hid (Went W W0 F F G G):=⟨K.mono (fun _ _ h=>h.elim),fun _ h=>Or.inl h,fun _ h=>Or.inl h⟩;have t:=p.out.cl;obtain⟨ch,tk,a9,wt,dv,t⟩:=t;have U:∀q,c.up=q→Hid (∀x,x=W0.drew→Calls prog 90 #[.pointer (some ⟨b,0,none⟩)] x fun e w'=>e= .returned (.bool q)∧w'=x):=fun q e x hx=>by
  subst hx;subst e;exact vZ W0.drew b ch c.up (t.cell 9 _ rfl) t.chan
 have b5:=t.cell 16 _ rfl;have x4:=cC N 4 _ rfl;have i:=cB (aJX hc hvm hw);have D:=cB t;clear A K N h hc hvm hw;cases hu:c.up
 ·have u:gS f c m=c:=by unfold gS;rw[if_pos hu]
  have w:gT f c m=[]:=by unfold gT;rw[if_pos hu]
  rw[u,w,fE,aC,aC];clear u w;have y:=U _ hu;clear U hu ho t;go_enter func86,ntmps86;go_wp2_with (rw[z.out]);refine dJ [0,1,0,0,0,0,0,1,0,0,0,0,1,0,0,0,1,0,0,0,1,0,0] (by kernel_rfl) (fun _ _ _ _=>rfl) ?_;simp only[cL,cK];iterate 1 (apply sB rfl rfl;·(intro x h;(try cases h rfl);go_simp;with_reducible rfl))
  try simp only[pA]
  refine dB (v:=.bool false) (f:=90) (args:=#[.pointer (some ⟨b,0,none⟩)]) rfl (fun x hx=>by subst hx;go_simp;try rfl) (fun x hx=>y.out x hx) ?_;(try simp only[pA]);iterate 21 ((try simp only[pA]);first|(apply sB rfl rfl;·(intro x h;(try cases h rfl);go_simp;with_reducible rfl))|apply cP rfl|apply cN rfl)
  refine cD ?_;try simp only[pA]
  go_wp2_with fail
  ((try simp only[Exit.inBlock,Exit.then]);refine bodyPost_ret (results_none rfl _ _ _) rfl ?_)
  exact⟨rfl,F,G,p.out.drew,⟨d.out.chg.drew,d.out.f,d.out.g⟩⟩
 ·have y:=U _ hu;clear U;have B:=t.doing;clear t;cases hd:c.doing with
  |none=>
   rw[hd]at B;obtain rfl:dv= .pointer none:=B;have u:gS f c m=c:=by unfold gS;rw[if_neg (by simp[hu]),hd]
   have w:gT f c m=[]:=by unfold gT;rw[if_neg (by simp[hu]),hd]
   rw[u,w,fE,aC,aC];clear u w;clear hu hd ho;go_enter func86,ntmps86;go_wp2_with (rw[z.out]);refine dJ [0,1,0,0,0,0,0,1,0,0,0,0,1,0,0,0,1,0,0,0,1,0,0] (by kernel_rfl) (fun _ _ _ _=>rfl) ?_;simp only[cL,cK];iterate 1 (apply sB rfl rfl;·(intro x h;(try cases h rfl);go_simp;with_reducible rfl))
   try simp only[pA]
   refine dB (v:=.bool true) (f:=90) (args:=#[.pointer (some ⟨b,0,none⟩)]) rfl (fun x hx=>by subst hx;go_simp;try rfl) (fun x hx=>y.out x hx) ?_;(try simp only[pA]);iterate 21 ((try simp only[pA]);first|(apply sB rfl rfl;·(intro x h;(try cases h rfl);go_simp;with_reducible rfl))|apply cP rfl|apply cN rfl)
   refine cD ?_;try simp only[pA]
   go_wp2_with fail
   ((try simp only[Exit.inBlock,Exit.then]);refine bodyPost_ret (results_none rfl _ _ _) rfl ?_)
   exact⟨rfl,F,G,p.out.drew,⟨d.out.chg.drew,d.out.f,d.out.g⟩⟩
  |some o=>
   rw[hd]at B;obtain⟨ob,an,mv,rfl,L,Z⟩:=B;obtain⟨T,a2,a5,a0⟩:=ho o hd;have o5:=cC L.1 5 _ rfl;have a4:=cB L;clear L Z;by_cases a:m.bal=o.att.bal
   ·have a8:(m.bal !=o.att.bal)=false:=by simp[a]
    have x0:=cC J.out 0 _ rfl;by_cases j:m.kind=5
    ·have a3:(m.kind==5)=true:=by simp[j]
     have u:gS f c m=jY f {c with round:=max c.round (m.base / 256)} o:=by unfold gS;rw[if_neg (by simp[hu]),hd];exact(if_neg (by simp[a])).trans (if_pos j)
     have w:gT f c m=jK f {c with round:=max c.round (m.base / 256)} o:=by unfold gT;rw[if_neg (by simp[hu]),hd];exact(if_neg (by simp[a])).trans (if_pos j)
     rw[u,w];clear u w;have HD:=cB hd;clear hu hd ho a j hmk;have Y:=D.out.cell 12 _ rfl;have x5:=cC J.out 5 _ rfl;obtain⟨M,V⟩:=aJ7 (max c.round (m.base / 256));rw[←V];have HM:=cB V;clear V;have b2:m.base.tdiv 256=m.base / 256:=Int.tdiv_eq_ediv_of_nonneg hmb1;have b4:IntKind.i64.wrap (m.base / 256)=m.base / 256:=dZ (by omega) (by omega);go_enter func86,ntmps86;go_wp2_with (rw[z.out]);refine dJ [0,1,0,0,0,0,0,1,0,0,0,0,1,0,0,0,1,0,0,0,1,0,0] (by kernel_rfl) (fun _ _ _ _=>rfl) ?_;simp only[cL,cK];iterate 1 (apply sB rfl rfl;·(intro x h;(try cases h rfl);go_simp;with_reducible rfl))
     try simp only[pA]
     refine dB (v:=.bool true) (f:=90) (args:=#[.pointer (some ⟨b,0,none⟩)]) rfl (fun x hx=>by subst hx;go_simp;try rfl) (fun x hx=>y.out x hx) ?_;(try simp only[pA]);iterate 21 ((try simp only[pA]);first|(apply sB rfl rfl;·(intro x h;(try cases h rfl);go_simp;with_reducible rfl))|apply cP rfl|apply cN rfl)
     refine cD ?_;try simp only[pA]
     go_wp2_with fail;refine dJ [0,0,0,0,1,0,1,0,0,0,0] (by kernel_rfl) (fun _ _ _ _=>rfl) ?_;simp only[cL,cK];iterate 11 (apply sB rfl rfl;·(intro x h;(try cases h rfl);go_simp;with_reducible rfl))
     refine cD ?_;try simp only[pA]
     try rw[aH8]
     rw[←HM.out];generalize C:W0.drew.drew=Wd at*;have n:=C▸D.out.kept (S:=NoS) (Chg.refl _ _).drew.drew (fun _ _ h=>h);have I:=C▸p.out.drew.drew.nt;have R:Went W Wd F F G G:=C▸⟨d.out.chg.drew.drew,d.out.f,d.out.g⟩;clear C;have b1:=n.cell 12 _ rfl;have b3:=n.froz 12;have O:=cZ Wd b 12 (.int .i64 M);have H:=n.cells O {c with round:=M} (.pointer (some ⟨ob,0,none⟩)) rfl rfl rfl rfl (cU n.blk 12 _) (n.doing.kept n.blk (by decide) (by decide) O);have E:=I.kept O (fun k hk e=>p.out.apart b D.out.fb (e▸hk));have P:=R.trans (⟨O.mono (fun k _ e=>Or.inl (e▸D.out.fb)),fun _ h=>Or.inl h,fun _ h=>Or.inl h⟩:Went Wd (Wd.setCell ⟨b,12,none⟩ (.int .i64 M)) F F G G);generalize Q:Wd.setCell ⟨b,12,none⟩ (.int .i64 M)=W4 at*;have b0:=cB Q;have a7:=cB P;have HE:Hid (Calls prog 131 #[.pointer (some ⟨b,0,none⟩)] W4 fun r W'=>r= .returned (.tuple #[])∧After W4 F G b g f av cv (jY f {c with round:=M} o) (net++cJ (jK f {c with round:=M} o)) (tr++jK f {c with round:=M} o) W'):=
      rG W4 F G b g f av cv {c with round:=M} o net tr ⟨⟨ch,tk,a9,wt,_,H⟩,E,p.out.apart⟩ HD.out hf1 hf2 (by rw[HM.out];exact⟨i.out.1.n1,i.out.1.n2,i.out.1.i1,i.out.1.i2,i.out.1.c1,i.out.1.c2,by have:=i.out.1.r1;show 0≤max c.round (m.base / 256);omega,by have:=i.out.1.r2;show max c.round (m.base / 256)≤1000;omega⟩) T hn ht
     clear Q n I R O H E P Y x5;go_wp2_with (first|rw[b0.out]|(go_at_call 131;refine HE.out.mono ?_;rintro r W5 ⟨rfl,X⟩));go_end0;exact⟨rfl,After.trans a7.out X⟩
    ·have a3:(m.kind==5)=false:=by simp[j]
     have o7:=cC a4.out.1 7 _ rfl;by_cases s:m.kind=o.att.awaited
     ·have a1:(m.kind==o.att.awaited)=true:=by simp[s]
      have u:gS f c m=iZ f c o m:=by unfold gS;rw[if_neg (by simp[hu]),hd];exact((if_neg (by simp[a])).trans (if_neg j)).trans (if_pos s)
      have w:gT f c m=jF f c o m:=by unfold gT;rw[if_neg (by simp[hu]),hd];exact((if_neg (by simp[a])).trans (if_neg j)).trans (if_pos s)
      rw[u,w];clear u w;have HC:Hid (Calls prog 132 #[.pointer (some ⟨b,0,none⟩),mgV m] W0.drew fun r W'=>r= .returned (.tuple #[])∧After W0.drew F G b g f av cv (iZ f c o m) (net++cJ (jF f c o m)) (tr++jF f c o m) W'):=
       aFA W0.drew F G b g f av cv c o net tr m p.out.drew hd hf1 hf2 hdr1 hdr2 i.out.1 T a2 i.out.2.1 (fun e=>hmk (s.trans e)) a5 i.out.2.2 a0 hn ht
      have a6:=cB (cF (W:=W0.drew) J.out);clear hu hd ho a j s hmk;go_enter func86,ntmps86;go_wp2_with (rw[z.out]);refine dJ [0,1,0,0,0,0,0,1,0,0,0,0,1,0,0,0,1,0,0,0,1,0,0] (by kernel_rfl) (fun _ _ _ _=>rfl) ?_;simp only[cL,cK];iterate 1 (apply sB rfl rfl;·(intro x h;(try cases h rfl);go_simp;with_reducible rfl))
      try simp only[pA]
      refine dB (v:=.bool true) (f:=90) (args:=#[.pointer (some ⟨b,0,none⟩)]) rfl (fun x hx=>by subst hx;go_simp;try rfl) (fun x hx=>y.out x hx) ?_;(try simp only[pA]);iterate 21 ((try simp only[pA]);first|(apply sB rfl rfl;·(intro x h;(try cases h rfl);go_simp;with_reducible rfl))|apply cP rfl|apply cN rfl)
      refine cD ?_;try simp only[pA]
      go_wp2_with (first|(refine cI rfl 66 _ rfl ⟨W.heap.size,0,none⟩ rfl (mgL m) _ a6.out underlying66 rfl (by kernel_rfl) ?_)|(go_at_call 132;refine HC.out.mono ?_;rintro r W5 ⟨rfl,X⟩));go_end0;exact⟨rfl,After.trans d.out X.drew⟩
     ·have a1:(m.kind==o.att.awaited)=false:=by simp[s]
      have u:gS f c m=c:=by unfold gS;rw[if_neg (by simp[hu]),hd];exact((if_neg (by simp[a])).trans (if_neg j)).trans (if_neg s)
      have w:gT f c m=[]:=by unfold gT;rw[if_neg (by simp[hu]),hd];exact((if_neg (by simp[a])).trans (if_neg j)).trans (if_neg s)
      rw[u,w,fE,aC,aC];clear u w;clear hu hd ho a j s;go_enter func86,ntmps86;go_wp2_with (rw[z.out]);refine dJ [0,1,0,0,0,0,0,1,0,0,0,0,1,0,0,0,1,0,0,0,1,0,0] (by kernel_rfl) (fun _ _ _ _=>rfl) ?_;simp only[cL,cK];iterate 1 (apply sB rfl rfl;·(intro x h;(try cases h rfl);go_simp;with_reducible rfl))
      try simp only[pA]
      refine dB (v:=.bool true) (f:=90) (args:=#[.pointer (some ⟨b,0,none⟩)]) rfl (fun x hx=>by subst hx;go_simp;try rfl) (fun x hx=>y.out x hx) ?_;(try simp only[pA]);iterate 21 ((try simp only[pA]);first|(apply sB rfl rfl;·(intro x h;(try cases h rfl);go_simp;with_reducible rfl))|apply cP rfl|apply cN rfl)
      refine cD ?_;try simp only[pA]
      go_wp2_with fail;go_end0;exact⟨rfl,F,G,p.out.drew,⟨d.out.chg.drew,d.out.f,d.out.g⟩⟩
   ·have a8:(m.bal !=o.att.bal)=true:=by simp[a]
    have u:gS f c m=c:=by unfold gS;rw[if_neg (by simp[hu]),hd];exact if_pos a
    have w:gT f c m=[]:=by unfold gT;rw[if_neg (by simp[hu]),hd];exact if_pos a
    rw[u,w,fE,aC,aC];clear u w;clear hu hd ho a;go_enter func86,ntmps86;go_wp2_with (rw[z.out]);refine dJ [0,1,0,0,0,0,0,1,0,0,0,0,1,0,0,0,1,0,0,0,1,0,0] (by kernel_rfl) (fun _ _ _ _=>rfl) ?_;simp only[cL,cK];iterate 1 (apply sB rfl rfl;·(intro x h;(try cases h rfl);go_simp;with_reducible rfl))
    try simp only[pA]
    refine dB (v:=.bool true) (f:=90) (args:=#[.pointer (some ⟨b,0,none⟩)]) rfl (fun x hx=>by subst hx;go_simp;try rfl) (fun x hx=>y.out x hx) ?_;(try simp only[pA]);iterate 21 ((try simp only[pA]);first|(apply sB rfl rfl;·(intro x h;(try cases h rfl);go_simp;with_reducible rfl))|apply cP rfl|apply cN rfl)
    refine cD ?_;try simp only[pA]
    go_wp2_with fail
    ((try simp only[Exit.inBlock,Exit.then]);refine bodyPost_ret (results_none rfl _ _ _) rfl ?_)
    exact⟨rfl,F,G,p.out.drew,⟨d.out.chg.drew,d.out.f,d.out.g⟩⟩
section
open Go.RowKit Go.Extern.Stop Go.Stop Go.Extern
theorem aFx(t:Addr)(w:World):(ReflectliteValue.unpack (.iface 237 (.pointer (some t)))).run prog w
 = .ok (.agg #[.pointer (some ⟨2,237,none⟩),.pointer (some ⟨w.heap.size,0,none⟩),.int .u64 150]) (w.alloc (.cells #[.pointer (some t)] 237)):=by kernel_rfl
theorem aJk(a:Addr)(w:World):(ReflectliteValue.methodAny (ReflectliteValue.valueError "reflectlite.Value.Type" 0) (fun t _ _ _=>ReflectliteType.toType t) #[.agg #[.pointer (some ⟨2,237,none⟩),.pointer (some a),.int .u64 150]]).run prog w
 = .ok (.iface 295 (.agg #[.pointer (some ⟨2,237,none⟩)])) w:=by kernel_rfl
theorem aDk(h:Value)(w:World):(Go.method 457 295 (.agg #[h]) "Kind").run prog w= .ok (261,h) w:=by kernel_rfl
theorem aJv(w:World):((ReflectliteType.abiMethod fun t=>Functor.map (fun a:Nat=>Value.int IntKind.u8 (a:Int)) (Rtype.kind t)) #[.pointer (some ⟨2,237,none⟩)]).run prog w= .ok (.int .u8 22) w:=by kernel_rfl
theorem aJP(w:World):((ReflectliteType.abiMethod fun t=>Functor.map (fun a:Nat=>Value.int IntKind.u8 (a:Int)) (Rtype.kind t)) #[.pointer (some ⟨2,234,none⟩)]).run prog w= .ok (.int .u8 22) w:=by kernel_rfl
theorem rlm(z:Sem Value)(f:TypeId→Addr→Nat→Nat→Sem Value)(v:Value):
 ReflectliteValue.method z f #[v]=(ReflectliteValue.parts v>>=fun o=>match o with|none=>z|some (t,a,fl)=>f t a fl (fl % 32)):=rfl
theorem aEA(a:Addr)(w:World):(ReflectliteValue.parts (.agg #[.pointer (some ⟨2,237,none⟩),.pointer (some a),.int .u64 150])).run prog w= .ok (some (237,a,150)) w:=by kernel_rfl
theorem aH4(a p:Addr)(W:World)(ha:W.cell? a=some (.pointer (some p))):
 (ReflectliteValue.method (ReflectliteValue.valueError "reflectlite.Value.IsNil" 0) ReflectliteValue.isNil #[.agg #[.pointer (some ⟨2,237,none⟩),.pointer (some a),.int .u64 150]]).run prog W= .ok (.bool false) W:=by
 rw[rlm];simp only[aT,aEA,Result.andThen];simp[ReflectliteValue.isNil,loadVar,isAgg,underlying,underlying237,ha,Result.andThen]
section
variable (h:Value) (w:World)
theorem aDF:(Go.method 457 295 (.agg #[h]) "Elem").run prog w= .ok (272,.agg #[h]) w:=by kernel_rfl
theorem wI:(Go.method 457 295 (.agg #[h]) "Implements").run prog w= .ok (273,.agg #[h]) w:=by kernel_rfl
theorem tD:(Go.method 457 295 (.agg #[h]) "AssignableTo").run prog w= .ok (270,.agg #[h]) w:=by kernel_rfl
end
theorem aJy(w:World):(ReflectliteType.method ReflectliteType.elem #[.agg #[.pointer (some ⟨2,237,none⟩)]]).run prog w= .ok (.iface 295 (.agg #[.pointer (some ⟨2,234,none⟩)])) w:=by kernel_rfl
theorem aCg(w:World):(ReflectliteType.relation "Implements" ReflectliteType.implements_ #[.agg #[.pointer (some ⟨2,234,none⟩)],.iface 295 (.agg #[.pointer (some ⟨2,202,none⟩)])]).run prog w= .ok (.bool true) w:=by kernel_rfl
theorem aIR(v:Value)(w:World):(ReflectliteType.typeOf #[.iface 234 v]).run prog w= .ok (.iface 295 (.agg #[.pointer (some ⟨2,234,none⟩)])) w:=by kernel_rfl
theorem aC1(w:World):(ReflectliteType.relation "AssignableTo" ReflectliteType.assignableTo #[.agg #[.pointer (some ⟨2,234,none⟩)],.iface 295 (.agg #[.pointer (some ⟨2,234,none⟩)])]).run prog w= .ok (.bool true) w:=by kernel_rfl
theorem aGF(e:Addr)(w:World):(ReflectliteValue.unpack (.iface 234 (.pointer (some e)))).run prog w
 = .ok (.agg #[.pointer (some ⟨2,234,none⟩),.pointer (some ⟨w.heap.size,0,none⟩),.int .u64 150]) (w.alloc (.cells #[.pointer (some e)] 234)):=by kernel_rfl
theorem aGp(w:World):(Rtype.elem? 237).run prog w= .ok (some 234) w:=by kernel_rfl
theorem mkP(p:Addr)(w:World):(ReflectliteValue.mk 234 p ReflectliteValue.flagAddr).run prog w= .ok (.agg #[.pointer (some ⟨2,234,none⟩),.pointer (some p),.int .u64 406]) w:=by kernel_rfl
theorem aIS(a p:Addr)(W:World)(ha:W.cell? a=some (.pointer (some p))):
 (ReflectliteValue.method (ReflectliteValue.valueError "reflectlite.Value.Elem" 0) ReflectliteValue.elem #[.agg #[.pointer (some ⟨2,237,none⟩),.pointer (some a),.int .u64 150]]).run prog W
  = .ok (.agg #[.pointer (some ⟨2,234,none⟩),.pointer (some p),.int .u64 406]) W:=by
 rw[rlm];simp only[aT,aEA,Result.andThen];simp[ReflectliteValue.elem,loadVar,isAgg,underlying,underlying237,ha,Result.andThen,aGp,mkP]
theorem aIq(a:Addr)(w:World):(ReflectliteValue.parts (.agg #[.pointer (some ⟨2,234,none⟩),.pointer (some a),.int .u64 406])).run prog w= .ok (some (234,a,406)) w:=by kernel_rfl
theorem aI8(a:Addr)(w:World):(ReflectliteValue.parts (.agg #[.pointer (some ⟨2,234,none⟩),.pointer (some a),.int .u64 150])).run prog w= .ok (some (234,a,150)) w:=by kernel_rfl
theorem aIK(w:World):(Rtype.directlyAssignable 234 234).run prog w= .ok true w:=by kernel_rfl
theorem rls(v x:Value):ReflectliteValue.set #[v,x]=(do
 let (some (dst,a,fl),some (src,b,_)):=(←ReflectliteValue.parts v,←ReflectliteValue.parts x)
  |unsupported (.noEntry "extern/(internal/reflectlite.Value).Set.zeroValue")
 if fl / ReflectliteValue.flagAddr % 2==0 then unsupported (.noEntry "extern/(internal/reflectlite.Value).Set.unaddressable")
 let val←loadVar src b
 if←Rtype.directlyAssignable dst src then storeVar dst a val
 else if←Rtype.implements dst src then
  if(←Rtype.kind src)==20 then
   match val with
   |.nilIface=>unsupported (.noEntry "extern/reflectlite: a nil value of one interface type handed on as a value of another")
   |_=>storeVar dst a val
  else storeVar dst a (.iface src val)
 else panicString ("reflectlite.Set: value of type "++(←Rtype.spelt src)++ " is not assignable to type "++(←Rtype.spelt dst))
 pure (.tuple #[])):=rfl
theorem aJT(ta b e:Addr)(old:Value)(W:World)(hb:W.cell? b=some (.pointer (some e)))(ht:W.cell? ta=some old)(hf:W.frozen? ta=false):
 (ReflectliteValue.set #[.agg #[.pointer (some ⟨2,234,none⟩),.pointer (some ta),.int .u64 406],.agg #[.pointer (some ⟨2,234,none⟩),.pointer (some b),.int .u64 150]]).run prog W
  = .ok (.tuple #[]) (W.setCell ta (.pointer (some e))):=by
 rw[rls];simp only[aT,aIq,aI8,Result.andThen];simp[ReflectliteValue.flagAddr,loadVar,isAgg,underlying,underlying234,hb,Result.andThen,aIK,storeVar,Value.cells,storeCells,Addr.add];rw[run_store prog W ta _ _ (by rfl)];simp[ht,hf]
theorem aJs(e t:Addr)(old:Value)(w:World)(hg:w.cell? ⟨1,0,none⟩=some aGP)(hlt:1<w.heap.size)(ht0:w.cell? t=some old)(hf0:w.frozen? t=false):
 Calls prog 168 #[.iface 234 (.pointer (some e)),.iface 237 (.pointer (some t))] w fun ev w'=>ev= .returned (.bool true)∧w'=((((w.alloc (.cells #[.pointer (some t)] 237)).alloc (.cells #[.pointer (some ⟨2,237,none⟩),.pointer (some ⟨w.heap.size,0,none⟩),.int .u64 150] 264)).alloc (.cells #[.pointer (some ⟨2,237,none⟩),.pointer (some ⟨w.heap.size,0,none⟩),.int .u64 150] 264)).alloc (.cells #[.pointer (some e)] 234)).setCell t (.pointer (some e)):=by
 have E:= @run_callFunc_extern prog 192 _ (fun args=>ReflectliteValue.unpack (args.getD 0 (.tuple #[]))) func192 (by kernel_rfl) (by kernel_rfl) (by kernel_rfl) (by kernel_rfl);have x:= @run_callFunc_extern prog 193 _ (ReflectliteValue.methodAny (ReflectliteValue.valueError "reflectlite.Value.Type" 0) (fun t _ _ _=>ReflectliteType.toType t)) func193 (by kernel_rfl) (by kernel_rfl) (by kernel_rfl) (by kernel_rfl);have y:= @run_callFunc_extern prog 194 _ (ReflectliteValue.method (ReflectliteValue.valueError "reflectlite.Value.IsNil" 0) ReflectliteValue.isNil) func194 (by kernel_rfl) (by kernel_rfl) (by kernel_rfl) (by kernel_rfl);have i:= @run_callFunc_extern prog 261 _ (ReflectliteType.abiMethod fun t=>do pure (.int .u8 (←Rtype.kind t))) func261 (by kernel_rfl) (by kernel_rfl) (by kernel_rfl) (by kernel_rfl);have m:= @run_callFunc_extern prog 272 _ (ReflectliteType.method ReflectliteType.elem) func272 (by kernel_rfl) (by kernel_rfl) (by kernel_rfl) (by kernel_rfl);have p:= @run_callFunc_extern prog 273 _ (ReflectliteType.relation "Implements" ReflectliteType.implements_) func273 (by kernel_rfl) (by kernel_rfl) (by kernel_rfl) (by kernel_rfl);have f:= @run_callFunc_extern prog 190 _ ReflectliteType.typeOf func190 (by kernel_rfl) (by kernel_rfl) (by kernel_rfl) (by kernel_rfl);have b:= @run_callFunc_extern prog 270 _ (ReflectliteType.relation "AssignableTo" ReflectliteType.assignableTo) func270 (by kernel_rfl) (by kernel_rfl) (by kernel_rfl) (by kernel_rfl)
 have k:= @run_callFunc_extern prog 219 _ (ReflectliteValue.method (ReflectliteValue.valueError "reflectlite.Value.Elem" 0) ReflectliteValue.elem) func219 (by kernel_rfl) (by kernel_rfl) (by kernel_rfl) (by kernel_rfl);have g:= @run_callFunc_extern prog 220 _ ReflectliteValue.set func220 (by kernel_rfl) (by kernel_rfl) (by kernel_rfl) (by kernel_rfl);have F:=aIR;have D:=tD;have q:=aC1;have j:=aGF;have A:=aFx;have u:=aJk;have z:=aDk;have s:=aDF;have r:=wI;have o:=aJv;have c:=aJP;have n:=aJy;have d:=aCg;have B:=aH4 ⟨w.heap.size,0,none⟩ t ((w.alloc (.cells #[.pointer (some t)] 237)).alloc (.cells #[.pointer (some ⟨2,237,none⟩),.pointer (some ⟨w.heap.size,0,none⟩),.int .u64 150] 264)) (by simp);have l:((w.alloc (.cells #[.pointer (some t)] 237)).alloc (.cells #[.pointer (some ⟨2,237,none⟩),.pointer (some ⟨w.heap.size,0,none⟩),.int .u64 150] 264)).cell? ⟨1,0,none⟩=some aGP:=by
  rw[bI _ _ ⟨1,0,none⟩ (by simp;omega),bI _ _ ⟨1,0,none⟩ hlt];exact hg
 have a:t.block<w.heap.size:=by
  rcases Nat.lt_or_ge t.block w.heap.size with h|h
  ·exact h
  ·simp[World.cell?,Array.getElem?_eq_none h]at ht0
 have v:=aIS ⟨w.heap.size,0,none⟩ t (((w.alloc (.cells #[.pointer (some t)] 237)).alloc (.cells #[.pointer (some ⟨2,237,none⟩),.pointer (some ⟨w.heap.size,0,none⟩),.int .u64 150] 264)).alloc (.cells #[.pointer (some ⟨2,237,none⟩),.pointer (some ⟨w.heap.size,0,none⟩),.int .u64 150] 264)) (by rw[bI _ _ ⟨w.heap.size,0,none⟩ (by simp;omega)];simp);have C:=aJT t ⟨w.heap.size+1+1+1,0,none⟩ e old ((((w.alloc (.cells #[.pointer (some t)] 237)).alloc (.cells #[.pointer (some ⟨2,237,none⟩),.pointer (some ⟨w.heap.size,0,none⟩),.int .u64 150] 264)).alloc (.cells #[.pointer (some ⟨2,237,none⟩),.pointer (some ⟨w.heap.size,0,none⟩),.int .u64 150] 264)).alloc (.cells #[.pointer (some e)] 234))
  (by rw[World.cell?_alloc_at _ _ _ _ (by simp)];rfl)
  (by rw[bI _ _ t (by simp;omega),bI _ _ t (by simp;omega),bI _ _ t (by simp;omega),bI _ _ t a];exact ht0)
  (by rw[World.frozen?_alloc_old _ _ t (by simp;omega),World.frozen?_alloc_old _ _ t (by simp;omega),World.frozen?_alloc_old _ _ t (by simp;omega),World.frozen?_alloc_old _ _ t (Nat.ne_of_lt a)];exact hf0)
 go_enter func168,ntmps168;go_wp2;refine wp_loop_rounds 1 ?_;rw[rounds_succ];go_wp2;go_ret;exact⟨rfl,rfl⟩
theorem aGV(fb t:Nat)(w:World)(hg:w.cell? ⟨1,0,none⟩=some aGP)(h1lt:1<w.heap.size)(ht:w.heap[t]?=some (.cells #[.pointer none] 234 (0,0))):
 Calls prog 168 #[.iface 234 (.pointer (some ⟨fb,0,none⟩)),.iface 237 (.pointer (some ⟨t,0,none⟩))] w fun ev w'=>ev= .returned (.bool true)∧Chg (fun x=>x=t) w w'∧w'.heap[t]?=some (.cells #[.pointer (some ⟨fb,0,none⟩)] 234 (0,0)):=by
 refine(aJs ⟨fb,0,none⟩ ⟨t,0,none⟩ (.pointer none) w hg h1lt (cC ht 0 _ rfl) (cV ht 0)).mono ?_;rintro e w' ⟨rfl,rfl⟩;have a:=cW ht;refine⟨rfl,((((((Chg.refl _ _).alloc _).alloc _).alloc _).alloc _).setCell _ _ (fun _=>rfl)),cU (cX _ (cX _ (cX _ (cX _ ht)))) 0 _⟩
end
section
open Go.RowKit Go.Maps
theorem aIA{W:World}{tb:Nat}{rs:List Rw}(h:zQ W tb rs)(l:Int)(hl0:0≤l)(hl3:l≤3):(Instr.lookup 118 (.map (some tb)) (.int .i64 l) false).run prog W= .ok (rwV ((dS rs l.toNat).getD zRw)) W:=by
 have b:keyOf prog 3 (.int .i64 l)=some (.int .i64 l):=keyOf_int_mk underlying3 (aCi hl0 (by omega));obtain⟨v,d,c,a⟩:=h.lookup aFE underlying118 (aEJ W) (xY zRw) b;have e:=aBk (xK zRw) l.toNat rs.length rs rfl;rw[Int.toNat_of_nonneg hl0]at e;rw[e]at a;rw[c];cases hq:dS rs l.toNat with
 |none=>rw[hq]at a;rw[yV a];rfl
 |some r=>rw[hq]at a;rw[yV a];rfl
theorem aFD(fn:Func)(hr:fn.results=#[.cell 4 58])(tmps:Array Value)(x:Nat)(r:Rw)(W:World)(h4:tmps.getD 4 undef= .pointer (some ⟨x,0,none⟩))(hb:W.heap[x]?=some (.cells (rwL r).toArray 58 (0,0))):
 (results fn tmps).run prog W= .ok (rwV r) W:=by
 have a:(loadVar 58 ⟨x,0,none⟩).run prog W= .ok (rwV r) W:=eK W ⟨x,0,none⟩ 58 (rwL r) _ (cF hb) underlying58 rfl (by kernel_rfl);unfold results;rw[hr];simp only[bY]at h4;simp[h4,asAddr,aT,a]
theorem qT(fn:Func)(hr:fn.results=#[.cell 4 58,.cell 5 66,.tmp 6])(tmps:Array Value)(x y:Nat)(r:Rw)(m:Mg)(q:Bool)(W:World)(h4:tmps.getD 4 undef= .pointer (some ⟨x,0,none⟩))(h5:tmps.getD 5 undef= .pointer (some ⟨y,0,none⟩))(h6:tmps.getD 6 undef= .bool q)(hb:W.heap[x]?=some (.cells (rwL r).toArray 58 (0,0)))(hc:W.heap[y]?=some (.cells (mgL m).toArray 66 (0,0))):
 (results fn tmps).run prog W= .ok (.tuple #[rwV r,mgV m,.bool q]) W:=by
 have b:(loadVar 58 ⟨x,0,none⟩).run prog W= .ok (rwV r) W:=eK W ⟨x,0,none⟩ 58 (rwL r) _ (cF hb) underlying58 rfl (by kernel_rfl);have a:(loadVar 66 ⟨y,0,none⟩).run prog W= .ok (mgV m) W:=eK W ⟨y,0,none⟩ 66 (mgL m) _ (cF hc) underlying66 rfl (by kernel_rfl);unfold results;rw[hr];simp only[bY]at h4 h5 h6;simp[h4,h5,h6,asAddr,aT,b,a]
theorem aIv(W:World)(F:Nat→Prop)(b g:Nat)(a:Ac)(l:Int)(h:Acc W F b g a)(hl0:0≤l)(hl3:l≤3):
 Calls prog 170 #[.pointer (some ⟨b,0,none⟩),.int .i64 l] W fun e W'=>e= .returned (rwV (rY a l))∧Chg NoS W W':=by
 obtain⟨FD,d,tb,h,_,_⟩:=h;obtain⟨R,C⟩:=aJ7 ((dS a.rows l.toNat).getD zRw);have A:=fun x (hx:Chg NoS W x)=>aIA (h.kept hx (fun _ _ h=>h)).table l hl0 hl3;rw[←C]at A;have U:rY a l={R with lock:=l}:=by unfold rY;rw[C]
 rw[U];have V:=cB A;have HA:=cB h;have i:Chg NoS W (W.alloc (.cells #[.int .i64 0,.int .i64 0,.int .i64 0,.int .i64 0,.int .i64 0,.int .i64 0,.int .i64 0] 58)):=(Chg.refl _ _).alloc _;have w:=aA W (.cells #[.int .i64 0,.int .i64 0,.int .i64 0,.int .i64 0,.int .i64 0,.int .i64 0,.int .i64 0] 58);have f:(W.alloc (.cells #[.int .i64 0,.int .i64 0,.int .i64 0,.int .i64 0,.int .i64 0,.int .i64 0,.int .i64 0] 58)).heap.size=W.heap.size+1:=by simp
 generalize p:W.alloc (.cells #[.int .i64 0,.int .i64 0,.int .i64 0,.int .i64 0,.int .i64 0,.int .i64 0,.int .i64 0] 58)=W1 at*;have T:=cB p;have Y:=(h.kept i (fun _ _ h=>h)).cell 3 _ rfl;have z:=V.out W1 i;have o:=aA W1 (.cells #[.int .i64 0,.int .i64 0,.int .i64 0,.int .i64 0,.int .i64 0,.int .i64 0,.int .i64 0] 58);have n:Chg NoS W1 (W1.alloc (.cells #[.int .i64 0,.int .i64 0,.int .i64 0,.int .i64 0,.int .i64 0,.int .i64 0,.int .i64 0] 58)):=(Chg.refl _ _).alloc _;have M:(W1.alloc (.cells #[.int .i64 0,.int .i64 0,.int .i64 0,.int .i64 0,.int .i64 0,.int .i64 0,.int .i64 0] 58)).heap.size=W.heap.size+2:=by simp[f]
 have j:=n.kept w (fun h=>h);generalize q:W1.alloc (.cells #[.int .i64 0,.int .i64 0,.int .i64 0,.int .i64 0,.int .i64 0,.int .i64 0,.int .i64 0] 58)=W2 at*;rw[f]at o;have H:=cB q;have I:=cB f;have N:=cB o;have L:=cB (i.trans (S:=NoS) n (fun _ _ h=>h));have y:=cB j;clear p q w i n o j M f h A U C;go_enter func170,ntmps170;go_wp2_with (first|rw[T.out]|(rw[H.out,I.out])|(refine cH rfl 58 _ _ rfl (W.heap.size+1) 0 58 _ _ (rwL R) rfl rfl N.out (by kernel_rfl) (by simp[Value.oneCell']) (by simp) rfl ?_;intro B k E c;refine cE ?_));have X:=cC c 0 _ rfl;have Z:=cV c 0;have m:=cZ B (W.heap.size+1) 0 (.int .i64 l);have v:(B.setCell ⟨W.heap.size+1,0,none⟩ (.int .i64 l)).heap[W.heap.size+1]?=some (.cells (rwL {R with lock:=l}).toArray 58 (0,0)):=cU c 0 (.int .i64 l);have s:=m.kept (k.kept y.out (by omega)) (by omega);generalize t:B.setCell ⟨W.heap.size+1,0,none⟩ (.int .i64 l)=W4 at*;have O:=cB t;have P:=cB (cF v);have D:=cB s;have Q:=cB (((L.out.nos:Chg (fun x=>x=W.heap.size+1) W W2).trans k (fun _ _ h=>h)).trans m (fun _ _ h=>h));clear t k E c m v s;refine cB ?_;go_wp2_with (first|rw[O.out]|(refine cI rfl 58 _ rfl ⟨W.heap.size+1,0,none⟩ rfl (rwL {R with lock:=l}) _ P.out underlying58 rfl (by kernel_rfl) ?_)|(refine cH rfl 58 _ _ rfl W.heap.size 0 58 _ _ (rwL {R with lock:=l}) rfl rfl D.out (by kernel_rfl) (by simp[Value.oneCell']) (by simp) rfl ?_;intro W5 r G u;refine cE ?_));have J:=cB u
 have K:Hid (Chg NoS W W5):=((Q.out.mono (fun _ _ h=>Or.inl h):Chg (fun x=>x=W.heap.size+1∨x=W.heap.size) W W4).trans r (fun _ _ h=>Or.inr h)).mono (fun x hx h=>by omega);clear r G u X Z Y z;refine cB ?_;go_wp2_with fail;exact bodyPost_ret (aFD _ results170 _ W.heap.size {R with lock:=l} _ rfl J.out) rfl ⟨rfl,K.out⟩
abbrev aEe(r:Rw):Vl:=⟨r.own,r.tok,r.ttl,r.seq⟩
theorem aEI(r:Rw):∀j x,(vlL (aEe r))[j]?=some x→(rwL r).toArray[3+j]?=some x:=by
 intro j x a;have b:j<4:=(aF.1 a).1;rcases j with _|_|_|_|j
 ·exact a
 ·exact a
 ·exact a
 ·exact a
 ·omega
theorem aIB(m:Mg):∀j x,(vlL m.val)[j]?=some x→(mgL m).toArray[6+j]?=some x:=by
 intro j x a;have b:j<4:=(aF.1 a).1;rcases j with _|_|_|_|j
 ·exact a
 ·exact a
 ·exact a
 ·exact a
 ·omega
structure DecAt(W0 W:World)(m:Mg)(r:Rw):Prop where
 bm:W.heap[W0.heap.size]?=some (.cells (mgL m).toArray 66 (0,0))
 br:W.heap[W0.heap.size+1]?=some (.cells (rwL r).toArray 58 (0,0))
 ba:W.heap[W0.heap.size+2]?=some (.cells (rwL zRw).toArray 58 (0,0))
 bx:W.heap[W0.heap.size+3]?=some (.cells (mgL zMg).toArray 66 (0,0))
 ch:Chg NoS W0 W
theorem DecAt.drew{W0 W:World}{m:Mg}{r:Rw}(h:DecAt W0 W m r):DecAt W0 W.drew m r:=⟨h.bm,h.br,h.ba,h.bx,h.ch.drew⟩
theorem aDu(W:World)(m:Mg)(r:Rw):
 Calls prog 169 #[mgV m,rwV r] W fun e W'=>e= .returned (.tuple #[rwV (fA m r),mgV (decMsg m r),.bool (nN m r)])∧Chg NoS W W':=by
 have b6:=aA W (.cells #[.int .i64 m.kind,.int .i64 m.src,.int .i64 m.dst,.int .i64 m.lock,.int .i64 m.bal,.int .i64 m.base,.int .i64 m.val.own,.int .i64 m.val.tok,.int .i64 m.val.ttl,.int .i64 m.val.seq] 66);have b9:Chg NoS W (W.alloc (.cells #[.int .i64 m.kind,.int .i64 m.src,.int .i64 m.dst,.int .i64 m.lock,.int .i64 m.bal,.int .i64 m.base,.int .i64 m.val.own,.int .i64 m.val.tok,.int .i64 m.val.ttl,.int .i64 m.val.seq] 66)):=(Chg.refl _ _).alloc _;have p:(W.alloc (.cells #[.int .i64 m.kind,.int .i64 m.src,.int .i64 m.dst,.int .i64 m.lock,.int .i64 m.bal,.int .i64 m.base,.int .i64 m.val.own,.int .i64 m.val.tok,.int .i64 m.val.ttl,.int .i64 m.val.seq] 66)).heap.size=W.heap.size+1:=by simp
 generalize a1:W.alloc (.cells #[.int .i64 m.kind,.int .i64 m.src,.int .i64 m.dst,.int .i64 m.lock,.int .i64 m.bal,.int .i64 m.base,.int .i64 m.val.own,.int .i64 m.val.tok,.int .i64 m.val.ttl,.int .i64 m.val.seq] 66)=W1 at*;have T:=cB a1;have K:=aA W1 (.cells #[.int .i64 r.lock,.int .i64 r.prom,.int .i64 r.acc,.int .i64 r.own,.int .i64 r.tok,.int .i64 r.ttl,.int .i64 r.seq] 58);have Q:Chg NoS W1 (W1.alloc (.cells #[.int .i64 r.lock,.int .i64 r.prom,.int .i64 r.acc,.int .i64 r.own,.int .i64 r.tok,.int .i64 r.ttl,.int .i64 r.seq] 58)):=(Chg.refl _ _).alloc _;have o:(W1.alloc (.cells #[.int .i64 r.lock,.int .i64 r.prom,.int .i64 r.acc,.int .i64 r.own,.int .i64 r.tok,.int .i64 r.ttl,.int .i64 r.seq] 58)).heap.size=W.heap.size+2:=by simp[p]
 generalize a6:W1.alloc (.cells #[.int .i64 r.lock,.int .i64 r.prom,.int .i64 r.acc,.int .i64 r.own,.int .i64 r.tok,.int .i64 r.ttl,.int .i64 r.seq] 58)=W2 at*;have Z:=cB a6;have O:=aA W2 (.cells #[.int .i64 0,.int .i64 0,.int .i64 0,.int .i64 0,.int .i64 0,.int .i64 0,.int .i64 0] 58);have G:Chg NoS W2 (W2.alloc (.cells #[.int .i64 0,.int .i64 0,.int .i64 0,.int .i64 0,.int .i64 0,.int .i64 0,.int .i64 0] 58)):=(Chg.refl _ _).alloc _;have t:(W2.alloc (.cells #[.int .i64 0,.int .i64 0,.int .i64 0,.int .i64 0,.int .i64 0,.int .i64 0,.int .i64 0] 58)).heap.size=W.heap.size+3:=by simp[o]
 generalize b8:W2.alloc (.cells #[.int .i64 0,.int .i64 0,.int .i64 0,.int .i64 0,.int .i64 0,.int .i64 0,.int .i64 0] 58)=W3 at*;have U:=cB b8;have hx4:=aA W3 (.cells #[.int .i64 0,.int .i64 0,.int .i64 0,.int .i64 0,.int .i64 0,.int .i64 0,.int .i64 0,.int .i64 0,.int .i64 0,.int .i64 0] 66);have z:Chg NoS W3 (W3.alloc (.cells #[.int .i64 0,.int .i64 0,.int .i64 0,.int .i64 0,.int .i64 0,.int .i64 0,.int .i64 0,.int .i64 0,.int .i64 0,.int .i64 0] 66)):=(Chg.refl _ _).alloc _;generalize a8:W3.alloc (.cells #[.int .i64 0,.int .i64 0,.int .i64 0,.int .i64 0,.int .i64 0,.int .i64 0,.int .i64 0,.int .i64 0,.int .i64 0,.int .i64 0] 66)=W4 at*;have Y:=cB a8;rw[p]at K;rw[o]at O;rw[t]at hx4;have d:Hid (DecAt W W4 m r):=⟨z.kept (G.kept (Q.kept b6 (fun h=>h)) (fun h=>h)) (fun h=>h),z.kept (G.kept K (fun h=>h)) (fun h=>h),z.kept O (fun h=>h),hx4,((b9.trans Q (fun _ _ h=>h)).trans G (fun _ _ h=>h)).trans z (fun _ _ h=>h)⟩;have m4:=cC d.out.bm 4 _ rfl;have r1:=cC d.out.br 1 _ rfl;clear a1 a6 b8 a8 b6 K O hx4 b9 Q G z;have HS:=cB (aJX p o t);by_cases k:m.bal<r.prom
 ·have H:fA m r=r:=if_pos k;have I:decMsg m r={zMg with kind:=5,base:=r.prom}:=if_pos k;have J:nN m r=false:=if_pos k;rw[H,I,J];have hb:decide (m.bal<r.prom)=true:=by simpa using k
  clear H I J k;go_enter func169,ntmps169;go_wp2_with (first|rw[T.out]|rw[Z.out]|rw[U.out]|rw[Y.out]);clear p o t;refine rlx [1,0,1,0,2] (fun x=>x.cell? ⟨W.heap.size+1,1,none⟩=some (.int .i64 r.prom)∧∀j y,(rwL r)[j]?=some y→x.cell? ((⟨W.heap.size+1,0,none⟩:Addr).add j)=some y) (by kernel_rfl) (fun _ _ _ _=>rfl) ?_ ?_
  ·exact⟨r1,cF (W:=W4.drew) d.out.br⟩
  simp only[cL,cK];refine cM (v:=rwV r) rfl (fun x hx=>cG 58 _ rfl ⟨W.heap.size+1,0,none⟩ rfl (rwL r) _ hx.2 underlying58 rfl (by kernel_rfl)) ?_;iterate 3 (apply sB rfl rfl;·(intro x h;(try have h:=h rfl);(try dsimp only at h);go_simp;with_reducible rfl))
  try simp only[pA]
  refine dC rfl (fun C hC=>?_);refine fT 58 _ _ rfl (W.heap.size+2) 0 58 _ _ (rwL r) rfl rfl d.out.drew.ba (by kernel_rfl) (by simp[Value.oneCell']) (by simp) rfl ?_;intro s b c2 b2;have a:=b.kept d.out.drew.br (by omega);refine hC _ _ ⟨cC a 1 _ rfl,cF a⟩ ?_;clear hC C;refine cD ?_;have B:=b.kept d.out.drew.bx (by omega);have f:=cB (aJW b2 B);have V:=cB ((d.out.drew.ch.nos:Chg (fun x=>x=W.heap.size+2) W _).trans b (fun _ _ h=>h));clear b c2 b2 a B m4 r1;(try simp only[pA]);go_wp2_with (first|(refine cH rfl 66 _ _ rfl (W.heap.size+3) 0 66 _ _ (mgL {zMg with kind:=5,base:=r.prom}) rfl rfl f.out.2 (by kernel_rfl) (by simp[Value.oneCell']) (by simp) rfl ?_;intro W6 c M u;refine cE ?_));have b3:=c.kept f.out.1 (by omega);have g:=cB (aJW b3 u);have N:Hid (Chg NoS W W6):=((V.out.mono (fun _ _ h=>Or.inl h):Chg (fun x=>x=W.heap.size+2∨x=W.heap.size+3) W s).trans c (fun _ _ h=>Or.inr h)).mono (fun x hx h=>by omega);clear c M u b3;refine cB ?_;go_wp2_with fail;exact bodyPost_ret (qT _ results169 _ (W.heap.size+2) (W.heap.size+3) r {zMg with kind:=5,base:=r.prom} false _ rfl rfl rfl g.out.1 g.out.2) rfl ⟨rfl,N.out⟩
 ·have hb:decide (m.bal<r.prom)=false:=by simpa using k
  by_cases F:m.kind=1
  ·obtain⟨q,hq⟩:=aJ7 (decide (r.prom<m.bal));have H:fA m r={r with prom:=m.bal}:=(if_neg k).trans (if_pos F);have I:decMsg m r={zMg with kind:=2,base:=r.acc,val:=aEe r}:=(if_neg k).trans (if_pos F);have J:nN m r=q:=by rw[hq];exact(if_neg k).trans (if_pos F)
   rw[H,I,J];have hk:(m.kind==1)=true:=by simp[F]
   have m0:=cC d.out.bm 0 _ rfl;have z1:=cV d.out.br 1;have b:=cZ W4 (W.heap.size+1) 1 (.int .i64 m.bal);have a:(W4.setCell ⟨W.heap.size+1,1,none⟩ (.int .i64 m.bal)).heap[W.heap.size+1]?=some (.cells (rwL {r with prom:=m.bal}).toArray 58 (0,0)):=cU d.out.br 1 (.int .i64 m.bal);have a9:=b.kept d.out.ba (by omega);have B:=b.kept d.out.bx (by omega);generalize A:W4.setCell ⟨W.heap.size+1,1,none⟩ (.int .i64 m.bal)=s at*;have S:=cB A;have HQ:=cB hq;have f:=cB (aJX a a9 B);have V:=cB ((d.out.ch.nos:Chg (fun x=>x=W.heap.size+1) W W4).trans b (fun _ _ h=>h));have r2:=cC a 2 _ rfl;clear H I J k F A b a a9 B hq;go_enter func169,ntmps169;go_wp2_with (first|rw[T.out]|rw[Z.out]|rw[U.out]|rw[Y.out]|rw[S.out]);clear p o t;rw[←HQ.out];refine rlx [1,0,1,0,1,0,0,2] (fun x=>x.cell? ⟨W.heap.size+1,2,none⟩=some (.int .i64 r.acc)∧(∀j y,(rwL {r with prom:=m.bal})[j]?=some y→x.cell? ((⟨W.heap.size+1,0,none⟩:Addr).add j)=some y)∧(∀j y,(vlL (aEe r))[j]?=some y→x.cell? ((⟨W.heap.size+1,3,none⟩:Addr).add j)=some y)) (by kernel_rfl) (fun _ _ _ _=>rfl) ?_ ?_
   ·exact⟨r2,cF (W:=s.drew) f.out.1,eW (W:=s.drew) f.out.1 3 _ (aEI {r with prom:=m.bal})⟩
   simp only[cL,cK];refine cM (v:=rwV {r with prom:=m.bal}) rfl (fun x hx=>cG 58 _ rfl ⟨W.heap.size+1,0,none⟩ rfl (rwL {r with prom:=m.bal}) _ hx.2.1 underlying58 rfl (by kernel_rfl)) ?_;iterate 3 (apply sB rfl rfl;·(intro x h;(try have h:=h rfl);(try dsimp only at h);go_simp;with_reducible rfl))
   try simp only[pA]
   refine cM (v:=vlV (aEe r)) rfl (fun x hx=>cG 56 _ rfl ⟨W.heap.size+1,3,none⟩ rfl (vlL (aEe r)) _ hx.2.2 underlying56 rfl (by kernel_rfl)) ?_;iterate 2 (apply sB rfl rfl;·(intro x h;(try have h:=h rfl);(try dsimp only at h);go_simp;with_reducible rfl))
   try simp only[pA]
   refine dC rfl (fun C hC=>?_);refine fT 58 _ _ rfl (W.heap.size+2) 0 58 _ _ (rwL {r with prom:=m.bal}) rfl rfl (show s.drew.heap[W.heap.size+2]?=_ from f.out.2.1) (by kernel_rfl) (by simp[Value.oneCell']) (by simp) rfl ?_;intro W6 c M u;have i:=c.kept (show s.drew.heap[W.heap.size+1]?=_ from f.out.1) (by omega);refine hC _ _ ⟨cC i 2 _ rfl,cF i,eW i 3 _ (aEI {r with prom:=m.bal})⟩ ?_;clear hC C;refine cD ?_;have b4:=c.kept (show s.drew.heap[W.heap.size+3]?=_ from f.out.2.2) (by omega);have g:=cB (aJW u b4);have N:=cB (((V.out.mono (fun _ _ h=>Or.inl h):Chg (fun x=>x=W.heap.size+1∨x=W.heap.size+2) W s).drew).trans c (fun _ _ h=>Or.inr h));clear c M u i b4 m4 r1 m0 z1 r2;(try simp only[pA]);go_wp2_with (first|(refine cH rfl 66 _ _ rfl (W.heap.size+3) 0 66 _ _ (mgL {zMg with kind:=2,base:=r.acc,val:=aEe r}) rfl rfl g.out.2 (by kernel_rfl) (by simp[Value.oneCell']) (by simp) rfl ?_;intro W7 n X w;refine cE ?_));have a5:=n.kept g.out.1 (by omega);have b1:=cB (aJW a5 w);have L:Hid (Chg NoS W W7):=((N.out.mono (fun _ _ h=>Or.inl h):Chg (fun x=>(x=W.heap.size+1∨x=W.heap.size+2)∨x=W.heap.size+3) W W6).trans n (fun _ _ h=>Or.inr h)).mono (fun x hx h=>by omega);clear n X w a5;refine cB ?_;go_wp2_with fail;exact bodyPost_ret (qT _ results169 _ (W.heap.size+2) (W.heap.size+3) {r with prom:=m.bal} {zMg with kind:=2,base:=r.acc,val:=aEe r} q _ rfl rfl rfl b1.out.1 b1.out.2) rfl ⟨rfl,L.out⟩
  ·have H:fA m r=⟨r.lock,m.bal,m.bal,m.val.own,m.val.tok,m.val.ttl,m.val.seq⟩:=(if_neg k).trans (if_neg F);have I:decMsg m r={zMg with kind:=4}:=(if_neg k).trans (if_neg F);have J:nN m r=true:=(if_neg k).trans (if_neg F);rw[H,I,J];have hk:(m.kind==1)=false:=by simp[F]
   have m0:=cC d.out.bm 0 _ rfl;clear H I J k F;go_enter func169,ntmps169;go_wp2_with (first|rw[T.out]|rw[Z.out]|rw[U.out]|rw[Y.out]);clear p o t;have HM:Hid (∀x,Chg (fun y=>y=W.heap.size+1) W4 x→x.cell? ⟨W.heap.size,4,none⟩=some (.int .i64 m.bal)∧∀j y,(vlL m.val)[j]?=some y→x.cell? ((⟨W.heap.size,6,none⟩:Addr).add j)=some y):=fun x hx=>by
    have hb:=hx.kept d.out.bm (by omega);exact⟨cC hb 4 _ rfl,eW hb 6 _ (aIB m)⟩
   refine rlx [0,1,0,1,0,1,0,2,0,2,0] (fun x=>x.cell? ⟨W.heap.size,4,none⟩=some (.int .i64 m.bal)∧∀j y,(vlL m.val)[j]?=some y→x.cell? ((⟨W.heap.size,6,none⟩:Addr).add j)=some y) (by kernel_rfl) (fun _ _ _ _=>rfl) ?_ ?_
   ·exact HM.out _ (Chg.refl _ W4).drew
   simp only[cL,cK];iterate 5 (apply sB rfl rfl;·(intro x h;(try have h:=h rfl);(try dsimp only at h);go_simp;with_reducible rfl))
   try simp only[pA]
   refine cM (v:=vlV m.val) rfl (fun x hx=>cG 56 _ rfl ⟨W.heap.size,6,none⟩ rfl (vlL m.val) _ hx.2 underlying56 rfl (by kernel_rfl)) ?_;iterate 1 (apply sB rfl rfl;·(intro x h;(try have h:=h rfl);(try dsimp only at h);go_simp;with_reducible rfl))
   try simp only[pA]
   have r1:=cC d.out.drew.br 1 _ rfl;have z1:=cV d.out.drew.br 1;have b:=cZ W4.drew (W.heap.size+1) 1 (.int .i64 m.bal);have a:(W4.drew.setCell ⟨W.heap.size+1,1,none⟩ (.int .i64 m.bal)).heap[W.heap.size+1]?=some (.cells (rwL {r with prom:=m.bal}).toArray 58 (0,0)):=cU d.out.drew.br 1 (.int .i64 m.bal);generalize A:W4.drew.setCell ⟨W.heap.size+1,1,none⟩ (.int .i64 m.bal)=s at*;have S:=cB A;have E:=b.of_drew;refine dC rfl (fun C hC=>?_);go_simp;try rw[S.out]
   refine hC _ _ (HM.out _ E) ?_;clear hC C;iterate 1 (apply sB rfl rfl;·(intro x h;(try have h:=h rfl);(try dsimp only at h);go_simp;with_reducible rfl))
   try simp only[pA]
   have r2:=cC a 2 _ rfl;have z2:=cV a 2;have c:=cZ s (W.heap.size+1) 2 (.int .i64 m.bal);have i:(s.setCell ⟨W.heap.size+1,2,none⟩ (.int .i64 m.bal)).heap[W.heap.size+1]?=some (.cells (rwL {r with prom:=m.bal,acc:=m.bal}).toArray 58 (0,0)):=cU a 2 (.int .i64 m.bal);generalize a4:s.setCell ⟨W.heap.size+1,2,none⟩ (.int .i64 m.bal)=W6 at*;have c5:=cB a4;have D:=E.trans c (fun _ _ h=>h);refine dC rfl (fun C hC=>?_);go_simp;try rw[c5.out]
   refine hC _ _ (HM.out _ D) ?_;clear hC C;iterate 1 (apply sB rfl rfl;·(intro x h;(try have h:=h rfl);(try dsimp only at h);go_simp;with_reducible rfl))
   refine cD ?_;try simp only[pA]
   have g:=cB i;have c0:=cB D;clear b a A E r1 z1 r2 z2 c i a4 D m4 m0;go_wp2_with (first|(refine cH rfl 56 _ _ rfl (W.heap.size+1) 3 58 _ _ (rwL ⟨r.lock,m.bal,m.bal,m.val.own,m.val.tok,m.val.ttl,m.val.seq⟩) rfl rfl g.out (by kernel_rfl) (by simp[Value.oneCell']) (by simp) rfl ?_;intro W7 n X w;refine cE ?_));have l:=c0.out.trans n (fun _ _ h=>h);have c4:=cB (cF w);have a2:=cB (aJW (l.kept d.out.ba (by omega)) (l.kept d.out.bx (by omega)));have L:=cB ((d.out.ch.nos:Chg (fun x=>x=W.heap.size+1) W W4).trans l (fun _ _ h=>h));clear n X w l;refine cB ?_;go_wp2_with (first|(refine cI rfl 58 _ rfl ⟨W.heap.size+1,0,none⟩ rfl (rwL ⟨r.lock,m.bal,m.bal,m.val.own,m.val.tok,m.val.ttl,m.val.seq⟩) _ c4.out underlying58 rfl (by kernel_rfl) ?_)|(refine cH rfl 58 _ _ rfl (W.heap.size+2) 0 58 _ _ (rwL ⟨r.lock,m.bal,m.bal,m.val.own,m.val.tok,m.val.ttl,m.val.seq⟩) rfl rfl a2.out.1 (by kernel_rfl) (by simp[Value.oneCell']) (by simp) rfl ?_;intro W8 R c3 b5;refine cE ?_));have a0:=R.kept a2.out.2 (by omega);have b0:=cB (aJW b5 a0);have c6:=cB ((L.out.mono (fun _ _ h=>Or.inl h):Chg (fun x=>x=W.heap.size+1∨x=W.heap.size+2) W W7).trans R (fun _ _ h=>Or.inr h));clear R c3 b5 a0;refine cB ?_;go_wp2_with (first|(refine cH rfl 66 _ _ rfl (W.heap.size+3) 0 66 _ _ (mgL {zMg with kind:=4}) rfl rfl b0.out.2 (by kernel_rfl) (by simp[Value.oneCell']) (by simp) rfl ?_;intro W9 P c7 a3;refine cE ?_));have b7:=P.kept b0.out.1 (by omega);have a7:=cB (aJW b7 a3)
   have c1:Hid (Chg NoS W W9):=((c6.out.mono (fun _ _ h=>Or.inl h):Chg (fun x=>(x=W.heap.size+1∨x=W.heap.size+2)∨x=W.heap.size+3) W W8).trans P (fun _ _ h=>Or.inr h)).mono (fun x hx h=>by omega);clear P c7 a3 b7;refine cB ?_;go_wp2_with fail;exact bodyPost_ret (qT _ results169 _ (W.heap.size+2) (W.heap.size+3) ⟨r.lock,m.bal,m.bal,m.val.own,m.val.tok,m.val.ttl,m.val.seq⟩ {zMg with kind:=4} true _ rfl rfl rfl a7.out.1 a7.out.2) rfl ⟨rfl,c1.out⟩
end
section
open Go.RowKit Go.Maps
theorem aG8{W:World}{tb:Nat}{rs:List Rw}(h:zQ W tb rs)(ty:TypeId):∃W',(Builtin.clear_ #[118] ty #[.map (some tb)]).run prog W= .ok (.tuple #[]) W'∧zQ W' tb []∧Chg (fun x=>x=tb) W W'∧W'.heap.size=W.heap.size:=by
 obtain⟨c,a,b,_⟩:=h;refine⟨ChangeMaps.setBlock W tb (.map #[] a),?_,⟨#[],a,jB b _,⟨by simp,MapKept.stamped_empty a,by simp⟩,by simp,rfl⟩,iO _ _ _,by simp[ChangeMaps.setBlock]⟩;simp[Builtin.clear_,aT,run_underlying underlying118,MapKept.run_getObj_map b,MapKept.run_setObj_map _ b,Result.andThen,ChangeMaps.setBlock]
structure aF3(k:Dk):Prop where
 y0:0≤(eM k).2
 y1:(eM k).2≤((eM k).1.length:Int)
 l1:((eM k).1.length:Int)≤1000000000000
section
variable (W:World) (F G:Nat→Prop) (b g:Nat) (av cv:Value) (a:Ac) (net:List Mg) (tr:List Ev)
theorem sZ(q:Int)(h:ASys W F G b g av cv a net tr)(hk:aF3 a.dk)(hq:0≤q)(hn:net.length≤100000000000)(ht:tr.length≤100000000000):
 Calls prog 128 #[.pointer (some ⟨b,0,none⟩),.int .i64 q] W fun r W'=>r= .returned (.tuple #[])∧AfterA W F G b g av cv (crashA a q) net (tr++[gD a.num]) W':=by
 have HS:=cB h;obtain⟨FD,d,i,I,y,o⟩:=h.acc;have c2:=I.cell 2 _ rfl;have J:=cB (aJX I y o);have v:=cB (aDW W FD d a.dk q I.disk hk.y0 hk.y1 hk.l1 hq);clear I y o h hk;go_enter func128,ntmps128;go_wp2_with (first|(go_at_call 166;refine v.out.mono ?_;rintro e U ⟨rfl,u⟩;refine cE ?_));obtain⟨z,X,c,H,Y,T,_,D⟩:=J.out.1.to J.out.2.1 J.out.2.2 u;have c3:=c.cell 3 _ rfl;obtain⟨_,_,V⟩:=dM c.table;have HK:Hid (∀f,zQ f i []→Chg (fun x=>x=i) U f→∀W3,Chg (fun x=>x=b) f W3→W3.heap[b]?=some (.cells (acL (crashA a q) d i g).toArray 162 (0,0))→∃F',ASys W3 F' G b g av cv (crashA a q) net tr∧Went W W3 F F' G G):=fun f l j W3 k3 m=>by
  have Q:=j.kept c.blk (fun e=>dT c.blk V (by simp) e);have n:Disk f z d (gC a.dk q):=c.disk.of_heap j.size (fun x hx=>j.block x (c.disk.lt x hx) (fun e=>c.ntb (e▸hx)));have M:=n.of_heap k3.size (fun x hx=>k3.block x (n.lt x hx) (fun e=>c.nb (e▸hx)));obtain⟨_,_,o2⟩:=dM l;have S:zQ W3 i []:=dE l (k3.block _ l.lt (fun e=>dT Q o2 (by simp) e.symm));have C:Acc W3 X b g (crashA a q):=⟨z,d,i,⟨m,M,S,c.nb,c.ntb⟩,H,fun x hx=>aG (Y x hx) (bU j.size k3.size)⟩;refine HS.out.went ⟨X,C,(T.trans j (fun x hx e=>?_)).trans k3 (fun x hx e=>?_),D⟩
  ·subst e;rcases D _ (H _ (Or.inr (Or.inr rfl)))with h|h
   ·exact h
   ·omega
  ·subst e;rcases D _ (H _ (Or.inr (Or.inl rfl)))with h|h
   ·exact h
   ·omega
 have P:=cB (fun ty=>aG8 c.table ty);have k:=cB (aJW c.blk V);clear c H Y T D u c2;refine cB ?_;go_wp2_with (first|(refine nZ rfl 118 _ rfl (.map (some i)) rfl (fun w=>zQ w i []∧Chg (fun x=>x=i) U w) (by obtain⟨w,g1,g2,g3,_⟩:=P.out _;exact⟨w,g1,g2,g3⟩) ?_;rintro f ⟨l,j⟩;refine cE ?_));have E:=j.kept k.out.1 (fun e=>dT k.out.1 k.out.2 (by simp) e);have d4:=cC E 4 _ rfl;have z4:=cV E 4;have B:=cZ f b 4 (.int .i64 2);have m:(f.setCell ⟨b,4,none⟩ (.int .i64 2)).heap[b]?=some (.cells (acL (crashA a q) d i g).toArray 162 (0,0)):=cU E 4 (.int .i64 2);generalize A:f.setCell ⟨b,4,none⟩ (.int .i64 2)=W3 at*;have K:=cB A;obtain⟨Z,p,t⟩:=HK.out f l j W3 B m;have e5:=cC m 5 _ rfl;have e0:=cC m 0 _ rfl;have R:=cB (oH W3.drew Z G b g av cv (crashA a q) net tr (gD a.num) p.drew hn ht);have N:=cB t;clear p t A B m l j E c3 v;refine cB ?_;go_wp2_with (first|rw[K.out]);clear d4 z4;refine dJ [0,0,0,1,0,0,0,1,0] (by kernel_rfl) (fun _ _ _ _=>rfl) ?_;simp only[cL,cK];iterate 9 (apply sB rfl rfl;·(intro x h;(try cases h rfl);go_simp;with_reducible rfl))
 refine cD ?_;try simp only[pA]
 go_wp2_with fail;refine R.out.mono ?_;rintro r W4 ⟨rfl,G4,s,O,L⟩;go_wp2_with fail
 (first|go_end0|((try simp only[Exit.inBlock,Exit.then]);refine bodyPost_ret (results_none rfl _ _ _) rfl ?_))
 rw[fH _ (show(4:Int)≠1 by decide),aC]at s;refine⟨rfl,Z,G4,s,N.out.trans ⟨O.of_drew.mono (fun _ _ h=>Or.inr h),fun _ h=>Or.inl h,L⟩⟩
theorem aFb(n q:Int)(h:ASys W F G b g av cv a net tr)(hk:aF3 a.dk)(hq:0≤q)(hn:net.length≤100000000000)(ht:tr.length≤100000000000):
 Calls prog 87 #[.pointer (some ⟨b,0,none⟩),.int .i64 n,.int .i64 q] W fun r W'=>r= .returned (.int .i64 (aCt a))∧AfterA W F G b g av cv (qM a n q) net (tr++qH a n) W':=by
 have x:=cB h;obtain⟨N,d,E,o,i,f⟩:=h.acc;have O:=o.cell 4 _ rfl;by_cases c:a.st=2
 ·have l:aCt a=2:=if_pos c;have k:qM a n q=a:=if_pos c;have m:qH a n=[]:=if_pos c;rw[l,k,m,aC];have z:(a.st==2)=true:=by simp[c]
  clear l k m c o i f h hk;go_enter func87,ntmps87;go_wp2_with fail;go_ret;exact⟨rfl,F,G,x.out,Went.refl _ _ _⟩
 ·have z:(a.st==2)=false:=by simp[c]
  by_cases j:n=0
  ·have l:aCt a=0:=if_neg c;have k:qM a n q=crashA a q:=(if_neg c).trans (if_pos j);have m:qH a n=[gD a.num]:=(if_neg c).trans (if_pos j);rw[l,k,m];have u:(n==0)=true:=by simp[j]
   have w:=cB (sZ W F G b g av cv a net tr q h hk hq hn ht);clear l k m c j o i f h hk;go_enter func87,ntmps87;go_wp2_with (go_at_call 128;refine w.out.mono ?_;rintro e D ⟨rfl,y⟩);go_ret;exact⟨rfl,y⟩
  ·have l:aCt a=0:=if_neg c;have k:qM a n q={a with dk:={a.dk with fail:=some (n,q)}}:=(if_neg c).trans (if_neg j);have m:qH a n=[]:=(if_neg c).trans (if_neg j);rw[l,k,m,aC];have u:(n==0)=false:=by simp[j]
   have s:=cB (aEZ W N d a.dk n q o.disk);have P:=o.cell 2 _ rfl;have p:=cB (aJX o i f);clear l k m c j o i f h hk;go_enter func87,ntmps87;go_wp2_with (go_at_call 133;refine s.out.mono ?_;rintro e D ⟨rfl,t⟩);go_ret;obtain⟨v,I,L,K,M,C,_,B⟩:=p.out.1.to p.out.2.1 p.out.2.2 t;obtain⟨A,J,H⟩:=x.out.went ⟨I,⟨v,d,E,L,K,M⟩,C,B⟩;exact⟨rfl,A,G,J,H⟩
end
end
section
open Go.RowKit Go.Maps
theorem aAv(pa pe:Nat)(w:World):
 CallsD prog 127 #[.pointer (some ⟨pa,0,none⟩),.pointer (some ⟨pe,0,none⟩)] .returning w fun e u' w'=>e= .returned (.tuple #[])∧u'= .returning∧w'=w:=by
 refine callsD_of_wpS func127 rfl fun c₀ cs hu=>?_;apply wpS_seq;apply wpS_region;simp[wpOpsS,go_sem,recoverD,hu,ntmps127,Exit.thenS];refine wpS_of_wp ?_;go_wp2;cases c₀;simp_all [bodyPostS,results,results127]
theorem aAy(q:Int)(w:World):(Instr.typeAssert (.iface 199 (.agg #[.int .i64 q])) 20 199 true).run prog w= .ok (.tuple #[.agg #[.int .i64 q],.bool true]) w:=by
 simp[Instr.typeAssert,run_underlying underlying199]
theorem aES(pa pe:Value)(x:Value):(#[pa,pe]++(Array.replicate 13 undef).setIfInBounds 3 x:Array Value)=#[pa,pe,undef,undef,undef,x,undef,undef,undef,undef,undef,undef,undef,undef,undef]:=by
 rfl
theorem aE6(W:World)(F G:Nat→Prop)(b g:Nat)(av cv:Value)(a:Ac)(net:List Mg)(tr:List Ev)(q:Int)(pa pe:Nat)(h:ASys W F G b g av cv a net tr)(hk:aF3 a.dk)(hq:0≤q)(hn:net.length≤100000000000)(ht:tr.length≤100000000000)
 (ha:W.heap[pa]?=some (.cells #[.pointer (some ⟨b,0,none⟩)] 114 (0,0))) (he:W.heap[pe]?=some (.cells #[.int .i64 0] 48 (0,0))) (hpF:¬F pe) (hpG:¬G pe):
 CallsD prog 127 #[.pointer (some ⟨pa,0,none⟩),.pointer (some ⟨pe,0,none⟩)] (.panicking (pI q)) W fun e u' w'=>e= .returned (.tuple #[])∧u'= .panicking [{v:=.iface 199 (.agg #[.int .i64 q]),recovered:=true}]∧
  ∃W1,AfterA W F G b g av cv (crashA a q) net (tr++[gD a.num]) W1∧W1.heap[pe]?=W.heap[pe]?∧w'=W1.setCell ⟨pe,0,none⟩ (.int .i64 6):=by
 have hta:=aAy q;have hc1:Chg NoS W (W.alloc (.cells #[.int .i64 q] 199)):=(Chg.refl _ _).alloc _;have hb1:=aA W (.cells #[.int .i64 q] 199);have a1:=cX (.cells #[.int .i64 q] 199) ha;have e1:=cX (.cells #[.int .i64 q] 199) he;have hpe:=cW he;have h1:=h.kept hc1 (fun _ _ h=>h) (fun _ _ h=>h);have hs1:(W.alloc (.cells #[.int .i64 q] 199)).heap.size=W.heap.size+1:=by simp
 generalize hX1:W.alloc (.cells #[.int .i64 q] 199)=W1 at*;have HX1:=cB hX1;have k0:W1.cell? ⟨pa,0,none⟩=some (.pointer (some ⟨b,0,none⟩)):=cC a1 0 _ rfl;have k1:W1.cell? ⟨W.heap.size,0,none⟩=some (.int .i64 q):=cC hb1 0 _ rfl;have HCR:=cB (sZ W1 F G b g av cv a net tr q h1 hk hq hn ht);have HC1:=cB hc1;have HS1:=cB hs1;have HE1:=cB e1;have HE:=cB he;have HH:=cB h;have HPE:=cB hpe;clear hX1 hc1 hb1 a1 e1 h1 hs1 ha he h hk hn ht hpe;refine callsD_of_wpS func127 rfl fun c₀ cs hu=>?_;apply wpS_seq;apply wpS_region;simp[wpOpsS,go_sem,recoverD,hu,ntmps127,Exit.thenS];refine wpS_of_wp ?_;try rw[aES]
 go_wp2_with (first|rw[HX1.out]|(go_at_call 128;refine HCR.out.mono ?_;rintro e w2 ⟨rfl,haf⟩;have HAF:=cB haf;clear haf;refine cE ?_));refine cB ?_;have hpe2:w2.heap[pe]?=W1.heap[pe]?:=by
  obtain⟨F',G',_,hw⟩:=HAF.out;exact hw.chg.block pe (by have:=HS1.out;have:=HPE.out;omega) (fun h=>h.elim hpF hpG)
 have e2:=hpe2.trans HE1.out;have f2:=cV e2 0;have g2:=cC e2 0 _ rfl;have HE2:=cB (hpe2.trans (HE1.out.trans HE.out.symm));clear hpe2 e2;go_wp2;cases c₀;simp_all [bodyPostS,results,results127];exact⟨w2,AfterA.trans ⟨HC1.out.mono (fun _ _ h=>h.elim),fun _ h=>Or.inl h,fun _ h=>Or.inl h⟩ HAF.out,HE2.out,rfl⟩
end
end Go.Proofs.YtbbdgokdfhdpiaaGreatDoor
