/- A part of the proof: PTake, PErr2, PAc5, PAc7, PTk1. -/
import Derived.Defers
import Derived.LaidEql
import Derived.Recover
import Derived.RowKitTokens
import Derived.Stop.Asserts
import Derived.Test.YtbbdgokdfhdpiaaGreatDoorB12
namespace Go.Proofs.YtbbdgokdfhdpiaaGreatDoor
set_option linter.all false
set_option maxRecDepth 100000
set_option maxHeartbeats 40000000
open Go.Proofs.Tryz Go.RowKit
theorem aF5(a b:Int):(if a<b then b else a)=max a b:=by
 split<;>omega
theorem aDK(W:World)(F G:Nat→Prop)(b g:Nat)(f:Cf)(av cv:Value)(c:Ct)(net:List Mg)(tr:List Ev)(m:Mg)(h:Sys W F G b g f av cv c net tr)(hf1:1≤f.f)(hf2:f.f≤2)(hdr1:0≤f.drift)(hdr2:f.drift≤10)(hc:vU c)(hvm:zF m.val)(hmb1:0≤m.base)(hmb2:m.base≤256255)(hmk:m.kind≠0)
 (ho:∀o,c.doing=some o→aCp o∧zF o.att.val∧o.mine.length≤100000000000∧o.att.ans.length≤100000000000) (hw:∀l,0≤(c.wat l).since∧(c.wat l).since≤100000000000) (hn:net.length≤99999999990) (ht:tr.length≤99999999990):
 Calls prog 86 #[.pointer (some ⟨b,0,none⟩),mgV m] W fun r W'=>r= .returned (.tuple #[])∧After W F G b g f av cv (gO f c m) (net++cG (gP f c m)) (tr++gP f c m) W':=by
 generalize A:W.alloc (.cells #[.int .i64 m.kind,.int .i64 m.src,.int .i64 m.dst,.int .i64 m.lock,.int .i64 m.bal,.int .i64 m.base,.int .i64 m.val.own,.int .i64 m.val.tok,.int .i64 m.val.ttl,.int .i64 m.val.seq] 66)=W0;have z:=bZ A;have K:Chg NoS W W0:=by rw[←A];exact(Chg.refl _ _).alloc _
 have N:W0.heap[W.heap.size]?=some (.cells (mgL m).toArray 66 (0,0)):=by rw[←A];exact aA W _
 have p:=bZ (h.kept K (fun _ _ h=>h) (fun _ _ h=>h));have J:=bZ N;have d:Hid (Went W W0 F F G G):=⟨K.mono (fun _ _ h=>h.elim),fun _ h=>Or.inl h,fun _ h=>Or.inl h⟩;have t:=p.out.cl;obtain⟨ch,tk,a9,wt,dv,t⟩:=t;have U:∀q,c.up=q→Hid (∀x,x=W0.drew→Calls prog 90 #[.pointer (some ⟨b,0,none⟩)] x fun e w'=>e= .returned (.bool q)∧w'=x):=fun q e x hx=>by
  subst hx;subst e;exact uK W0.drew b ch c.up (t.cell 9 _ rfl) t.chan
 have b5:=t.cell 16 _ rfl;have x4:=cA N 4 _ rfl;have i:=bZ (aHS hc hvm hw);have D:=bZ t;clear A K N h hc hvm hw;cases hu:c.up
 ·have u:gO f c m=c:=by unfold gO;rw[if_pos hu]
  have w:gP f c m=[]:=by unfold gP;rw[if_pos hu]
  rw[u,w,fC,aC,aC];clear u w;have y:=U _ hu;clear U hu ho t;go_enter func86,ntmps86;go_wp2_with (rw[z.out]);refine dX [0,1,0,0,0,0,0,1,0,0,0,0,1,0,0,0,1,0,0,0,1,0,0] (by kernel_rfl) (fun _ _ _ _=>rfl) ?_;simp only[cL,cK];iterate 1 (apply sB rfl rfl;·(intro x h;(try cases h rfl);go_simp;with_reducible rfl))
  try simp only[pA]
  refine dA (v:=.bool false) (f:=90) (args:=#[.pointer (some ⟨b,0,none⟩)]) rfl (fun x hx=>by subst hx;go_simp;try rfl) (fun x hx=>y.out x hx) ?_;(try simp only[pA]);iterate 21 ((try simp only[pA]);first|(apply sB rfl rfl;·(intro x h;(try cases h rfl);go_simp;with_reducible rfl))|apply dT rfl|apply dM rfl)
  refine cB ?_;try simp only[pA]
  go_wp2_with fail
  ((try simp only[Exit.inBlock,Exit.then]);refine bodyPost_ret (results_none rfl _ _ _) rfl ?_)
  exact⟨rfl,F,G,p.out.drew,⟨d.out.chg.drew,d.out.f,d.out.g⟩⟩
 ·have y:=U _ hu;clear U;have B:=t.doing;clear t;cases hd:c.doing with
  |none=>
   rw[hd]at B;obtain rfl:dv= .pointer none:=B;have u:gO f c m=c:=by unfold gO;rw[if_neg (by simp[hu]),hd]
   have w:gP f c m=[]:=by unfold gP;rw[if_neg (by simp[hu]),hd]
   rw[u,w,fC,aC,aC];clear u w;clear hu hd ho;go_enter func86,ntmps86;go_wp2_with (rw[z.out]);refine dX [0,1,0,0,0,0,0,1,0,0,0,0,1,0,0,0,1,0,0,0,1,0,0] (by kernel_rfl) (fun _ _ _ _=>rfl) ?_;simp only[cL,cK];iterate 1 (apply sB rfl rfl;·(intro x h;(try cases h rfl);go_simp;with_reducible rfl))
   try simp only[pA]
   refine dA (v:=.bool true) (f:=90) (args:=#[.pointer (some ⟨b,0,none⟩)]) rfl (fun x hx=>by subst hx;go_simp;try rfl) (fun x hx=>y.out x hx) ?_;(try simp only[pA]);iterate 21 ((try simp only[pA]);first|(apply sB rfl rfl;·(intro x h;(try cases h rfl);go_simp;with_reducible rfl))|apply dT rfl|apply dM rfl)
   refine cB ?_;try simp only[pA]
   go_wp2_with fail
   ((try simp only[Exit.inBlock,Exit.then]);refine bodyPost_ret (results_none rfl _ _ _) rfl ?_)
   exact⟨rfl,F,G,p.out.drew,⟨d.out.chg.drew,d.out.f,d.out.g⟩⟩
  |some o=>
   rw[hd]at B;obtain⟨ob,an,mv,rfl,L,Z⟩:=B;obtain⟨T,a2,a5,a0⟩:=ho o hd;have o5:=cA L.1 5 _ rfl;have a4:=bZ L;clear L Z;by_cases a:m.bal=o.att.bal
   ·have a8:(m.bal !=o.att.bal)=false:=by simp[a]
    have x0:=cA J.out 0 _ rfl;by_cases j:m.kind=5
    ·have a3:(m.kind==5)=true:=by simp[j]
     have u:gO f c m=jM f {c with round:=max c.round (m.base / 256)} o:=by unfold gO;rw[if_neg (by simp[hu]),hd];exact(if_neg (by simp[a])).trans (if_pos j)
     have w:gP f c m=jC f {c with round:=max c.round (m.base / 256)} o:=by unfold gP;rw[if_neg (by simp[hu]),hd];exact(if_neg (by simp[a])).trans (if_pos j)
     rw[u,w];clear u w;have HD:=bZ hd;clear hu hd ho a j hmk;have Y:=D.out.cell 12 _ rfl;have x5:=cA J.out 5 _ rfl;obtain⟨M,V⟩:=aH2 (max c.round (m.base / 256));rw[←V];have HM:=bZ V;clear V;have b2:m.base.tdiv 256=m.base / 256:=Int.tdiv_eq_ediv_of_nonneg hmb1;have b4:IntKind.i64.wrap (m.base / 256)=m.base / 256:=eN (by omega) (by omega);go_enter func86,ntmps86;go_wp2_with (rw[z.out]);refine dX [0,1,0,0,0,0,0,1,0,0,0,0,1,0,0,0,1,0,0,0,1,0,0] (by kernel_rfl) (fun _ _ _ _=>rfl) ?_;simp only[cL,cK];iterate 1 (apply sB rfl rfl;·(intro x h;(try cases h rfl);go_simp;with_reducible rfl))
     try simp only[pA]
     refine dA (v:=.bool true) (f:=90) (args:=#[.pointer (some ⟨b,0,none⟩)]) rfl (fun x hx=>by subst hx;go_simp;try rfl) (fun x hx=>y.out x hx) ?_;(try simp only[pA]);iterate 21 ((try simp only[pA]);first|(apply sB rfl rfl;·(intro x h;(try cases h rfl);go_simp;with_reducible rfl))|apply dT rfl|apply dM rfl)
     refine cB ?_;try simp only[pA]
     go_wp2_with fail;refine dX [0,0,0,0,1,0,1,0,0,0,0] (by kernel_rfl) (fun _ _ _ _=>rfl) ?_;simp only[cL,cK];iterate 11 (apply sB rfl rfl;·(intro x h;(try cases h rfl);go_simp;with_reducible rfl))
     refine cB ?_;try simp only[pA]
     try rw[aF5]
     rw[←HM.out];generalize C:W0.drew.drew=Wd at*;have n:=C▸D.out.kept (S:=NoS) (Chg.refl _ _).drew.drew (fun _ _ h=>h);have I:=C▸p.out.drew.drew.nt;have R:Went W Wd F F G G:=C▸⟨d.out.chg.drew.drew,d.out.f,d.out.g⟩;clear C;have b1:=n.cell 12 _ rfl;have b3:=n.froz 12;have O:=cZ Wd b 12 (.int .i64 M);have H:=n.cells O {c with round:=M} (.pointer (some ⟨ob,0,none⟩)) rfl rfl rfl rfl (cP n.blk 12 _) (n.doing.kept n.blk (by decide) (by decide) O);have E:=I.kept O (fun k hk e=>p.out.apart b D.out.fb (e▸hk));have P:=R.trans (⟨O.mono (fun k _ e=>Or.inl (e▸D.out.fb)),fun _ h=>Or.inl h,fun _ h=>Or.inl h⟩:Went Wd (Wd.setCell ⟨b,12,none⟩ (.int .i64 M)) F F G G);generalize Q:Wd.setCell ⟨b,12,none⟩ (.int .i64 M)=W4 at*;have b0:=bZ Q;have a7:=bZ P;have HE:Hid (Calls prog 131 #[.pointer (some ⟨b,0,none⟩)] W4 fun r W'=>r= .returned (.tuple #[])∧After W4 F G b g f av cv (jM f {c with round:=M} o) (net++cG (jC f {c with round:=M} o)) (tr++jC f {c with round:=M} o) W'):=
      qL W4 F G b g f av cv {c with round:=M} o net tr ⟨⟨ch,tk,a9,wt,_,H⟩,E,p.out.apart⟩ HD.out hf1 hf2 (by rw[HM.out];exact⟨i.out.1.n1,i.out.1.n2,i.out.1.i1,i.out.1.i2,i.out.1.c1,i.out.1.c2,by have:=i.out.1.r1;show 0≤max c.round (m.base / 256);omega,by have:=i.out.1.r2;show max c.round (m.base / 256)≤1000;omega⟩) T hn ht
     clear Q n I R O H E P Y x5;go_wp2_with (first|rw[b0.out]|(go_at_call 131;refine HE.out.mono ?_;rintro r W5 ⟨rfl,X⟩));go_end0;exact⟨rfl,After.trans a7.out X⟩
    ·have a3:(m.kind==5)=false:=by simp[j]
     have o7:=cA a4.out.1 7 _ rfl;by_cases s:m.kind=o.att.awaited
     ·have a1:(m.kind==o.att.awaited)=true:=by simp[s]
      have u:gO f c m=iQ f c o m:=by unfold gO;rw[if_neg (by simp[hu]),hd];exact((if_neg (by simp[a])).trans (if_neg j)).trans (if_pos s)
      have w:gP f c m=iV f c o m:=by unfold gP;rw[if_neg (by simp[hu]),hd];exact((if_neg (by simp[a])).trans (if_neg j)).trans (if_pos s)
      rw[u,w];clear u w;have HC:Hid (Calls prog 132 #[.pointer (some ⟨b,0,none⟩),mgV m] W0.drew fun r W'=>r= .returned (.tuple #[])∧After W0.drew F G b g f av cv (iQ f c o m) (net++cG (iV f c o m)) (tr++iV f c o m) W'):=
       aDR W0.drew F G b g f av cv c o net tr m p.out.drew hd hf1 hf2 hdr1 hdr2 i.out.1 T a2 i.out.2.1 (fun e=>hmk (s.trans e)) a5 i.out.2.2 a0 hn ht
      have a6:=bZ (cD (W:=W0.drew) J.out);clear hu hd ho a j s hmk;go_enter func86,ntmps86;go_wp2_with (rw[z.out]);refine dX [0,1,0,0,0,0,0,1,0,0,0,0,1,0,0,0,1,0,0,0,1,0,0] (by kernel_rfl) (fun _ _ _ _=>rfl) ?_;simp only[cL,cK];iterate 1 (apply sB rfl rfl;·(intro x h;(try cases h rfl);go_simp;with_reducible rfl))
      try simp only[pA]
      refine dA (v:=.bool true) (f:=90) (args:=#[.pointer (some ⟨b,0,none⟩)]) rfl (fun x hx=>by subst hx;go_simp;try rfl) (fun x hx=>y.out x hx) ?_;(try simp only[pA]);iterate 21 ((try simp only[pA]);first|(apply sB rfl rfl;·(intro x h;(try cases h rfl);go_simp;with_reducible rfl))|apply dT rfl|apply dM rfl)
      refine cB ?_;try simp only[pA]
      go_wp2_with (first|(refine cI rfl 66 _ rfl ⟨W.heap.size,0,none⟩ rfl (mgL m) _ a6.out underlying66 rfl (by kernel_rfl) ?_)|(go_at_call 132;refine HC.out.mono ?_;rintro r W5 ⟨rfl,X⟩));go_end0;exact⟨rfl,After.trans d.out X.drew⟩
     ·have a1:(m.kind==o.att.awaited)=false:=by simp[s]
      have u:gO f c m=c:=by unfold gO;rw[if_neg (by simp[hu]),hd];exact((if_neg (by simp[a])).trans (if_neg j)).trans (if_neg s)
      have w:gP f c m=[]:=by unfold gP;rw[if_neg (by simp[hu]),hd];exact((if_neg (by simp[a])).trans (if_neg j)).trans (if_neg s)
      rw[u,w,fC,aC,aC];clear u w;clear hu hd ho a j s;go_enter func86,ntmps86;go_wp2_with (rw[z.out]);refine dX [0,1,0,0,0,0,0,1,0,0,0,0,1,0,0,0,1,0,0,0,1,0,0] (by kernel_rfl) (fun _ _ _ _=>rfl) ?_;simp only[cL,cK];iterate 1 (apply sB rfl rfl;·(intro x h;(try cases h rfl);go_simp;with_reducible rfl))
      try simp only[pA]
      refine dA (v:=.bool true) (f:=90) (args:=#[.pointer (some ⟨b,0,none⟩)]) rfl (fun x hx=>by subst hx;go_simp;try rfl) (fun x hx=>y.out x hx) ?_;(try simp only[pA]);iterate 21 ((try simp only[pA]);first|(apply sB rfl rfl;·(intro x h;(try cases h rfl);go_simp;with_reducible rfl))|apply dT rfl|apply dM rfl)
      refine cB ?_;try simp only[pA]
      go_wp2_with fail;go_end0;exact⟨rfl,F,G,p.out.drew,⟨d.out.chg.drew,d.out.f,d.out.g⟩⟩
   ·have a8:(m.bal !=o.att.bal)=true:=by simp[a]
    have u:gO f c m=c:=by unfold gO;rw[if_neg (by simp[hu]),hd];exact if_pos a
    have w:gP f c m=[]:=by unfold gP;rw[if_neg (by simp[hu]),hd];exact if_pos a
    rw[u,w,fC,aC,aC];clear u w;clear hu hd ho a;go_enter func86,ntmps86;go_wp2_with (rw[z.out]);refine dX [0,1,0,0,0,0,0,1,0,0,0,0,1,0,0,0,1,0,0,0,1,0,0] (by kernel_rfl) (fun _ _ _ _=>rfl) ?_;simp only[cL,cK];iterate 1 (apply sB rfl rfl;·(intro x h;(try cases h rfl);go_simp;with_reducible rfl))
    try simp only[pA]
    refine dA (v:=.bool true) (f:=90) (args:=#[.pointer (some ⟨b,0,none⟩)]) rfl (fun x hx=>by subst hx;go_simp;try rfl) (fun x hx=>y.out x hx) ?_;(try simp only[pA]);iterate 21 ((try simp only[pA]);first|(apply sB rfl rfl;·(intro x h;(try cases h rfl);go_simp;with_reducible rfl))|apply dT rfl|apply dM rfl)
    refine cB ?_;try simp only[pA]
    go_wp2_with fail
    ((try simp only[Exit.inBlock,Exit.then]);refine bodyPost_ret (results_none rfl _ _ _) rfl ?_)
    exact⟨rfl,F,G,p.out.drew,⟨d.out.chg.drew,d.out.f,d.out.g⟩⟩
section
open Go.RowKit Go.Extern.Stop Go.Stop Go.Extern
theorem aDP(t:Addr)(w:World):(ReflectliteValue.unpack (.iface 237 (.pointer (some t)))).run prog w
 = .ok (.agg #[.pointer (some ⟨2,237,none⟩),.pointer (some ⟨w.heap.size,0,none⟩),.int .u64 150]) (w.alloc (.cells #[.pointer (some t)] 237)):=by kernel_rfl
theorem aHf(a:Addr)(w:World):(ReflectliteValue.methodAny (ReflectliteValue.valueError "reflectlite.Value.Type" 0) (fun t _ _ _=>ReflectliteType.toType t) #[.agg #[.pointer (some ⟨2,237,none⟩),.pointer (some a),.int .u64 150]]).run prog w
 = .ok (.iface 295 (.agg #[.pointer (some ⟨2,237,none⟩)])) w:=by kernel_rfl
theorem aBY(h:Value)(w:World):(Go.method 457 295 (.agg #[h]) "Kind").run prog w= .ok (261,h) w:=by kernel_rfl
theorem aHp(w:World):((ReflectliteType.abiMethod fun t=>Functor.map (fun a:Nat=>Value.int IntKind.u8 (a:Int)) (Rtype.kind t)) #[.pointer (some ⟨2,237,none⟩)]).run prog w= .ok (.int .u8 22) w:=by kernel_rfl
theorem aHL(w:World):((ReflectliteType.abiMethod fun t=>Functor.map (fun a:Nat=>Value.int IntKind.u8 (a:Int)) (Rtype.kind t)) #[.pointer (some ⟨2,234,none⟩)]).run prog w= .ok (.int .u8 22) w:=by kernel_rfl
theorem rlm(z:Sem Value)(f:TypeId→Addr→Nat→Nat→Sem Value)(v:Value):
 ReflectliteValue.method z f #[v]=(ReflectliteValue.parts v>>=fun o=>match o with|none=>z|some (t,a,fl)=>f t a fl (fl % 32)):=rfl
theorem aC0(a:Addr)(w:World):(ReflectliteValue.parts (.agg #[.pointer (some ⟨2,237,none⟩),.pointer (some a),.int .u64 150])).run prog w= .ok (some (237,a,150)) w:=by kernel_rfl
theorem aF0(a p:Addr)(W:World)(ha:W.cell? a=some (.pointer (some p))):
 (ReflectliteValue.method (ReflectliteValue.valueError "reflectlite.Value.IsNil" 0) ReflectliteValue.isNil #[.agg #[.pointer (some ⟨2,237,none⟩),.pointer (some a),.int .u64 150]]).run prog W= .ok (.bool false) W:=by
 rw[rlm];simp only[aT,aC0,Result.andThen];simp[ReflectliteValue.isNil,loadVar,isAgg,underlying,underlying237,ha,Result.andThen]
section
variable (h:Value) (w:World)
theorem aCh:(Go.method 457 295 (.agg #[h]) "Elem").run prog w= .ok (272,.agg #[h]) w:=by kernel_rfl
theorem uT:(Go.method 457 295 (.agg #[h]) "Implements").run prog w= .ok (273,.agg #[h]) w:=by kernel_rfl
theorem sA:(Go.method 457 295 (.agg #[h]) "AssignableTo").run prog w= .ok (270,.agg #[h]) w:=by kernel_rfl
end
theorem aHs(w:World):(ReflectliteType.method ReflectliteType.elem #[.agg #[.pointer (some ⟨2,237,none⟩)]]).run prog w= .ok (.iface 295 (.agg #[.pointer (some ⟨2,234,none⟩)])) w:=by kernel_rfl
theorem aBa(w:World):(ReflectliteType.relation "Implements" ReflectliteType.implements_ #[.agg #[.pointer (some ⟨2,234,none⟩)],.iface 295 (.agg #[.pointer (some ⟨2,202,none⟩)])]).run prog w= .ok (.bool true) w:=by kernel_rfl
theorem aGQ(v:Value)(w:World):(ReflectliteType.typeOf #[.iface 234 v]).run prog w= .ok (.iface 295 (.agg #[.pointer (some ⟨2,234,none⟩)])) w:=by kernel_rfl
theorem aBL(w:World):(ReflectliteType.relation "AssignableTo" ReflectliteType.assignableTo #[.agg #[.pointer (some ⟨2,234,none⟩)],.iface 295 (.agg #[.pointer (some ⟨2,234,none⟩)])]).run prog w= .ok (.bool true) w:=by kernel_rfl
theorem aEL(e:Addr)(w:World):(ReflectliteValue.unpack (.iface 234 (.pointer (some e)))).run prog w
 = .ok (.agg #[.pointer (some ⟨2,234,none⟩),.pointer (some ⟨w.heap.size,0,none⟩),.int .u64 150]) (w.alloc (.cells #[.pointer (some e)] 234)):=by kernel_rfl
theorem aEz(w:World):(Rtype.elem? 237).run prog w= .ok (some 234) w:=by kernel_rfl
theorem mkP(p:Addr)(w:World):(ReflectliteValue.mk 234 p ReflectliteValue.flagAddr).run prog w= .ok (.agg #[.pointer (some ⟨2,234,none⟩),.pointer (some p),.int .u64 406]) w:=by kernel_rfl
theorem aGR(a p:Addr)(W:World)(ha:W.cell? a=some (.pointer (some p))):
 (ReflectliteValue.method (ReflectliteValue.valueError "reflectlite.Value.Elem" 0) ReflectliteValue.elem #[.agg #[.pointer (some ⟨2,237,none⟩),.pointer (some a),.int .u64 150]]).run prog W
  = .ok (.agg #[.pointer (some ⟨2,234,none⟩),.pointer (some p),.int .u64 406]) W:=by
 rw[rlm];simp only[aT,aC0,Result.andThen];simp[ReflectliteValue.elem,loadVar,isAgg,underlying,underlying237,ha,Result.andThen,aEz,mkP]
theorem aGr(a:Addr)(w:World):(ReflectliteValue.parts (.agg #[.pointer (some ⟨2,234,none⟩),.pointer (some a),.int .u64 406])).run prog w= .ok (some (234,a,406)) w:=by kernel_rfl
theorem aG7(a:Addr)(w:World):(ReflectliteValue.parts (.agg #[.pointer (some ⟨2,234,none⟩),.pointer (some a),.int .u64 150])).run prog w= .ok (some (234,a,150)) w:=by kernel_rfl
theorem aGL(w:World):(Rtype.directlyAssignable 234 234).run prog w= .ok true w:=by kernel_rfl
theorem rls(v x:Value):ReflectliteValue.set #[v,x]=(do
 let (some (dst,a,fl),some (src,b,_)):=(←ReflectliteValue.parts v,←ReflectliteValue.parts x)
  |unsupported (.noEntry "extern/(internal/reflectlite.Value).Set.zeroValue")
 if fl / ReflectliteValue.flagAddr % 2==0 then unsupported (.noEntry "extern/(internal/reflectlite.Value).Set.unaddressable")
 let val←loadVar src b
 if←Rtype.directlyAssignable dst src then storeVar dst a val
 else if←Rtype.implements dst src then
  if(←Rtype.kind src)==20 then
   match val with
   |.nilIface=>unsupported (.noEntry "extern/reflectlite: a nil value of one interface type handed on as a value of another")
   |_=>storeVar dst a val
  else storeVar dst a (.iface src val)
 else panicString ("reflectlite.Set: value of type "++(←Rtype.spelt src)++ " is not assignable to type "++(←Rtype.spelt dst))
 pure (.tuple #[])):=rfl
theorem aHP(ta b e:Addr)(old:Value)(W:World)(hb:W.cell? b=some (.pointer (some e)))(ht:W.cell? ta=some old)(hf:W.frozen? ta=false):
 (ReflectliteValue.set #[.agg #[.pointer (some ⟨2,234,none⟩),.pointer (some ta),.int .u64 406],.agg #[.pointer (some ⟨2,234,none⟩),.pointer (some b),.int .u64 150]]).run prog W
  = .ok (.tuple #[]) (W.setCell ta (.pointer (some e))):=by
 rw[rls];simp only[aT,aGr,aG7,Result.andThen];simp[ReflectliteValue.flagAddr,loadVar,isAgg,underlying,underlying234,hb,Result.andThen,aGL,storeVar,Value.cells,storeCells,Addr.add];rw[run_store prog W ta _ _ (by rfl)];simp[ht,hf]
theorem aHm(e t:Addr)(old:Value)(w:World)(hg:w.cell? ⟨1,0,none⟩=some aEU)(hlt:1<w.heap.size)(ht0:w.cell? t=some old)(hf0:w.frozen? t=false):
 Calls prog 168 #[.iface 234 (.pointer (some e)),.iface 237 (.pointer (some t))] w fun ev w'=>ev= .returned (.bool true)∧w'=((((w.alloc (.cells #[.pointer (some t)] 237)).alloc (.cells #[.pointer (some ⟨2,237,none⟩),.pointer (some ⟨w.heap.size,0,none⟩),.int .u64 150] 264)).alloc (.cells #[.pointer (some ⟨2,237,none⟩),.pointer (some ⟨w.heap.size,0,none⟩),.int .u64 150] 264)).alloc (.cells #[.pointer (some e)] 234)).setCell t (.pointer (some e)):=by
 have E:= @run_callFunc_extern prog 192 _ (fun args=>ReflectliteValue.unpack (args.getD 0 (.tuple #[]))) func192 (by kernel_rfl) (by kernel_rfl) (by kernel_rfl) (by kernel_rfl);have x:= @run_callFunc_extern prog 193 _ (ReflectliteValue.methodAny (ReflectliteValue.valueError "reflectlite.Value.Type" 0) (fun t _ _ _=>ReflectliteType.toType t)) func193 (by kernel_rfl) (by kernel_rfl) (by kernel_rfl) (by kernel_rfl);have y:= @run_callFunc_extern prog 194 _ (ReflectliteValue.method (ReflectliteValue.valueError "reflectlite.Value.IsNil" 0) ReflectliteValue.isNil) func194 (by kernel_rfl) (by kernel_rfl) (by kernel_rfl) (by kernel_rfl);have i:= @run_callFunc_extern prog 261 _ (ReflectliteType.abiMethod fun t=>do pure (.int .u8 (←Rtype.kind t))) func261 (by kernel_rfl) (by kernel_rfl) (by kernel_rfl) (by kernel_rfl);have m:= @run_callFunc_extern prog 272 _ (ReflectliteType.method ReflectliteType.elem) func272 (by kernel_rfl) (by kernel_rfl) (by kernel_rfl) (by kernel_rfl);have p:= @run_callFunc_extern prog 273 _ (ReflectliteType.relation "Implements" ReflectliteType.implements_) func273 (by kernel_rfl) (by kernel_rfl) (by kernel_rfl) (by kernel_rfl);have f:= @run_callFunc_extern prog 190 _ ReflectliteType.typeOf func190 (by kernel_rfl) (by kernel_rfl) (by kernel_rfl) (by kernel_rfl);have b:= @run_callFunc_extern prog 270 _ (ReflectliteType.relation "AssignableTo" ReflectliteType.assignableTo) func270 (by kernel_rfl) (by kernel_rfl) (by kernel_rfl) (by kernel_rfl)
 have k:= @run_callFunc_extern prog 219 _ (ReflectliteValue.method (ReflectliteValue.valueError "reflectlite.Value.Elem" 0) ReflectliteValue.elem) func219 (by kernel_rfl) (by kernel_rfl) (by kernel_rfl) (by kernel_rfl);have g:= @run_callFunc_extern prog 220 _ ReflectliteValue.set func220 (by kernel_rfl) (by kernel_rfl) (by kernel_rfl) (by kernel_rfl);have F:=aGQ;have D:=sA;have q:=aBL;have j:=aEL;have A:=aDP;have u:=aHf;have z:=aBY;have s:=aCh;have r:=uT;have o:=aHp;have c:=aHL;have n:=aHs;have d:=aBa;have B:=aF0 ⟨w.heap.size,0,none⟩ t ((w.alloc (.cells #[.pointer (some t)] 237)).alloc (.cells #[.pointer (some ⟨2,237,none⟩),.pointer (some ⟨w.heap.size,0,none⟩),.int .u64 150] 264)) (by simp);have l:((w.alloc (.cells #[.pointer (some t)] 237)).alloc (.cells #[.pointer (some ⟨2,237,none⟩),.pointer (some ⟨w.heap.size,0,none⟩),.int .u64 150] 264)).cell? ⟨1,0,none⟩=some aEU:=by
  rw[bH _ _ ⟨1,0,none⟩ (by simp;omega),bH _ _ ⟨1,0,none⟩ hlt];exact hg
 have a:t.block<w.heap.size:=by
  rcases Nat.lt_or_ge t.block w.heap.size with h|h
  ·exact h
  ·simp[World.cell?,Array.getElem?_eq_none h]at ht0
 have v:=aGR ⟨w.heap.size,0,none⟩ t (((w.alloc (.cells #[.pointer (some t)] 237)).alloc (.cells #[.pointer (some ⟨2,237,none⟩),.pointer (some ⟨w.heap.size,0,none⟩),.int .u64 150] 264)).alloc (.cells #[.pointer (some ⟨2,237,none⟩),.pointer (some ⟨w.heap.size,0,none⟩),.int .u64 150] 264)) (by rw[bH _ _ ⟨w.heap.size,0,none⟩ (by simp;omega)];simp);have C:=aHP t ⟨w.heap.size+1+1+1,0,none⟩ e old ((((w.alloc (.cells #[.pointer (some t)] 237)).alloc (.cells #[.pointer (some ⟨2,237,none⟩),.pointer (some ⟨w.heap.size,0,none⟩),.int .u64 150] 264)).alloc (.cells #[.pointer (some ⟨2,237,none⟩),.pointer (some ⟨w.heap.size,0,none⟩),.int .u64 150] 264)).alloc (.cells #[.pointer (some e)] 234))
  (by rw[World.cell?_alloc_at _ _ _ _ (by simp)];rfl)
  (by rw[bH _ _ t (by simp;omega),bH _ _ t (by simp;omega),bH _ _ t (by simp;omega),bH _ _ t a];exact ht0)
  (by rw[World.frozen?_alloc_old _ _ t (by simp;omega),World.frozen?_alloc_old _ _ t (by simp;omega),World.frozen?_alloc_old _ _ t (by simp;omega),World.frozen?_alloc_old _ _ t (Nat.ne_of_lt a)];exact hf0)
 go_enter func168,ntmps168;go_wp2;refine wp_loop_rounds 1 ?_;rw[rounds_succ];go_wp2;go_ret;exact⟨rfl,rfl⟩
theorem aEZ(fb t:Nat)(w:World)(hg:w.cell? ⟨1,0,none⟩=some aEU)(h1lt:1<w.heap.size)(ht:w.heap[t]?=some (.cells #[.pointer none] 234 (0,0))):
 Calls prog 168 #[.iface 234 (.pointer (some ⟨fb,0,none⟩)),.iface 237 (.pointer (some ⟨t,0,none⟩))] w fun ev w'=>ev= .returned (.bool true)∧Chg (fun x=>x=t) w w'∧w'.heap[t]?=some (.cells #[.pointer (some ⟨fb,0,none⟩)] 234 (0,0)):=by
 refine(aHm ⟨fb,0,none⟩ ⟨t,0,none⟩ (.pointer none) w hg h1lt (cA ht 0 _ rfl) (cY ht 0)).mono ?_;rintro e w' ⟨rfl,rfl⟩;have a:=cW ht;refine⟨rfl,((((((Chg.refl _ _).alloc _).alloc _).alloc _).alloc _).setCell _ _ (fun _=>rfl)),cP (cR _ (cR _ (cR _ (cR _ ht)))) 0 _⟩
end
section
open Go.RowKit Go.Maps
theorem aGB{W:World}{tb:Nat}{rs:List Rw}(h:xM W tb rs)(l:Int)(hl0:0≤l)(hl3:l≤3):(Instr.lookup 118 (.map (some tb)) (.int .i64 l) false).run prog W= .ok (rwV ((dQ rs l.toNat).getD zRw)) W:=by
 have b:keyOf prog 3 (.int .i64 l)=some (.int .i64 l):=keyOf_int_mk underlying3 (aBc hl0 (by omega));obtain⟨v,d,c,a⟩:=h.lookup aDV underlying118 (aC7 W) (wC zRw) b;have e:=aAi (vS zRw) l.toNat rs.length rs rfl;rw[Int.toNat_of_nonneg hl0]at e;rw[e]at a;rw[c];cases hq:dQ rs l.toNat with
 |none=>rw[hq]at a;rw[wW a];rfl
 |some r=>rw[hq]at a;rw[wW a];rfl
theorem aDU(fn:Func)(hr:fn.results=#[.cell 4 58])(tmps:Array Value)(x:Nat)(r:Rw)(W:World)(h4:tmps.getD 4 undef= .pointer (some ⟨x,0,none⟩))(hb:W.heap[x]?=some (.cells (rwL r).toArray 58 (0,0))):
 (results fn tmps).run prog W= .ok (rwV r) W:=by
 have a:(loadVar 58 ⟨x,0,none⟩).run prog W= .ok (rwV r) W:=eV W ⟨x,0,none⟩ 58 (rwL r) _ (cD hb) underlying58 rfl (by kernel_rfl);unfold results;rw[hr];simp only[bV]at h4;simp[h4,asAddr,aT,a]
theorem pY(fn:Func)(hr:fn.results=#[.cell 4 58,.cell 5 66,.tmp 6])(tmps:Array Value)(x y:Nat)(r:Rw)(m:Mg)(q:Bool)(W:World)(h4:tmps.getD 4 undef= .pointer (some ⟨x,0,none⟩))(h5:tmps.getD 5 undef= .pointer (some ⟨y,0,none⟩))(h6:tmps.getD 6 undef= .bool q)(hb:W.heap[x]?=some (.cells (rwL r).toArray 58 (0,0)))(hc:W.heap[y]?=some (.cells (mgL m).toArray 66 (0,0))):
 (results fn tmps).run prog W= .ok (.tuple #[rwV r,mgV m,.bool q]) W:=by
 have b:(loadVar 58 ⟨x,0,none⟩).run prog W= .ok (rwV r) W:=eV W ⟨x,0,none⟩ 58 (rwL r) _ (cD hb) underlying58 rfl (by kernel_rfl);have a:(loadVar 66 ⟨y,0,none⟩).run prog W= .ok (mgV m) W:=eV W ⟨y,0,none⟩ 66 (mgL m) _ (cD hc) underlying66 rfl (by kernel_rfl);unfold results;rw[hr];simp only[bV]at h4 h5 h6;simp[h4,h5,h6,asAddr,aT,b,a]
theorem aGw(W:World)(F:Nat→Prop)(b g:Nat)(a:Ac)(l:Int)(h:Acc W F b g a)(hl0:0≤l)(hl3:l≤3):
 Calls prog 170 #[.pointer (some ⟨b,0,none⟩),.int .i64 l] W fun e W'=>e= .returned (rwV (rD a l))∧Chg NoS W W':=by
 obtain⟨FD,d,tb,h,_,_⟩:=h;obtain⟨R,C⟩:=aH2 ((dQ a.rows l.toNat).getD zRw);have A:=fun x (hx:Chg NoS W x)=>aGB (h.kept hx (fun _ _ h=>h)).table l hl0 hl3;rw[←C]at A;have U:rD a l={R with lock:=l}:=by unfold rD;rw[C]
 rw[U];have HG:=bZ A;have HA:=bZ h;have i:Chg NoS W (W.alloc (.cells #[.int .i64 0,.int .i64 0,.int .i64 0,.int .i64 0,.int .i64 0,.int .i64 0,.int .i64 0] 58)):=(Chg.refl _ _).alloc _;have w:=aA W (.cells #[.int .i64 0,.int .i64 0,.int .i64 0,.int .i64 0,.int .i64 0,.int .i64 0,.int .i64 0] 58);have f:(W.alloc (.cells #[.int .i64 0,.int .i64 0,.int .i64 0,.int .i64 0,.int .i64 0,.int .i64 0,.int .i64 0] 58)).heap.size=W.heap.size+1:=by simp
 generalize p:W.alloc (.cells #[.int .i64 0,.int .i64 0,.int .i64 0,.int .i64 0,.int .i64 0,.int .i64 0,.int .i64 0] 58)=W1 at*;have T:=bZ p;have X:=(h.kept i (fun _ _ h=>h)).cell 3 _ rfl;have z:=HG.out W1 i;have o:=aA W1 (.cells #[.int .i64 0,.int .i64 0,.int .i64 0,.int .i64 0,.int .i64 0,.int .i64 0,.int .i64 0] 58);have n:Chg NoS W1 (W1.alloc (.cells #[.int .i64 0,.int .i64 0,.int .i64 0,.int .i64 0,.int .i64 0,.int .i64 0,.int .i64 0] 58)):=(Chg.refl _ _).alloc _;have M:(W1.alloc (.cells #[.int .i64 0,.int .i64 0,.int .i64 0,.int .i64 0,.int .i64 0,.int .i64 0,.int .i64 0] 58)).heap.size=W.heap.size+2:=by simp[f]
 have j:=n.kept w (fun h=>h);generalize q:W1.alloc (.cells #[.int .i64 0,.int .i64 0,.int .i64 0,.int .i64 0,.int .i64 0,.int .i64 0,.int .i64 0] 58)=W2 at*;rw[f]at o;have H:=bZ q;have I:=bZ f;have N:=bZ o;have L:=bZ (i.trans (S:=NoS) n (fun _ _ h=>h));have y:=bZ j;clear p q w i n o j M f h A U C;go_enter func170,ntmps170;go_wp2_with (first|rw[T.out]|(rw[H.out,I.out])|(refine cF rfl 58 _ _ rfl (W.heap.size+1) 0 58 _ _ (rwL R) rfl rfl N.out (by kernel_rfl) (by simp[Value.oneCell']) (by simp) rfl ?_;intro B k E c;refine cC ?_));have V:=cA c 0 _ rfl;have Y:=cY c 0;have m:=cZ B (W.heap.size+1) 0 (.int .i64 l);have v:(B.setCell ⟨W.heap.size+1,0,none⟩ (.int .i64 l)).heap[W.heap.size+1]?=some (.cells (rwL {R with lock:=l}).toArray 58 (0,0)):=cP c 0 (.int .i64 l);have s:=m.kept (k.kept y.out (by omega)) (by omega);generalize t:B.setCell ⟨W.heap.size+1,0,none⟩ (.int .i64 l)=W4 at*;have O:=bZ t;have P:=bZ (cD v);have D:=bZ s;have Q:=bZ (((L.out.nos:Chg (fun x=>x=W.heap.size+1) W W2).trans k (fun _ _ h=>h)).trans m (fun _ _ h=>h));clear t k E c m v s;refine bZ ?_;go_wp2_with (first|rw[O.out]|(refine cI rfl 58 _ rfl ⟨W.heap.size+1,0,none⟩ rfl (rwL {R with lock:=l}) _ P.out underlying58 rfl (by kernel_rfl) ?_)|(refine cF rfl 58 _ _ rfl W.heap.size 0 58 _ _ (rwL {R with lock:=l}) rfl rfl D.out (by kernel_rfl) (by simp[Value.oneCell']) (by simp) rfl ?_;intro Z r G u;refine cC ?_));have J:=bZ u
 have K:Hid (Chg NoS W Z):=((Q.out.mono (fun _ _ h=>Or.inl h):Chg (fun x=>x=W.heap.size+1∨x=W.heap.size) W W4).trans r (fun _ _ h=>Or.inr h)).mono (fun x hx h=>by omega);clear r G u V Y X z;refine bZ ?_;go_wp2_with fail;exact bodyPost_ret (aDU _ results170 _ W.heap.size {R with lock:=l} _ rfl J.out) rfl ⟨rfl,K.out⟩
abbrev aCH(r:Rw):Vl:=⟨r.own,r.tok,r.ttl,r.seq⟩
theorem aC6(r:Rw):∀j x,(vlL (aCH r))[j]?=some x→(rwL r).toArray[3+j]?=some x:=by
 intro j x a;have b:j<4:=(aF.1 a).1;rcases j with _|_|_|_|j
 ·exact a
 ·exact a
 ·exact a
 ·exact a
 ·omega
theorem aGC(m:Mg):∀j x,(vlL m.val)[j]?=some x→(mgL m).toArray[6+j]?=some x:=by
 intro j x a;have b:j<4:=(aF.1 a).1;rcases j with _|_|_|_|j
 ·exact a
 ·exact a
 ·exact a
 ·exact a
 ·omega
structure DecAt(W0 W:World)(m:Mg)(r:Rw):Prop where
 bm:W.heap[W0.heap.size]?=some (.cells (mgL m).toArray 66 (0,0))
 br:W.heap[W0.heap.size+1]?=some (.cells (rwL r).toArray 58 (0,0))
 ba:W.heap[W0.heap.size+2]?=some (.cells (rwL zRw).toArray 58 (0,0))
 bx:W.heap[W0.heap.size+3]?=some (.cells (mgL zMg).toArray 66 (0,0))
 ch:Chg NoS W0 W
theorem DecAt.drew{W0 W:World}{m:Mg}{r:Rw}(h:DecAt W0 W m r):DecAt W0 W.drew m r:=⟨h.bm,h.br,h.ba,h.bx,h.ch.drew⟩
theorem aB7(W:World)(m:Mg)(r:Rw):
 Calls prog 169 #[mgV m,rwV r] W fun e W'=>e= .returned (.tuple #[rwV (eW m r),mgV (decMsg m r),.bool (nA m r)])∧Chg NoS W W':=by
 have b6:=aA W (.cells #[.int .i64 m.kind,.int .i64 m.src,.int .i64 m.dst,.int .i64 m.lock,.int .i64 m.bal,.int .i64 m.base,.int .i64 m.val.own,.int .i64 m.val.tok,.int .i64 m.val.ttl,.int .i64 m.val.seq] 66);have b9:Chg NoS W (W.alloc (.cells #[.int .i64 m.kind,.int .i64 m.src,.int .i64 m.dst,.int .i64 m.lock,.int .i64 m.bal,.int .i64 m.base,.int .i64 m.val.own,.int .i64 m.val.tok,.int .i64 m.val.ttl,.int .i64 m.val.seq] 66)):=(Chg.refl _ _).alloc _;have p:(W.alloc (.cells #[.int .i64 m.kind,.int .i64 m.src,.int .i64 m.dst,.int .i64 m.lock,.int .i64 m.bal,.int .i64 m.base,.int .i64 m.val.own,.int .i64 m.val.tok,.int .i64 m.val.ttl,.int .i64 m.val.seq] 66)).heap.size=W.heap.size+1:=by simp
 generalize a1:W.alloc (.cells #[.int .i64 m.kind,.int .i64 m.src,.int .i64 m.dst,.int .i64 m.lock,.int .i64 m.bal,.int .i64 m.base,.int .i64 m.val.own,.int .i64 m.val.tok,.int .i64 m.val.ttl,.int .i64 m.val.seq] 66)=W1 at*;have T:=bZ a1;have K:=aA W1 (.cells #[.int .i64 r.lock,.int .i64 r.prom,.int .i64 r.acc,.int .i64 r.own,.int .i64 r.tok,.int .i64 r.ttl,.int .i64 r.seq] 58);have Q:Chg NoS W1 (W1.alloc (.cells #[.int .i64 r.lock,.int .i64 r.prom,.int .i64 r.acc,.int .i64 r.own,.int .i64 r.tok,.int .i64 r.ttl,.int .i64 r.seq] 58)):=(Chg.refl _ _).alloc _;have o:(W1.alloc (.cells #[.int .i64 r.lock,.int .i64 r.prom,.int .i64 r.acc,.int .i64 r.own,.int .i64 r.tok,.int .i64 r.ttl,.int .i64 r.seq] 58)).heap.size=W.heap.size+2:=by simp[p]
 generalize a6:W1.alloc (.cells #[.int .i64 r.lock,.int .i64 r.prom,.int .i64 r.acc,.int .i64 r.own,.int .i64 r.tok,.int .i64 r.ttl,.int .i64 r.seq] 58)=W2 at*;have Z:=bZ a6;have O:=aA W2 (.cells #[.int .i64 0,.int .i64 0,.int .i64 0,.int .i64 0,.int .i64 0,.int .i64 0,.int .i64 0] 58);have G:Chg NoS W2 (W2.alloc (.cells #[.int .i64 0,.int .i64 0,.int .i64 0,.int .i64 0,.int .i64 0,.int .i64 0,.int .i64 0] 58)):=(Chg.refl _ _).alloc _;have t:(W2.alloc (.cells #[.int .i64 0,.int .i64 0,.int .i64 0,.int .i64 0,.int .i64 0,.int .i64 0,.int .i64 0] 58)).heap.size=W.heap.size+3:=by simp[o]
 generalize b8:W2.alloc (.cells #[.int .i64 0,.int .i64 0,.int .i64 0,.int .i64 0,.int .i64 0,.int .i64 0,.int .i64 0] 58)=W3 at*;have U:=bZ b8;have hx4:=aA W3 (.cells #[.int .i64 0,.int .i64 0,.int .i64 0,.int .i64 0,.int .i64 0,.int .i64 0,.int .i64 0,.int .i64 0,.int .i64 0,.int .i64 0] 66);have z:Chg NoS W3 (W3.alloc (.cells #[.int .i64 0,.int .i64 0,.int .i64 0,.int .i64 0,.int .i64 0,.int .i64 0,.int .i64 0,.int .i64 0,.int .i64 0,.int .i64 0] 66)):=(Chg.refl _ _).alloc _;generalize a8:W3.alloc (.cells #[.int .i64 0,.int .i64 0,.int .i64 0,.int .i64 0,.int .i64 0,.int .i64 0,.int .i64 0,.int .i64 0,.int .i64 0,.int .i64 0] 66)=W4 at*;have Y:=bZ a8;rw[p]at K;rw[o]at O;rw[t]at hx4;have d:Hid (DecAt W W4 m r):=⟨z.kept (G.kept (Q.kept b6 (fun h=>h)) (fun h=>h)) (fun h=>h),z.kept (G.kept K (fun h=>h)) (fun h=>h),z.kept O (fun h=>h),hx4,((b9.trans Q (fun _ _ h=>h)).trans G (fun _ _ h=>h)).trans z (fun _ _ h=>h)⟩;have m4:=cA d.out.bm 4 _ rfl;have r1:=cA d.out.br 1 _ rfl;clear a1 a6 b8 a8 b6 K O hx4 b9 Q G z;have HS:=bZ (aHS p o t);by_cases k:m.bal<r.prom
 ·have H:eW m r=r:=if_pos k;have I:decMsg m r={zMg with kind:=5,base:=r.prom}:=if_pos k;have J:nA m r=false:=if_pos k;rw[H,I,J];have hb:decide (m.bal<r.prom)=true:=by simpa using k
  clear H I J k;go_enter func169,ntmps169;go_wp2_with (first|rw[T.out]|rw[Z.out]|rw[U.out]|rw[Y.out]);clear p o t;refine rlx [1,0,1,0,2] (fun x=>x.cell? ⟨W.heap.size+1,1,none⟩=some (.int .i64 r.prom)∧∀j y,(rwL r)[j]?=some y→x.cell? ((⟨W.heap.size+1,0,none⟩:Addr).add j)=some y) (by kernel_rfl) (fun _ _ _ _=>rfl) ?_ ?_
  ·exact⟨r1,cD (W:=W4.drew) d.out.br⟩
  simp only[cL,cK];refine cJ (v:=rwV r) rfl (fun x hx=>cE 58 _ rfl ⟨W.heap.size+1,0,none⟩ rfl (rwL r) _ hx.2 underlying58 rfl (by kernel_rfl)) ?_;iterate 3 (apply sB rfl rfl;·(intro x h;(try have h:=h rfl);(try dsimp only at h);go_simp;with_reducible rfl))
  try simp only[pA]
  refine dB rfl (fun C hC=>?_);refine fT 58 _ _ rfl (W.heap.size+2) 0 58 _ _ (rwL r) rfl rfl d.out.drew.ba (by kernel_rfl) (by simp[Value.oneCell']) (by simp) rfl ?_;intro s b c2 b2;have a:=b.kept d.out.drew.br (by omega);refine hC _ _ ⟨cA a 1 _ rfl,cD a⟩ ?_;clear hC C;refine cB ?_;have B:=b.kept d.out.drew.bx (by omega);have f:=bZ (aHR b2 B);have V:=bZ ((d.out.drew.ch.nos:Chg (fun x=>x=W.heap.size+2) W _).trans b (fun _ _ h=>h));clear b c2 b2 a B m4 r1;(try simp only[pA]);go_wp2_with (first|(refine cF rfl 66 _ _ rfl (W.heap.size+3) 0 66 _ _ (mgL {zMg with kind:=5,base:=r.prom}) rfl rfl f.out.2 (by kernel_rfl) (by simp[Value.oneCell']) (by simp) rfl ?_;intro W6 c M u;refine cC ?_));have b3:=c.kept f.out.1 (by omega);have g:=bZ (aHR b3 u);have N:Hid (Chg NoS W W6):=((V.out.mono (fun _ _ h=>Or.inl h):Chg (fun x=>x=W.heap.size+2∨x=W.heap.size+3) W s).trans c (fun _ _ h=>Or.inr h)).mono (fun x hx h=>by omega);clear c M u b3;refine bZ ?_;go_wp2_with fail;exact bodyPost_ret (pY _ results169 _ (W.heap.size+2) (W.heap.size+3) r {zMg with kind:=5,base:=r.prom} false _ rfl rfl rfl g.out.1 g.out.2) rfl ⟨rfl,N.out⟩
 ·have hb:decide (m.bal<r.prom)=false:=by simpa using k
  by_cases F:m.kind=1
  ·obtain⟨q,hq⟩:=aH2 (decide (r.prom<m.bal));have H:eW m r={r with prom:=m.bal}:=(if_neg k).trans (if_pos F);have I:decMsg m r={zMg with kind:=2,base:=r.acc,val:=aCH r}:=(if_neg k).trans (if_pos F);have J:nA m r=q:=by rw[hq];exact(if_neg k).trans (if_pos F)
   rw[H,I,J];have hk:(m.kind==1)=true:=by simp[F]
   have m0:=cA d.out.bm 0 _ rfl;have z1:=cY d.out.br 1;have b:=cZ W4 (W.heap.size+1) 1 (.int .i64 m.bal);have a:(W4.setCell ⟨W.heap.size+1,1,none⟩ (.int .i64 m.bal)).heap[W.heap.size+1]?=some (.cells (rwL {r with prom:=m.bal}).toArray 58 (0,0)):=cP d.out.br 1 (.int .i64 m.bal);have a9:=b.kept d.out.ba (by omega);have B:=b.kept d.out.bx (by omega);generalize A:W4.setCell ⟨W.heap.size+1,1,none⟩ (.int .i64 m.bal)=s at*;have S:=bZ A;have HQ:=bZ hq;have f:=bZ (aHS a a9 B);have V:=bZ ((d.out.ch.nos:Chg (fun x=>x=W.heap.size+1) W W4).trans b (fun _ _ h=>h));have r2:=cA a 2 _ rfl;clear H I J k F A b a a9 B hq;go_enter func169,ntmps169;go_wp2_with (first|rw[T.out]|rw[Z.out]|rw[U.out]|rw[Y.out]|rw[S.out]);clear p o t;rw[←HQ.out];refine rlx [1,0,1,0,1,0,0,2] (fun x=>x.cell? ⟨W.heap.size+1,2,none⟩=some (.int .i64 r.acc)∧(∀j y,(rwL {r with prom:=m.bal})[j]?=some y→x.cell? ((⟨W.heap.size+1,0,none⟩:Addr).add j)=some y)∧(∀j y,(vlL (aCH r))[j]?=some y→x.cell? ((⟨W.heap.size+1,3,none⟩:Addr).add j)=some y)) (by kernel_rfl) (fun _ _ _ _=>rfl) ?_ ?_
   ·exact⟨r2,cD (W:=s.drew) f.out.1,eY (W:=s.drew) f.out.1 3 _ (aC6 {r with prom:=m.bal})⟩
   simp only[cL,cK];refine cJ (v:=rwV {r with prom:=m.bal}) rfl (fun x hx=>cE 58 _ rfl ⟨W.heap.size+1,0,none⟩ rfl (rwL {r with prom:=m.bal}) _ hx.2.1 underlying58 rfl (by kernel_rfl)) ?_;iterate 3 (apply sB rfl rfl;·(intro x h;(try have h:=h rfl);(try dsimp only at h);go_simp;with_reducible rfl))
   try simp only[pA]
   refine cJ (v:=vlV (aCH r)) rfl (fun x hx=>cE 56 _ rfl ⟨W.heap.size+1,3,none⟩ rfl (vlL (aCH r)) _ hx.2.2 underlying56 rfl (by kernel_rfl)) ?_;iterate 2 (apply sB rfl rfl;·(intro x h;(try have h:=h rfl);(try dsimp only at h);go_simp;with_reducible rfl))
   try simp only[pA]
   refine dB rfl (fun C hC=>?_);refine fT 58 _ _ rfl (W.heap.size+2) 0 58 _ _ (rwL {r with prom:=m.bal}) rfl rfl (show s.drew.heap[W.heap.size+2]?=_ from f.out.2.1) (by kernel_rfl) (by simp[Value.oneCell']) (by simp) rfl ?_;intro W6 c M u;have i:=c.kept (show s.drew.heap[W.heap.size+1]?=_ from f.out.1) (by omega);refine hC _ _ ⟨cA i 2 _ rfl,cD i,eY i 3 _ (aC6 {r with prom:=m.bal})⟩ ?_;clear hC C;refine cB ?_;have b4:=c.kept (show s.drew.heap[W.heap.size+3]?=_ from f.out.2.2) (by omega);have g:=bZ (aHR u b4);have N:=bZ (((V.out.mono (fun _ _ h=>Or.inl h):Chg (fun x=>x=W.heap.size+1∨x=W.heap.size+2) W s).drew).trans c (fun _ _ h=>Or.inr h));clear c M u i b4 m4 r1 m0 z1 r2;(try simp only[pA]);go_wp2_with (first|(refine cF rfl 66 _ _ rfl (W.heap.size+3) 0 66 _ _ (mgL {zMg with kind:=2,base:=r.acc,val:=aCH r}) rfl rfl g.out.2 (by kernel_rfl) (by simp[Value.oneCell']) (by simp) rfl ?_;intro W7 n X w;refine cC ?_));have a5:=n.kept g.out.1 (by omega);have b1:=bZ (aHR a5 w);have L:Hid (Chg NoS W W7):=((N.out.mono (fun _ _ h=>Or.inl h):Chg (fun x=>(x=W.heap.size+1∨x=W.heap.size+2)∨x=W.heap.size+3) W W6).trans n (fun _ _ h=>Or.inr h)).mono (fun x hx h=>by omega);clear n X w a5;refine bZ ?_;go_wp2_with fail;exact bodyPost_ret (pY _ results169 _ (W.heap.size+2) (W.heap.size+3) {r with prom:=m.bal} {zMg with kind:=2,base:=r.acc,val:=aCH r} q _ rfl rfl rfl b1.out.1 b1.out.2) rfl ⟨rfl,L.out⟩
  ·have H:eW m r=⟨r.lock,m.bal,m.bal,m.val.own,m.val.tok,m.val.ttl,m.val.seq⟩:=(if_neg k).trans (if_neg F);have I:decMsg m r={zMg with kind:=4}:=(if_neg k).trans (if_neg F);have J:nA m r=true:=(if_neg k).trans (if_neg F);rw[H,I,J];have hk:(m.kind==1)=false:=by simp[F]
   have m0:=cA d.out.bm 0 _ rfl;clear H I J k F;go_enter func169,ntmps169;go_wp2_with (first|rw[T.out]|rw[Z.out]|rw[U.out]|rw[Y.out]);clear p o t;have HM:Hid (∀x,Chg (fun y=>y=W.heap.size+1) W4 x→x.cell? ⟨W.heap.size,4,none⟩=some (.int .i64 m.bal)∧∀j y,(vlL m.val)[j]?=some y→x.cell? ((⟨W.heap.size,6,none⟩:Addr).add j)=some y):=fun x hx=>by
    have hb:=hx.kept d.out.bm (by omega);exact⟨cA hb 4 _ rfl,eY hb 6 _ (aGC m)⟩
   refine rlx [0,1,0,1,0,1,0,2,0,2,0] (fun x=>x.cell? ⟨W.heap.size,4,none⟩=some (.int .i64 m.bal)∧∀j y,(vlL m.val)[j]?=some y→x.cell? ((⟨W.heap.size,6,none⟩:Addr).add j)=some y) (by kernel_rfl) (fun _ _ _ _=>rfl) ?_ ?_
   ·exact HM.out _ (Chg.refl _ W4).drew
   simp only[cL,cK];iterate 5 (apply sB rfl rfl;·(intro x h;(try have h:=h rfl);(try dsimp only at h);go_simp;with_reducible rfl))
   try simp only[pA]
   refine cJ (v:=vlV m.val) rfl (fun x hx=>cE 56 _ rfl ⟨W.heap.size,6,none⟩ rfl (vlL m.val) _ hx.2 underlying56 rfl (by kernel_rfl)) ?_;iterate 1 (apply sB rfl rfl;·(intro x h;(try have h:=h rfl);(try dsimp only at h);go_simp;with_reducible rfl))
   try simp only[pA]
   have r1:=cA d.out.drew.br 1 _ rfl;have z1:=cY d.out.drew.br 1;have b:=cZ W4.drew (W.heap.size+1) 1 (.int .i64 m.bal);have a:(W4.drew.setCell ⟨W.heap.size+1,1,none⟩ (.int .i64 m.bal)).heap[W.heap.size+1]?=some (.cells (rwL {r with prom:=m.bal}).toArray 58 (0,0)):=cP d.out.drew.br 1 (.int .i64 m.bal);generalize A:W4.drew.setCell ⟨W.heap.size+1,1,none⟩ (.int .i64 m.bal)=s at*;have S:=bZ A;have E:=b.of_drew;refine dB rfl (fun C hC=>?_);go_simp;try rw[S.out]
   refine hC _ _ (HM.out _ E) ?_;clear hC C;iterate 1 (apply sB rfl rfl;·(intro x h;(try have h:=h rfl);(try dsimp only at h);go_simp;with_reducible rfl))
   try simp only[pA]
   have r2:=cA a 2 _ rfl;have z2:=cY a 2;have c:=cZ s (W.heap.size+1) 2 (.int .i64 m.bal);have i:(s.setCell ⟨W.heap.size+1,2,none⟩ (.int .i64 m.bal)).heap[W.heap.size+1]?=some (.cells (rwL {r with prom:=m.bal,acc:=m.bal}).toArray 58 (0,0)):=cP a 2 (.int .i64 m.bal);generalize a4:s.setCell ⟨W.heap.size+1,2,none⟩ (.int .i64 m.bal)=W6 at*;have c5:=bZ a4;have D:=E.trans c (fun _ _ h=>h);refine dB rfl (fun C hC=>?_);go_simp;try rw[c5.out]
   refine hC _ _ (HM.out _ D) ?_;clear hC C;iterate 1 (apply sB rfl rfl;·(intro x h;(try have h:=h rfl);(try dsimp only at h);go_simp;with_reducible rfl))
   refine cB ?_;try simp only[pA]
   have g:=bZ i;have c0:=bZ D;clear b a A E r1 z1 r2 z2 c i a4 D m4 m0;go_wp2_with (first|(refine cF rfl 56 _ _ rfl (W.heap.size+1) 3 58 _ _ (rwL ⟨r.lock,m.bal,m.bal,m.val.own,m.val.tok,m.val.ttl,m.val.seq⟩) rfl rfl g.out (by kernel_rfl) (by simp[Value.oneCell']) (by simp) rfl ?_;intro W7 n X w;refine cC ?_));have l:=c0.out.trans n (fun _ _ h=>h);have c4:=bZ (cD w);have a2:=bZ (aHR (l.kept d.out.ba (by omega)) (l.kept d.out.bx (by omega)));have L:=bZ ((d.out.ch.nos:Chg (fun x=>x=W.heap.size+1) W W4).trans l (fun _ _ h=>h));clear n X w l;refine bZ ?_;go_wp2_with (first|(refine cI rfl 58 _ rfl ⟨W.heap.size+1,0,none⟩ rfl (rwL ⟨r.lock,m.bal,m.bal,m.val.own,m.val.tok,m.val.ttl,m.val.seq⟩) _ c4.out underlying58 rfl (by kernel_rfl) ?_)|(refine cF rfl 58 _ _ rfl (W.heap.size+2) 0 58 _ _ (rwL ⟨r.lock,m.bal,m.bal,m.val.own,m.val.tok,m.val.ttl,m.val.seq⟩) rfl rfl a2.out.1 (by kernel_rfl) (by simp[Value.oneCell']) (by simp) rfl ?_;intro W8 R c3 b5;refine cC ?_));have a0:=R.kept a2.out.2 (by omega);have b0:=bZ (aHR b5 a0);have c6:=bZ ((L.out.mono (fun _ _ h=>Or.inl h):Chg (fun x=>x=W.heap.size+1∨x=W.heap.size+2) W W7).trans R (fun _ _ h=>Or.inr h));clear R c3 b5 a0;refine bZ ?_;go_wp2_with (first|(refine cF rfl 66 _ _ rfl (W.heap.size+3) 0 66 _ _ (mgL {zMg with kind:=4}) rfl rfl b0.out.2 (by kernel_rfl) (by simp[Value.oneCell']) (by simp) rfl ?_;intro W9 P c7 a3;refine cC ?_));have b7:=P.kept b0.out.1 (by omega);have a7:=bZ (aHR b7 a3)
   have c1:Hid (Chg NoS W W9):=((c6.out.mono (fun _ _ h=>Or.inl h):Chg (fun x=>(x=W.heap.size+1∨x=W.heap.size+2)∨x=W.heap.size+3) W W8).trans P (fun _ _ h=>Or.inr h)).mono (fun x hx h=>by omega);clear P c7 a3 b7;refine bZ ?_;go_wp2_with fail;exact bodyPost_ret (pY _ results169 _ (W.heap.size+2) (W.heap.size+3) ⟨r.lock,m.bal,m.bal,m.val.own,m.val.tok,m.val.ttl,m.val.seq⟩ {zMg with kind:=4} true _ rfl rfl rfl a7.out.1 a7.out.2) rfl ⟨rfl,c1.out⟩
end
section
open Go.RowKit Go.Maps
theorem aFa{W:World}{tb:Nat}{rs:List Rw}(h:xM W tb rs)(ty:TypeId):∃W',(Builtin.clear_ #[118] ty #[.map (some tb)]).run prog W= .ok (.tuple #[]) W'∧xM W' tb []∧Chg (fun x=>x=tb) W W'∧W'.heap.size=W.heap.size:=by
 obtain⟨c,a,b,_⟩:=h;refine⟨ChangeMaps.setBlock W tb (.map #[] a),?_,⟨#[],a,iS b _,⟨by simp,MapKept.stamped_empty a,by simp⟩,by simp,rfl⟩,iF _ _ _,by simp[ChangeMaps.setBlock]⟩;simp[Builtin.clear_,aT,run_underlying underlying118,MapKept.run_getObj_map b,MapKept.run_setObj_map _ b,Result.andThen,ChangeMaps.setBlock]
structure aEd(k:Dk):Prop where
 y0:0≤(eM k).2
 y1:(eM k).2≤((eM k).1.length:Int)
 l1:((eM k).1.length:Int)≤1000000000000
section
variable (W:World) (F G:Nat→Prop) (b g:Nat) (av cv:Value) (a:Ac) (net:List Mg) (tr:List Ev)
theorem rX(q:Int)(h:ASys W F G b g av cv a net tr)(hk:aEd a.dk)(hq:0≤q)(hn:net.length≤100000000000)(ht:tr.length≤100000000000):
 Calls prog 128 #[.pointer (some ⟨b,0,none⟩),.int .i64 q] W fun r W'=>r= .returned (.tuple #[])∧AfterA W F G b g av cv (crashA a q) net (tr++[gC a.num]) W':=by
 have HS:=bZ h;obtain⟨FD,d,i,I,y,o⟩:=h.acc;have c2:=I.cell 2 _ rfl;have J:=bZ (aHS I y o);have v:=bZ (aCs W FD d a.dk q I.disk hk.y0 hk.y1 hk.l1 hq);clear I y o h hk;go_enter func128,ntmps128;go_wp2_with (first|(go_at_call 166;refine v.out.mono ?_;rintro e U ⟨rfl,u⟩;refine cC ?_));obtain⟨z,X,c,H,Y,T,_,D⟩:=J.out.1.to J.out.2.1 J.out.2.2 u;have c3:=c.cell 3 _ rfl;obtain⟨_,_,V⟩:=dI c.table;have HK:Hid (∀f,xM f i []→Chg (fun x=>x=i) U f→∀W3,Chg (fun x=>x=b) f W3→W3.heap[b]?=some (.cells (acL (crashA a q) d i g).toArray 162 (0,0))→∃F',ASys W3 F' G b g av cv (crashA a q) net tr∧Went W W3 F F' G G):=fun f l j W3 k3 m=>by
  have Q:=j.kept c.blk (fun e=>dR c.blk V (by simp) e);have n:Disk f z d (gB a.dk q):=c.disk.of_heap j.size (fun x hx=>j.block x (c.disk.lt x hx) (fun e=>c.ntb (e▸hx)));have M:=n.of_heap k3.size (fun x hx=>k3.block x (n.lt x hx) (fun e=>c.nb (e▸hx)));obtain⟨_,_,o2⟩:=dI l;have S:xM W3 i []:=dD l (k3.block _ l.lt (fun e=>dR Q o2 (by simp) e.symm));have C:Acc W3 X b g (crashA a q):=⟨z,d,i,⟨m,M,S,c.nb,c.ntb⟩,H,fun x hx=>aG (Y x hx) (bQ j.size k3.size)⟩;refine HS.out.went ⟨X,C,(T.trans j (fun x hx e=>?_)).trans k3 (fun x hx e=>?_),D⟩
  ·subst e;rcases D _ (H _ (Or.inr (Or.inr rfl)))with h|h
   ·exact h
   ·omega
  ·subst e;rcases D _ (H _ (Or.inr (Or.inl rfl)))with h|h
   ·exact h
   ·omega
 have P:=bZ (fun ty=>aFa c.table ty);have k:=bZ (aHR c.blk V);clear c H Y T D u c2;refine bZ ?_;go_wp2_with (first|(refine nJ rfl 118 _ rfl (.map (some i)) rfl (fun w=>xM w i []∧Chg (fun x=>x=i) U w) (by obtain⟨w,g1,g2,g3,_⟩:=P.out _;exact⟨w,g1,g2,g3⟩) ?_;rintro f ⟨l,j⟩;refine cC ?_));have E:=j.kept k.out.1 (fun e=>dR k.out.1 k.out.2 (by simp) e);have d4:=cA E 4 _ rfl;have z4:=cY E 4;have B:=cZ f b 4 (.int .i64 2);have m:(f.setCell ⟨b,4,none⟩ (.int .i64 2)).heap[b]?=some (.cells (acL (crashA a q) d i g).toArray 162 (0,0)):=cP E 4 (.int .i64 2);generalize A:f.setCell ⟨b,4,none⟩ (.int .i64 2)=W3 at*;have K:=bZ A;obtain⟨Z,p,t⟩:=HK.out f l j W3 B m;have e5:=cA m 5 _ rfl;have e0:=cA m 0 _ rfl;have R:=bZ (nS W3.drew Z G b g av cv (crashA a q) net tr (gC a.num) p.drew hn ht);have N:=bZ t;clear p t A B m l j E c3 v;refine bZ ?_;go_wp2_with (first|rw[K.out]);clear d4 z4;refine dX [0,0,0,1,0,0,0,1,0] (by kernel_rfl) (fun _ _ _ _=>rfl) ?_;simp only[cL,cK];iterate 9 (apply sB rfl rfl;·(intro x h;(try cases h rfl);go_simp;with_reducible rfl))
 refine cB ?_;try simp only[pA]
 go_wp2_with fail;refine R.out.mono ?_;rintro r W4 ⟨rfl,G4,s,O,L⟩;go_wp2_with fail
 (first|go_end0|((try simp only[Exit.inBlock,Exit.then]);refine bodyPost_ret (results_none rfl _ _ _) rfl ?_))
 rw[fF _ (show(4:Int)≠1 by decide),aC]at s;refine⟨rfl,Z,G4,s,N.out.trans ⟨O.of_drew.mono (fun _ _ h=>Or.inr h),fun _ h=>Or.inl h,L⟩⟩
theorem aDx(n q:Int)(h:ASys W F G b g av cv a net tr)(hk:aEd a.dk)(hq:0≤q)(hn:net.length≤100000000000)(ht:tr.length≤100000000000):
 Calls prog 87 #[.pointer (some ⟨b,0,none⟩),.int .i64 n,.int .i64 q] W fun r W'=>r= .returned (.int .i64 (aBn a))∧AfterA W F G b g av cv (pU a n q) net (tr++pS a n) W':=by
 have x:=bZ h;obtain⟨N,d,E,o,i,f⟩:=h.acc;have O:=o.cell 4 _ rfl;by_cases c:a.st=2
 ·have l:aBn a=2:=if_pos c;have k:pU a n q=a:=if_pos c;have m:pS a n=[]:=if_pos c;rw[l,k,m,aC];have z:(a.st==2)=true:=by simp[c]
  clear l k m c o i f h hk;go_enter func87,ntmps87;go_wp2_with fail;go_ret;exact⟨rfl,F,G,x.out,Went.refl _ _ _⟩
 ·have z:(a.st==2)=false:=by simp[c]
  by_cases j:n=0
  ·have l:aBn a=0:=if_neg c;have k:pU a n q=crashA a q:=(if_neg c).trans (if_pos j);have m:pS a n=[gC a.num]:=(if_neg c).trans (if_pos j);rw[l,k,m];have u:(n==0)=true:=by simp[j]
   have w:=bZ (rX W F G b g av cv a net tr q h hk hq hn ht);clear l k m c j o i f h hk;go_enter func87,ntmps87;go_wp2_with (go_at_call 128;refine w.out.mono ?_;rintro e D ⟨rfl,y⟩);go_ret;exact⟨rfl,y⟩
  ·have l:aBn a=0:=if_neg c;have k:pU a n q={a with dk:={a.dk with fail:=some (n,q)}}:=(if_neg c).trans (if_neg j);have m:pS a n=[]:=(if_neg c).trans (if_neg j);rw[l,k,m,aC];have u:(n==0)=false:=by simp[j]
   have s:=bZ (aDl W N d a.dk n q o.disk);have P:=o.cell 2 _ rfl;have p:=bZ (aHS o i f);clear l k m c j o i f h hk;go_enter func87,ntmps87;go_wp2_with (go_at_call 133;refine s.out.mono ?_;rintro e D ⟨rfl,t⟩);go_ret;obtain⟨v,I,L,K,M,C,_,B⟩:=p.out.1.to p.out.2.1 p.out.2.2 t;obtain⟨A,J,H⟩:=x.out.went ⟨I,⟨v,d,E,L,K,M⟩,C,B⟩;exact⟨rfl,A,G,J,H⟩
end
end
section
open Go.RowKit Go.Maps
theorem yQ(pa pe:Nat)(w:World):
 CallsD prog 127 #[.pointer (some ⟨pa,0,none⟩),.pointer (some ⟨pe,0,none⟩)] .returning w fun e u' w'=>e= .returned (.tuple #[])∧u'= .returning∧w'=w:=by
 refine callsD_of_wpS func127 rfl fun c₀ cs hu=>?_;apply wpS_seq;apply wpS_region;simp[wpOpsS,go_sem,recoverD,hu,ntmps127,Exit.thenS];refine wpS_of_wp ?_;go_wp2;cases c₀;simp_all [bodyPostS,results,results127]
theorem yT(q:Int)(w:World):(Instr.typeAssert (.iface 199 (.agg #[.int .i64 q])) 20 199 true).run prog w= .ok (.tuple #[.agg #[.int .i64 q],.bool true]) w:=by
 simp[Instr.typeAssert,run_underlying underlying199]
theorem aDf(pa pe:Value)(x:Value):(#[pa,pe]++(Array.replicate 13 undef).setIfInBounds 3 x:Array Value)=#[pa,pe,undef,undef,undef,x,undef,undef,undef,undef,undef,undef,undef,undef,undef]:=by
 rfl
theorem aDs(W:World)(F G:Nat→Prop)(b g:Nat)(av cv:Value)(a:Ac)(net:List Mg)(tr:List Ev)(q:Int)(pa pe:Nat)(h:ASys W F G b g av cv a net tr)(hk:aEd a.dk)(hq:0≤q)(hn:net.length≤100000000000)(ht:tr.length≤100000000000)
 (ha:W.heap[pa]?=some (.cells #[.pointer (some ⟨b,0,none⟩)] 114 (0,0))) (he:W.heap[pe]?=some (.cells #[.int .i64 0] 48 (0,0))) (hpF:¬F pe) (hpG:¬G pe):
 CallsD prog 127 #[.pointer (some ⟨pa,0,none⟩),.pointer (some ⟨pe,0,none⟩)] (.panicking (oS q)) W fun e u' w'=>e= .returned (.tuple #[])∧u'= .panicking [{v:=.iface 199 (.agg #[.int .i64 q]),recovered:=true}]∧
  ∃W1,AfterA W F G b g av cv (crashA a q) net (tr++[gC a.num]) W1∧W1.heap[pe]?=W.heap[pe]?∧w'=W1.setCell ⟨pe,0,none⟩ (.int .i64 6):=by
 have hta:=yT q;have hc1:Chg NoS W (W.alloc (.cells #[.int .i64 q] 199)):=(Chg.refl _ _).alloc _;have hb1:=aA W (.cells #[.int .i64 q] 199);have a1:=cR (.cells #[.int .i64 q] 199) ha;have e1:=cR (.cells #[.int .i64 q] 199) he;have hpe:=cW he;have h1:=h.kept hc1 (fun _ _ h=>h) (fun _ _ h=>h);have hs1:(W.alloc (.cells #[.int .i64 q] 199)).heap.size=W.heap.size+1:=by simp
 generalize hX1:W.alloc (.cells #[.int .i64 q] 199)=W1 at*;have HX1:=bZ hX1;have k0:W1.cell? ⟨pa,0,none⟩=some (.pointer (some ⟨b,0,none⟩)):=cA a1 0 _ rfl;have k1:W1.cell? ⟨W.heap.size,0,none⟩=some (.int .i64 q):=cA hb1 0 _ rfl;have HCR:=bZ (rX W1 F G b g av cv a net tr q h1 hk hq hn ht);have HC1:=bZ hc1;have HS1:=bZ hs1;have HE1:=bZ e1;have HE:=bZ he;have HH:=bZ h;have HPE:=bZ hpe;clear hX1 hc1 hb1 a1 e1 h1 hs1 ha he h hk hn ht hpe;refine callsD_of_wpS func127 rfl fun c₀ cs hu=>?_;apply wpS_seq;apply wpS_region;simp[wpOpsS,go_sem,recoverD,hu,ntmps127,Exit.thenS];refine wpS_of_wp ?_;try rw[aDf]
 go_wp2_with (first|rw[HX1.out]|(go_at_call 128;refine HCR.out.mono ?_;rintro e w2 ⟨rfl,haf⟩;have HAF:=bZ haf;clear haf;refine cC ?_));refine bZ ?_;have hpe2:w2.heap[pe]?=W1.heap[pe]?:=by
  obtain⟨F',G',_,hw⟩:=HAF.out;exact hw.chg.block pe (by have:=HS1.out;have:=HPE.out;omega) (fun h=>h.elim hpF hpG)
 have e2:=hpe2.trans HE1.out;have f2:=cY e2 0;have g2:=cA e2 0 _ rfl;have HE2:=bZ (hpe2.trans (HE1.out.trans HE.out.symm));clear hpe2 e2;go_wp2;cases c₀;simp_all [bodyPostS,results,results127];exact⟨w2,AfterA.trans ⟨HC1.out.mono (fun _ _ h=>h.elim),fun _ h=>Or.inl h,fun _ h=>Or.inl h⟩ HAF.out,HE2.out,rfl⟩
end
end Go.Proofs.YtbbdgokdfhdpiaaGreatDoor
