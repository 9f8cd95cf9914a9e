/- A part of the proof: LivCard. -/
import Derived.Test.YtbbdgokdfhdpiaaGreatDoorE34
import Derived.Test.YtbbdgokdfhdpiaaGreatDoorE35
namespace Go.Proofs.YtbbdgokdfhdpiaaGreatDoor
set_option linter.all false
set_option maxRecDepth 100000
set_option maxHeartbeats 40000000
open Go.Proofs.Tryz Go.RowKit
section
open Go.ChangeShapes Go.WideShapes Go.ChangeAt Go.RowKit
theorem aEt(os:Os){H:Type}(enc:TypeId×Value→H):∃places,DataW.whole enc prog ((aE4 (World.holding prog os ⟨#[],#[],[]⟩)).forCall (fun _ _=>0) ⟨#[],#[Value.slice none 0 0,Value.slice none 0 0,Value.int .i64 0,Value.int .i64 0],[]⟩).memory f10.params.toList Rows.livelySpec.vars false #[Value.slice none 0 0,Value.slice none 0 0,Value.int .i64 0,Value.int .i64 0].toList 8=some ([.nil,.nil,.lit (.int .i64 0),.lit (.int .i64 0)],[],places):=
 ⟨[],by kernel_rfl⟩
theorem aCN(os:Os)(started:os.Started)(H:Type)(enc:TypeId×Value→H)(F:Stop.Interp):
 ReturnsInHanded {} checked os 10 .any ((Rows.OpenSpec.upto Rows.livelySpec).preRow enc prog f10 Rows.livelyUptoRow.domain false Rows.livelyUptoRow.laid) (((Rows.OpenSpec.upto Rows.livelySpec).at F).post enc prog f10 false true false false):=by
 obtain⟨K,b⟩:=aEt os enc;refine returnsInHanded_of_row (C:=checked) (s:=Rows.OpenSpec.upto Rows.livelySpec) own started (by kernel_rfl) func10
  (witness_row_atRef (enc:=enc) (C:=checked) false (aE4 (World.holding prog os ⟨#[],#[],[]⟩)) #[.slice none 0 0,.slice none 0 0,.int .i64 0,.int .i64 0] rfl (by kernel_rfl) (by kernel_rfl) (by kernel_rfl)
   (OpenSpec.preRow_of_cond 8 b (by kernel_rfl) (fun k w=>by cases w;kernel_rfl) (by kernel_rfl) (aEz os _))) ?_
 intro W G d N X i f V _ r _ u _ _;obtain⟨eb,Q⟩:=aCY u;have a:∀(j:Nat) t v,f10.params[j]?=some t→d[j]?=some v→Value.okWide prog W .any G t v:=f;have c:DataW.Whole enc prog f10.params.toList Rows.livelySpec.vars false W d.toList N X i:=V;have w:Rows.uptoSmall H (N++X)=true:=r _ rfl;obtain⟨p,q,B,hV,rfl,a3,a4⟩:=c;have Z:DataW.TrodAll enc prog W 0 (fun _=>true) true f10.params.toList d.toList N p:=B;rw[params10]at Z a;obtain⟨P,M,O,L,d0,d1,d2,d3,p0,p1,T,R,rfl,rfl,rfl,U,Y,S,h3⟩:=trodAll_four Z;obtain⟨rfl,rfl⟩:=trodVars_none hV;obtain⟨a0,m,I,D⟩:=okWide_slice underlying25 (a 0 25 P rfl rfl);obtain⟨a1,n,J,y⟩:=okWide_slice underlying26 (a 1 26 M rfl rfl);obtain⟨n2,A⟩:=okWide_int underlying3 (a 2 3 O rfl rfl);obtain⟨n3,E⟩:=okWide_int underlying3 (a 3 3 L rfl rfl);clear B f;have c:DataW.Whole enc prog f10.params.toList Rows.livelySpec.vars false W #[P,M,O,L].toList [d0,d1,d2,d3] [] (p0++p1++T++R++[]):=V;simp only[aC]at c w;have g:∀x ∈ p0++p1++T++R,x.block<W.heap.size:=fun x b=>by simpa using c.lt x (by simpa using b)
 have z:∀W',Below W.heap.size W W'→Rows.livelySpec.post enc prog f10 false true false false W #[P,M,O,L] (.bool true) W':=fun W' hb=>
  ⟨_,_,_,[],_,[],c,trodAll_mk1 (shut_bool underlying4 _),trodAll_mk4 (Below.trod wB (by kernel_rfl) (of_decide_eq_true (by kernel_rfl)) U hb (fun x b=>g x (List.mem_append_left _ (List.mem_append_left _ (List.mem_append_left _ (b)))))) (Below.trod wB (by kernel_rfl) (of_decide_eq_true (by kernel_rfl)) Y hb (fun x b=>g x (List.mem_append_left _ (List.mem_append_left _ (List.mem_append_right _ b))))) (Below.trod wB (by kernel_rfl) (of_decide_eq_true (by kernel_rfl)) S hb (fun x b=>g x (List.mem_append_left _ (List.mem_append_right _ b)))) (Below.trod wB (by kernel_rfl) (of_decide_eq_true (by kernel_rfl)) h3 hb (fun x b=>g x (List.mem_append_right _ b))),rfl,hb.frame _,fun h=>by cases h⟩
 obtain⟨⟨l,hl⟩,D0,E0,e0⟩:=aFi D U;obtain⟨⟨o,ho⟩,D1,E1,e1⟩:=aBZ y Y;obtain⟨i2,j2⟩:=aBa A S;obtain⟨i3,j3⟩:=aBa E h3;have a2:m≤1048576:=by
  rcases e0 with e|e
  ·omega
  ·exact zW w (by simp) e
 have a5:n≤1048576:=by
  rcases e1 with e|e
  ·omega
  ·exact zW w (by simp) e
 rw[D,y,A,E]at z⊢;exact(aDa W eb Q a0 a1 m I n J l o n2 i2 j2 n3 i3 j3 hl (by omega) ho (by omega)).mono fun e W' ⟨he,hb⟩=>⟨_,he,z W' hb⟩
theorem aFk:Rows.LivelyUptoSaid:=
 OpenClaim.holds_of_cond 10 f10 rfl rfl rfl rfl rfl rfl rfl ⟨rfl,rfl,rfl,rfl,rfl⟩ rfl rfl rfl rfl rfl (by kernel_rfl) func10 (by kernel_rfl)
  (of_decide_eq_true (by kernel_rfl)) (by unfold Func.isWrapper;first|(rw[if_pos (by decide+kernel)];kernel_rfl)|(rw[if_neg (by decide+kernel)];exact⟨rfl,rfl⟩))
  (fun os started H enc _ F=>by rw[OpenClaim.pre_eq_preRow];exact aCN os started H enc F)
theorem aEf(f:FuncId)(fn:Func)(hf:Tryz.pinned.checked.prog.funcNamed "mooring/mooringkeep.Lively"=some f)(hfn:Tryz.pinned.checked.prog.funcs[f]?=some fn):
 true=Tryz.pinned.checked.prog.looks []∧∀(j:Nat) t,fn.params[j]?=some t→Tryz.pinned.checked.prog.wantsStandIn t=false:=by
 obtain rfl:f=10:=aN ((show prog.funcNamed "mooring/mooringkeep.Lively"=some 10 by kernel_rfl).symm.trans hf) |>.symm;obtain rfl:fn=f10:=(aN (func10.symm.trans hfn)).symm;refine⟨by kernel_rfl,fun j t ht=>?_⟩;rw[params10]at ht;have a:=Array.mem_of_getElem? ht;simp only[List.mem_toArray,List.mem_cons,List.not_mem_nil,or_false]at a;rcases a with rfl|rfl|rfl|rfl
 ·exact(show prog.wantsStandIn 25=false by kernel_rfl)
 ·exact(show prog.wantsStandIn 26=false by kernel_rfl)
 ·exact(show prog.wantsStandIn 3=false by kernel_rfl)
 ·exact(show prog.wantsStandIn 3=false by kernel_rfl)
theorem liv_card:Rows.LivelyUptoCardSaid:=
 Claim7.holds_tied_plain_at .later [] _ _ _ _ aFk (fun _ h=>by cases h) (by kernel_rfl) (fun _ h=>by cases h) livelyUpto_row_tie rfl ⟨rfl,rfl⟩ (by kernel_rfl) rfl aEf (by kernel_rfl)
#print axioms liv_card
end
end Go.Proofs.YtbbdgokdfhdpiaaGreatDoor
