/- A part of the proof: KptCard. -/
import Derived.Test.YtbbdgokdfhdpiaaGreatDoorC30
import Derived.Test.YtbbdgokdfhdpiaaGreatDoorC31
namespace Go.Proofs.YtbbdgokdfhdpiaaGreatDoor
set_option linter.all false
set_option maxRecDepth 100000
set_option maxHeartbeats 40000000
open Go.Proofs.Tryz Go.RowKit
section
open Go.ChangeShapes Go.WideShapes Go.ChangeAt Go.RowKit
theorem aDJ(os:Os){H:Type}(enc:TypeId×Value→H):∃places,DataW.whole enc prog ((aEp (World.holding prog os ⟨#[],#[],[]⟩)).forCall (fun _ _=>0) ⟨#[],#[Value.slice none 0 0,Value.slice none 0 0,Value.int .i64 0],[]⟩).memory f9.params.toList Rows.keptSpec.vars false #[Value.slice none 0 0,Value.slice none 0 0,Value.int .i64 0].toList 8=some ([.nil,.nil,.lit (.int .i64 0)],[],places):=
 ⟨[],by kernel_rfl⟩
theorem aCv(os:Os)(started:os.Started)(H:Type)(enc:TypeId×Value→H)(F:Stop.Interp):
 ReturnsInHanded {} checked os 9 .any ((Rows.OpenSpec.upto Rows.keptSpec).preRow enc prog f9 Rows.keptUptoRow.domain false Rows.keptUptoRow.laid) (((Rows.OpenSpec.upto Rows.keptSpec).at F).post enc prog f9 false true false false):=by
 obtain⟨J,f⟩:=aDJ os enc;refine returnsInHanded_of_row (C:=checked) (s:=Rows.OpenSpec.upto Rows.keptSpec) own started (by kernel_rfl) func9
  (witness_row_atRef (enc:=enc) (C:=checked) false (aEp (World.holding prog os ⟨#[],#[],[]⟩)) #[.slice none 0 0,.slice none 0 0,.int .i64 0] rfl (by kernel_rfl) (by kernel_rfl) (by kernel_rfl)
   (OpenSpec.preRow_of_cond 8 f (by kernel_rfl) (fun k w=>by cases w;kernel_rfl) (by kernel_rfl) (aDV os _))) ?_
 intro W E c L T g d S _ r _ u _ _;obtain⟨eb,O⟩:=aCq u;have a:∀(j:Nat) t v,f9.params[j]?=some t→c[j]?=some v→Value.okWide prog W .any E t v:=d;have b:DataW.Whole enc prog f9.params.toList Rows.keptSpec.vars false W c.toList L T g:=S;have w:Rows.uptoSmall H (L++T)=true:=r _ rfl;obtain⟨p,q,B,hV,rfl,a3,a4⟩:=b;have V:DataW.TrodAll enc prog W 0 (fun _=>true) true f9.params.toList c.toList L p:=B;rw[params9]at V a;obtain⟨N,K,M,d0,d1,Z,Y,X,Q,rfl,rfl,rfl,R,U,P⟩:=trodAll_three V;obtain⟨rfl,rfl⟩:=trodVars_none hV;obtain⟨a0,i,G,D⟩:=okWide_slice underlying25 (a 0 25 N rfl rfl);obtain⟨a1,m,I,y⟩:=okWide_slice underlying26 (a 1 26 K rfl rfl);obtain⟨n2,A⟩:=okWide_int underlying3 (a 2 3 M rfl rfl);clear B d;have b:DataW.Whole enc prog f9.params.toList Rows.keptSpec.vars false W #[N,K,M].toList [d0,d1,Z] [] (Y++X++Q++[]):=S;simp only[aC]at b w;have n:∀x ∈ Y++X++Q,x.block<W.heap.size:=fun x f=>by simpa using b.lt x (by simpa using f)
 have z:∀W',Below W.heap.size W W'→Rows.keptSpec.post enc prog f9 false true false false W #[N,K,M] (.bool true) W':=fun W' hb=>
  ⟨_,_,_,[],_,[],b,trodAll_mk1 (shut_bool underlying4 _),trodAll_mk3 (Below.trod aAk (by kernel_rfl) (of_decide_eq_true (by kernel_rfl)) R hb (fun x f=>n x (List.mem_append_left _ (List.mem_append_left _ (f))))) (Below.trod aAk (by kernel_rfl) (of_decide_eq_true (by kernel_rfl)) U hb (fun x f=>n x (List.mem_append_left _ (List.mem_append_right _ f)))) (Below.trod aAk (by kernel_rfl) (of_decide_eq_true (by kernel_rfl)) P hb (fun x f=>n x (List.mem_append_right _ f))),rfl,hb.frame _,fun h=>by cases h⟩
 obtain⟨⟨l,hl⟩,D0,E0,e0⟩:=aEF D R;obtain⟨⟨o,ho⟩,D1,E1,e1⟩:=aBx y U;obtain⟨i2,j2⟩:=aEr A P;have a2:i≤1048576:=by
  rcases e0 with e|e
  ·omega
  ·exact zF w (by simp) e
 have a5:m≤1048576:=by
  rcases e1 with e|e
  ·omega
  ·exact zF w (by simp) e
 rw[D,y,A]at z⊢;exact(aE8 W eb O a0 a1 i G m I l o n2 i2 j2 hl (by omega) ho (by omega)).mono fun e W' ⟨he,hb⟩=>⟨_,he,z W' hb⟩
theorem aEc:Rows.KeptUptoSaid:=
 OpenClaim.holds_of_cond 9 f9 rfl rfl rfl rfl rfl rfl rfl ⟨rfl,rfl,rfl,rfl,rfl⟩ rfl rfl rfl rfl rfl (by kernel_rfl) func9 (by kernel_rfl)
  (of_decide_eq_true (by kernel_rfl)) (by unfold Func.isWrapper;first|(rw[if_pos (by decide+kernel)];kernel_rfl)|(rw[if_neg (by decide+kernel)];exact⟨rfl,rfl⟩))
  (fun os started H enc _ F=>by rw[OpenClaim.pre_eq_preRow];exact aCv os started H enc F)
theorem aDF(f:FuncId)(fn:Func)(hf:Tryz.pinned.checked.prog.funcNamed "mooring/mooringkeep.Kept"=some f)(hfn:Tryz.pinned.checked.prog.funcs[f]?=some fn):
 true=Tryz.pinned.checked.prog.looks []∧∀(j:Nat) t,fn.params[j]?=some t→Tryz.pinned.checked.prog.wantsStandIn t=false:=by
 obtain rfl:f=9:=aN ((show prog.funcNamed "mooring/mooringkeep.Kept"=some 9 by kernel_rfl).symm.trans hf) |>.symm;obtain rfl:fn=f9:=(aN (func9.symm.trans hfn)).symm;refine⟨by kernel_rfl,fun j t ht=>?_⟩;rw[params9]at ht;have a:=Array.mem_of_getElem? ht;simp only[List.mem_toArray,List.mem_cons,List.not_mem_nil,or_false]at a;rcases a with rfl|rfl|rfl
 ·exact(show prog.wantsStandIn 25=false by kernel_rfl)
 ·exact(show prog.wantsStandIn 26=false by kernel_rfl)
 ·exact(show prog.wantsStandIn 3=false by kernel_rfl)
theorem kpt_card:Rows.KeptUptoCardSaid:=
 Claim7.holds_tied_plain_at .later [] _ _ _ _ aEc (fun _ h=>by cases h) (by kernel_rfl) (fun _ h=>by cases h) keptUpto_row_tie rfl ⟨rfl,rfl⟩ (by kernel_rfl) rfl aDF (by kernel_rfl)
#print axioms kpt_card
end
end Go.Proofs.YtbbdgokdfhdpiaaGreatDoor
