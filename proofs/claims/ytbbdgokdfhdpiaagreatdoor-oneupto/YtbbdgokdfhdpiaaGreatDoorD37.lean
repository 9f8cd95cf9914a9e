/- A part of the proof: OneCard. -/
import Derived.Test.YtbbdgokdfhdpiaaGreatDoorD34
import Derived.Test.YtbbdgokdfhdpiaaGreatDoorD36
namespace Go.Proofs.YtbbdgokdfhdpiaaGreatDoor
set_option linter.all false
set_option maxRecDepth 100000
set_option maxHeartbeats 40000000
open Go.Proofs.Tryz Go.RowKit
section
open Go.ChangeShapes Go.WideShapes Go.ChangeAt Go.RowKit
theorem aEW(os:Os){H:Type}(enc:TypeId×Value→H):∃places,DataW.whole enc prog ((aGx (World.holding prog os ⟨#[],#[],[]⟩)).forCall (fun _ _=>0) ⟨#[],#[Value.slice none 0 0,Value.slice none 0 0],[]⟩).memory f8.params.toList Rows.oneSpec.vars false #[Value.slice none 0 0,Value.slice none 0 0].toList 8=some ([.nil,.nil],[],places):=
 ⟨[],by kernel_rfl⟩
theorem aDA(os:Os)(started:os.Started)(H:Type)(enc:TypeId×Value→H)(F:Stop.Interp):
 ReturnsInHanded {} checked os 8 .any ((Rows.OpenSpec.upto Rows.oneSpec).preRow enc prog f8 Rows.oneUptoRow.domain false Rows.oneUptoRow.laid) (((Rows.OpenSpec.upto Rows.oneSpec).at F).post enc prog f8 false true false false):=by
 obtain⟨I,m⟩:=aEW os enc;refine returnsInHanded_of_row (C:=checked) (s:=Rows.OpenSpec.upto Rows.oneSpec) own started (by kernel_rfl) func8
  (witness_row_atRef (enc:=enc) (C:=checked) false (aGx (World.holding prog os ⟨#[],#[],[]⟩)) #[.slice none 0 0,.slice none 0 0] rfl (by kernel_rfl) (by kernel_rfl) (by kernel_rfl)
   (OpenSpec.preRow_of_cond 8 m (by kernel_rfl) (fun k u=>by cases u;kernel_rfl) (by kernel_rfl) (aFZ os _))) ?_
 intro W D b K P f d O _ n _ r _ _;obtain⟨X,M⟩:=aD6 r;have c:∀(j:Nat) t v,f8.params[j]?=some t→b[j]?=some v→Value.okWide prog W .any D t v:=d;have a:DataW.Whole enc prog f8.params.toList Rows.oneSpec.vars false W b.toList K P f:=O;have u:Rows.uptoSmall H (K++P)=true:=n _ rfl;obtain⟨p,q,A,hV,rfl,a3,a4⟩:=a;have R:DataW.TrodAll enc prog W 0 (fun _=>true) true f8.params.toList b.toList K p:=A;rw[params8]at R c;obtain⟨L,J,Y,V,T,S,rfl,rfl,rfl,N,Q⟩:=trodAll_two R;obtain⟨rfl,rfl⟩:=trodVars_none hV;obtain⟨a0,g,E,B⟩:=okWide_slice underlying25 (c 0 25 L rfl rfl);obtain⟨a1,i,G,y⟩:=okWide_slice underlying26 (c 1 26 J rfl rfl);clear A d;have a:DataW.Whole enc prog f8.params.toList Rows.oneSpec.vars false W #[L,J].toList [Y,V] [] (T++S++[]):=O;simp only[aC]at a u;have w:∀x ∈ T++S,x.block<W.heap.size:=fun x m=>by simpa using a.lt x (by simpa using m)
 have z:∀W',Below W.heap.size W W'→Rows.oneSpec.post enc prog f8 false true false false W #[L,J] (.bool true) W':=fun W' hb=>
  ⟨_,_,_,[],_,[],a,trodAll_mk1 (shut_bool underlying4 _),trodAll_mk2 (Below.trod aEH (by kernel_rfl) (of_decide_eq_true (by kernel_rfl)) N hb (fun x m=>w x (List.mem_append_left _ (m)))) (Below.trod aEH (by kernel_rfl) (of_decide_eq_true (by kernel_rfl)) Q hb (fun x m=>w x (List.mem_append_right _ m))),rfl,hb.frame _,fun h=>by cases h⟩
 obtain⟨⟨l,hl⟩,D0,E0,U⟩:=aGQ B N;obtain⟨⟨o,Z⟩,D1,E1,e1⟩:=aCV y Q;have a2:g≤1048576:=by
  rcases U with e|e
  ·omega
  ·exact aAT u (by simp) e
 have a5:i≤1048576:=by
  rcases e1 with e|e
  ·omega
  ·exact aAT u (by simp) e
 rw[B,y]at z⊢;exact(aIQ W X M a0 a1 g E i G l o hl (by omega) Z (by omega)).mono fun e W' ⟨he,hb⟩=>⟨_,he,z W' hb⟩
theorem aGt:Rows.OneUptoSaid:=
 OpenClaim.holds_of_cond 8 f8 rfl rfl rfl rfl rfl rfl rfl ⟨rfl,rfl,rfl,rfl,rfl⟩ rfl rfl rfl rfl rfl (by kernel_rfl) func8 (by kernel_rfl)
  (of_decide_eq_true (by kernel_rfl)) (by unfold Func.isWrapper;first|(rw[if_pos (by decide+kernel)];kernel_rfl)|(rw[if_neg (by decide+kernel)];exact⟨rfl,rfl⟩))
  (fun os started H enc _ F=>by rw[OpenClaim.pre_eq_preRow];exact aDA os started H enc F)
theorem aFR(f:FuncId)(fn:Func)(hf:Tryz.pinned.checked.prog.funcNamed "mooring/mooringkeep.One"=some f)(hfn:Tryz.pinned.checked.prog.funcs[f]?=some fn):
 true=Tryz.pinned.checked.prog.looks []∧∀(j:Nat) t,fn.params[j]?=some t→Tryz.pinned.checked.prog.wantsStandIn t=false:=by
 obtain rfl:f=8:=aN ((show prog.funcNamed "mooring/mooringkeep.One"=some 8 by kernel_rfl).symm.trans hf) |>.symm;obtain rfl:fn=f8:=(aN (func8.symm.trans hfn)).symm;refine⟨by kernel_rfl,fun j t ht=>?_⟩;rw[params8]at ht;have a:=Array.mem_of_getElem? ht;simp only[List.mem_toArray,List.mem_cons,List.not_mem_nil,or_false]at a;rcases a with rfl|rfl
 ·exact(show prog.wantsStandIn 25=false by kernel_rfl)
 ·exact(show prog.wantsStandIn 26=false by kernel_rfl)
theorem one_card:Rows.OneUptoCardSaid:=
 Claim7.holds_tied_plain_at .later [] _ _ _ _ aGt (fun _ h=>by cases h) (by kernel_rfl) (fun _ h=>by cases h) oneUpto_row_tie rfl ⟨rfl,rfl⟩ (by kernel_rfl) rfl aFR (by kernel_rfl)
#print axioms one_card
end
end Go.Proofs.YtbbdgokdfhdpiaaGreatDoor
