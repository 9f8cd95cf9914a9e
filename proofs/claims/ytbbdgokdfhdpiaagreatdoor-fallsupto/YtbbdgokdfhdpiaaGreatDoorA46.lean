/-
  FallsUptoCardSaid: for every script of bounded bulk, the moorings as the program tells them and as the document tells them answer alike at each step of the kinds 4 to 19 and at the end, and each list that came out reads at the end as its owner wrote it; so the law returns true, and the script reads afterwards as it read before.
-/
import Derived.Test.YtbbdgokdfhdpiaaGreatDoorA20
import Derived.Test.YtbbdgokdfhdpiaaGreatDoorA44
namespace Go.Proofs.YtbbdgokdfhdpiaaGreatDoor
set_option linter.all false
set_option maxRecDepth 100000
set_option maxHeartbeats 0
open Go.Proofs.Tryz Go.RowKit
section
open Go.ChangeShapes Go.WideShapes Go.ChangeAt Go.RowKit
theorem aEF(p:Option Addr)(cap:Nat)(w:World):
 Calls prog 7 #[.slice p 0 cap] w fun e w'=>e= .returned (.bool true)∧Below w.heap.size w w':=by
 go_enter func7,ntmps7;go_wp2_with (go_at_call 12;refine(nO 4 19 (by decide) (by decide) (by decide) _ _ _).mono ?_;rintro e b ⟨rfl,a⟩);go_ret;exact⟨rfl,a⟩
theorem aGU(b off len cap:Nat)(n:Nat→Nat→Int)(s:Nat→ByteArray)(w:World){eb:Addr}(hgl:GlAt w w.heap.size eb)(hb:b<w.heap.size)(hm:len≤10000000)(hops:OpsAt w ⟨b,off,none⟩ len n s)(hss:∀i,i<len→(s i).size≤1000000000000)(h18:∀i,i<len→n i 18≤9223372036854775807):
 Calls prog 7 #[.slice (some ⟨b,off,none⟩) len cap] w fun e w'=>e= .returned (.bool true)∧Below w.heap.size w w':=by
 have c:=wL 4 19 (by decide) (by decide) (by decide) b off len cap n s w hgl hb hm hops hss h18;clear hgl hops hss h18;go_enter func7,ntmps7;go_wp2_with (go_at_call 12;refine c.mono ?_;rintro e d ⟨rfl,a⟩);go_ret;exact⟨rfl,a⟩
theorem aEn(os:Os){H:Type}(enc:TypeId×Value→H):∃places,DataW.whole enc prog ((aAS (World.holding prog os ⟨#[],#[],[]⟩)).forCall (fun _ _=>0) ⟨#[],#[Value.slice none 0 0],[]⟩).memory f7.params.toList Rows.fallsSpec.vars false #[Value.slice none 0 0].toList 8=some ([.nil],[],places):=
 ⟨[],by kernel_rfl⟩
theorem aC0(os:Os)(started:os.Started)(H:Type)(enc:TypeId×Value→H)(F:Stop.Interp):
 ReturnsInHanded {} checked os 7 .any ((Rows.OpenSpec.upto Rows.fallsSpec).preRow enc prog f7 Rows.fallsUptoRow.domain false Rows.fallsUptoRow.laid) (((Rows.OpenSpec.upto Rows.fallsSpec).at F).post enc prog f7 false true false false):=by
 obtain⟨I,K⟩:=aEn os enc;refine returnsInHanded_of_row (C:=checked) (s:=Rows.OpenSpec.upto Rows.fallsSpec) own started (by kernel_rfl) func7
  (witness_row_atRef (enc:=enc) (C:=checked) false (aAS (World.holding prog os ⟨#[],#[],[]⟩)) #[.slice none 0 0] rfl (by kernel_rfl) (by kernel_rfl) (by kernel_rfl)
   (OpenSpec.preRow_of_cond 8 K (by kernel_rfl) (fun k G=>by cases G;kernel_rfl) (by kernel_rfl) (zN os _))) ?_
 intro W A c J S g d R _ r _ u _ _;obtain⟨eb,P⟩:=wX u;have m:∀(j:Nat) t v,f7.params[j]?=some t→c[j]?=some v→Value.okWide prog W .any A t v:=d;have a:DataW.Whole enc prog f7.params.toList Rows.fallsSpec.vars false W c.toList J S g:=R;have G:Rows.uptoSmall H (J++S)=true:=r _ rfl;obtain⟨p,q,y,Z,rfl,a2,a3⟩:=a;have T:DataW.TrodAll enc prog W 0 (fun _=>true) true f7.params.toList c.toList J p:=y;rw[params7]at T m;obtain⟨L,V,rfl,rfl,Q⟩:=trodAll_one T;obtain⟨rfl,rfl⟩:=trodVars_none Z;obtain⟨Y,N,z,o⟩:=okWide_slice underlying22 (m 0 22 L rfl rfl);clear y d;have a:DataW.Whole enc prog f7.params.toList Rows.fallsSpec.vars false W #[L].toList [V] [] (p++[]):=R;simp only[aC]at a;have M:∀x ∈ p,x.block<W.heap.size:=fun x K=>by simpa using a.lt x K
 have f:∀W',Below W.heap.size W W'→Rows.fallsSpec.post enc prog f7 false true false false W #[L] (.bool true) W':=fun W' l=>
  ⟨_,_,_,[],p,[],a,trodAll_mk1 (shut_bool underlying4 _),trodAll_mk1 (Below.trod aDe (by kernel_rfl) (of_decide_eq_true (by kernel_rfl)) Q l M),rfl,l.frame _,fun h=>by cases h⟩
 rcases aAW o Q with h|⟨b,O,n,s,D,E,rfl,a4,a1,U,l,B,w⟩
 ·subst h;rw[o]at f⊢;exact(aEF Y z W).mono fun e W' ⟨he,l⟩=>⟨_,he,f W' l⟩
 ·rw[U]at G;obtain⟨hl,X⟩:=tK G (fun i hi=>(w i hi).2.2);rw[o]at f⊢;exact(aGU b O N z n s W P l (by omega) B (fun i hi=>cA (X i hi) (by decide)) (fun i hi=>aFp ((w i hi).1 18 (by decide) (by decide)))).mono fun e W' ⟨he,l⟩=>⟨_,he,f W' l⟩
theorem aFQ:Rows.FallsUptoSaid:=
 OpenClaim.holds_of_cond 7 f7 rfl rfl rfl rfl rfl rfl rfl ⟨rfl,rfl,rfl,rfl,rfl⟩ rfl rfl rfl rfl rfl (by kernel_rfl) func7 (by kernel_rfl)
  (of_decide_eq_true (by kernel_rfl)) (by unfold Func.isWrapper;first|(rw[if_pos (by decide+kernel)];kernel_rfl)|(rw[if_neg (by decide+kernel)];exact⟨rfl,rfl⟩))
  (fun os started H enc _ F=>by rw[OpenClaim.pre_eq_preRow];exact aC0 os started H enc F)
theorem aEy(f:FuncId)(fn:Func)(hf:Tryz.pinned.checked.prog.funcNamed "mooring/mooringlaw.Falls"=some f)(hfn:Tryz.pinned.checked.prog.funcs[f]?=some fn):
 true=Tryz.pinned.checked.prog.looks []∧∀(j:Nat) t,fn.params[j]?=some t→Tryz.pinned.checked.prog.wantsStandIn t=false:=by
 obtain rfl:f=7:=aN ((show prog.funcNamed "mooring/mooringlaw.Falls"=some 7 by kernel_rfl).symm.trans hf) |>.symm;obtain rfl:fn=f7:=(aN (func7.symm.trans hfn)).symm;refine⟨by kernel_rfl,fun j t ht=>?_⟩;rw[params7]at ht;obtain rfl:t=22:=by simpa using Array.mem_of_getElem? ht
 exact(show prog.wantsStandIn 22=false by kernel_rfl)
theorem falls_card:Rows.FallsUptoCardSaid:=
 Claim7.holds_tied_plain_at .later [] _ _ _ _ aFQ (fun _ h=>by cases h) (by kernel_rfl) (fun _ h=>by cases h) fallsUpto_row_tie rfl ⟨rfl,rfl⟩ (by kernel_rfl) rfl aEy (by kernel_rfl)
#print axioms falls_card
end
end Go.Proofs.YtbbdgokdfhdpiaaGreatDoor
