/-
  FallsUptoCardSaid: for every script of bounded bulk, the moorings as the program tells them and as the document tells them answer alike at each step of the kinds 4 to 19 and at the end, and each list that came out reads at the end as its owner wrote it; so the law returns true, and the script reads afterwards as it read before.
-/
import Derived.Test.YtbbdgokdfhdpiaaGreatDoorA20
import Derived.Test.YtbbdgokdfhdpiaaGreatDoorA43
namespace Go.Proofs.YtbbdgokdfhdpiaaGreatDoor
set_option linter.all false
set_option maxRecDepth 100000
set_option maxHeartbeats 40000000
open Go.Proofs.Tryz Go.RowKit
section
open Go.ChangeShapes Go.WideShapes Go.ChangeAt Go.RowKit
theorem aEI(p:Option Addr)(cap:Nat)(w:World):
 Calls prog 7 #[.slice p 0 cap] w fun e w'=>e= .returned (.bool true)∧Below w.heap.size w w':=by
 go_enter func7,ntmps7;go_wp2_with (go_at_call 12;refine(nJ 4 19 (by decide) (by decide) (by decide) _ _ _).mono ?_;rintro e b ⟨rfl,a⟩);go_ret;exact⟨rfl,a⟩
theorem aHs(b off len cap:Nat)(n:Nat→Nat→Int)(s:Nat→ByteArray)(w:World){eb:Addr}(hgl:GlAt w w.heap.size eb)(hb:b<w.heap.size)(hm:len≤10000000)(hops:OpsAt w ⟨b,off,none⟩ len n s)(hss:∀i,i<len→(s i).size≤1000000000000)(h18:∀i,i<len→n i 18≤9223372036854775807):
 Calls prog 7 #[.slice (some ⟨b,off,none⟩) len cap] w fun e w'=>e= .returned (.bool true)∧Below w.heap.size w w':=by
 have c:=wH 4 19 (by decide) (by decide) (by decide) b off len cap n s w hgl hb hm hops hss h18;clear hgl hops hss h18;go_enter func7,ntmps7;go_wp2_with (go_at_call 12;refine c.mono ?_;rintro e d ⟨rfl,a⟩);go_ret;exact⟨rfl,a⟩
theorem aER(os:Os){H:Type}(enc:TypeId×Value→H):∃places,DataW.whole enc prog ((aBB (World.holding prog os ⟨#[],#[],[]⟩)).forCall (fun _ _=>0) ⟨#[],#[Value.slice none 0 0],[]⟩).memory f7.params.toList Rows.fallsSpec.vars false #[Value.slice none 0 0].toList 8=some ([.nil],[],places):=
 ⟨[],by kernel_rfl⟩
theorem aCT(os:Os)(started:os.Started)(H:Type)(enc:TypeId×Value→H)(F:Stop.Interp):
 ReturnsInHanded {} checked os 7 .any ((Rows.OpenSpec.upto Rows.fallsSpec).preRow enc prog f7 Rows.fallsUptoRow.domain false Rows.fallsUptoRow.laid) (((Rows.OpenSpec.upto Rows.fallsSpec).at F).post enc prog f7 false true false false):=by
 obtain⟨I,J⟩:=aER os enc;refine returnsInHanded_of_row (C:=checked) (s:=Rows.OpenSpec.upto Rows.fallsSpec) own started (by kernel_rfl) func7
  (witness_row_atRef (enc:=enc) (C:=checked) false (aBB (World.holding prog os ⟨#[],#[],[]⟩)) #[.slice none 0 0] rfl (by kernel_rfl) (by kernel_rfl) (by kernel_rfl)
   (OpenSpec.preRow_of_cond 8 J (by kernel_rfl) (fun k G=>by cases G;kernel_rfl) (by kernel_rfl) (yY os _))) ?_
 intro W B c L Q g d T _ r _ u _ _;obtain⟨eb,N⟩:=xA u;have m:∀(j:Nat) t v,f7.params[j]?=some t→c[j]?=some v→Value.okWide prog W .any B t v:=d;have a:DataW.Whole enc prog f7.params.toList Rows.fallsSpec.vars false W c.toList L Q g:=T;have G:Rows.uptoSmall H (L++Q)=true:=r _ rfl;obtain⟨p,q,w,X,rfl,a4,a2⟩:=a;have R:DataW.TrodAll enc prog W 0 (fun _=>true) true f7.params.toList c.toList L p:=w;rw[params7]at R m;obtain⟨K,Y,rfl,rfl,S⟩:=trodAll_one R;obtain⟨rfl,rfl⟩:=trodVars_none X;obtain⟨U,M,z,o⟩:=okWide_slice underlying22 (m 0 22 K rfl rfl);clear w d;have a:DataW.Whole enc prog f7.params.toList Rows.fallsSpec.vars false W #[K].toList [Y] [] (p++[]):=T;simp only[aC]at a;have O:∀x ∈ p,x.block<W.heap.size:=fun x J=>by simpa using a.lt x J
 have f:∀W',Below W.heap.size W W'→Rows.fallsSpec.post enc prog f7 false true false false W #[K] (.bool true) W':=fun W' l=>
  ⟨_,_,_,[],p,[],a,trodAll_mk1 (shut_bool underlying4 _),trodAll_mk1 (Below.trod aDp (by kernel_rfl) (of_decide_eq_true (by kernel_rfl)) S l O),rfl,l.frame _,fun h=>by cases h⟩
 rcases aBh o S with h|⟨b,P,n,s,D,E,rfl,a1,a3,Z,l,A,y⟩
 ·subst h;rw[o]at f⊢;exact(aEI U z W).mono fun e W' ⟨he,l⟩=>⟨_,he,f W' l⟩
 ·rw[Z]at G;obtain⟨hl,V⟩:=tD G (fun i hi=>(y i hi).2.2);rw[o]at f⊢;exact(aHs b P M z n s W N l (by omega) A (fun i hi=>cA (V i hi) (by decide)) (fun i hi=>aFX ((y i hi).1 18 (by decide) (by decide)))).mono fun e W' ⟨he,l⟩=>⟨_,he,f W' l⟩
theorem aE4:Rows.FallsUptoSaid:=
 OpenClaim.holds_of_cond 7 f7 rfl rfl rfl rfl rfl rfl rfl ⟨rfl,rfl,rfl,rfl,rfl⟩ rfl rfl rfl rfl rfl (by kernel_rfl) func7 (by kernel_rfl)
  (of_decide_eq_true (by kernel_rfl)) (by unfold Func.isWrapper;first|(rw[if_pos (by decide+kernel)];kernel_rfl)|(rw[if_neg (by decide+kernel)];exact⟨rfl,rfl⟩))
  (fun os started H enc _ F=>by rw[OpenClaim.pre_eq_preRow];exact aCT os started H enc F)
theorem aEA(f:FuncId)(fn:Func)(hf:Tryz.pinned.checked.prog.funcNamed "mooring/mooringlaw.Falls"=some f)(hfn:Tryz.pinned.checked.prog.funcs[f]?=some fn):
 true=Tryz.pinned.checked.prog.looks []∧∀(j:Nat) t,fn.params[j]?=some t→Tryz.pinned.checked.prog.wantsStandIn t=false:=by
 obtain rfl:f=7:=aN ((show prog.funcNamed "mooring/mooringlaw.Falls"=some 7 by kernel_rfl).symm.trans hf) |>.symm;obtain rfl:fn=f7:=(aN (func7.symm.trans hfn)).symm;refine⟨by kernel_rfl,fun j t ht=>?_⟩;rw[params7]at ht;obtain rfl:t=22:=by simpa using Array.mem_of_getElem? ht
 exact(show prog.wantsStandIn 22=false by kernel_rfl)
theorem falls_card:Rows.FallsUptoCardSaid:=
 Claim7.holds_tied_plain_at .later [] _ _ _ _ aE4 (fun _ h=>by cases h) (by kernel_rfl) (fun _ h=>by cases h) fallsUpto_row_tie rfl ⟨rfl,rfl⟩ (by kernel_rfl) rfl aEA (by kernel_rfl)
#print axioms falls_card
end
end Go.Proofs.YtbbdgokdfhdpiaaGreatDoor
