/-
  RecordsUptoCardSaid: for every script of bounded bulk, Record and Replay as the program tells them and as the document tells them answer alike at each step of the kinds 2 and 3; each list that came out reads at the end as its owner wrote it; so the law returns true, and the script reads afterwards as it read before.
-/
import Derived.Test.YtbbdgokdfhdpiaaGreatDoorLawPlays
import Derived.Test.YtbbdgokdfhdpiaaGreatDoorBulk
import Derived.Test.YtbbdgokdfhdpiaaGreatDoorLay
namespace Go.Proofs.YtbbdgokdfhdpiaaGreatDoor
open Go.ChangeShapes Go.WideShapes Go.ChangeAt Go.RowKit

theorem records_empty (p : Option Addr) (cap : Nat) (w : World) :
    Calls Tryz.prog 4 #[.slice p 0 cap] w fun e w' => e = .returned (.bool true) ∧ Below w.heap.size w w' := by
  go_enter Tryz.func4, Tryz.ntmps4
  go_wp2_with (go_at_call 12; refine (plays_two_empty _ _ _).mono ?_; rintro e w1 ⟨rfl, hb1⟩)
  go_ret
  exact ⟨rfl, hb1⟩

theorem records_any (b off len cap : Nat) (n : Nat → Nat → Int) (s : Nat → ByteArray) (w : World) (hb : b < w.heap.size) (hm : len ≤ 100000000000) (hops : OpsAt w ⟨b, off, none⟩ len n s) (hss : ∀ i, i < len → (s i).size ≤ 1000000000000) :
    Calls Tryz.prog 4 #[.slice (some ⟨b, off, none⟩) len cap] w fun e w' => e = .returned (.bool true) ∧ Below w.heap.size w w' := by
  have hc := plays_two b off len cap n s w hb hm hops hss
  go_enter Tryz.func4, Tryz.ntmps4
  go_wp2_with (go_at_call 12; refine hc.mono ?_; rintro e w1 ⟨rfl, hb1⟩)
  go_ret
  exact ⟨rfl, hb1⟩

theorem records_reads (os : Os) {H : Type} (enc : TypeId × Value → H) : ∃ places, DataW.whole enc Tryz.prog ((laidW (World.holding Tryz.prog os ⟨#[], #[], []⟩)).forCall (fun _ _ => 0) ⟨#[], #[Value.slice none 0 0], []⟩).memory Tryz.f4.params.toList Rows.recordsSpec.vars false #[Value.slice none 0 0].toList 8 = some ([.nil], [], places) :=
  ⟨[], by kernel_rfl⟩

set_option maxRecDepth 100000 in
theorem records_lifted (os : Os) (started : os.Started) (H : Type) (enc : TypeId × Value → H) (F : Stop.Interp) :
    ReturnsInHanded {} Tryz.checked os 4 .any ((Rows.OpenSpec.upto Rows.recordsSpec).preRow enc Tryz.prog Tryz.f4 Rows.recordsUptoRow.domain false Rows.recordsUptoRow.laid) (((Rows.OpenSpec.upto Rows.recordsSpec).at F).post enc Tryz.prog Tryz.f4 false true false false) := by
  obtain ⟨places, hx⟩ := records_reads os enc
  refine returnsInHanded_of_row (C := Tryz.checked) (s := Rows.OpenSpec.upto Rows.recordsSpec) own started (by kernel_rfl) Tryz.func4
    (witness_row_atRef (enc := enc) (C := Tryz.checked) false (laidW (World.holding Tryz.prog os ⟨#[], #[], []⟩)) #[.slice none 0 0] rfl (by kernel_rfl) (by kernel_rfl) (by kernel_rfl)
      (OpenSpec.preRow_of_cond 8 hx (by kernel_rfl) (fun k hk => by cases hk; kernel_rfl) (by kernel_rfl) (laidMet_w os _))) ?_
  intro W base args ds gs before hval0 hW _ hcond _ _ _ _
  have hval : ∀ (j : Nat) t v, Tryz.f4.params[j]? = some t → args[j]? = some v → Value.okWide Tryz.prog W .any base t v := hval0
  have hW' : DataW.Whole enc Tryz.prog Tryz.f4.params.toList Rows.recordsSpec.vars false W args.toList ds gs before := hW
  have hk : Rows.uptoSmall H (ds ++ gs) = true := hcond _ rfl
  obtain ⟨p, q, hA0, hV, rfl, hfz, hnd⟩ := hW'
  have hA : DataW.TrodAll enc Tryz.prog W 0 (fun _ => true) true Tryz.f4.params.toList args.toList ds p := hA0
  rw [Tryz.params4] at hA hval
  obtain ⟨v0, d0, rfl, rfl, h0⟩ := trodAll_one hA
  obtain ⟨rfl, rfl⟩ := trodVars_none hV
  obtain ⟨a0, len, cap, hv0⟩ := okWide_slice Tryz.underlying22 (hval 0 22 v0 rfl rfl)
  clear hA0 hval0
  have hW' : DataW.Whole enc Tryz.prog Tryz.f4.params.toList Rows.recordsSpec.vars false W #[v0].toList [d0] [] (p ++ []) := hW
  simp only [List.append_nil] at hW'
  have hlt : ∀ x ∈ p, x.block < W.heap.size := fun x hx => by simpa using hW'.lt x hx
  have fin : ∀ W', Below W.heap.size W W' → Rows.recordsSpec.post enc Tryz.prog Tryz.f4 false true false false W #[v0] (.bool true) W' := fun W' hb =>
    ⟨_, _, _, [], p, [], hW', trodAll_mk1 (shut_bool Tryz.underlying4 _), trodAll_mk1 (Below.trod laidOut (by kernel_rfl) (of_decide_eq_true (by kernel_rfl)) h0 hb hlt), rfl, hb.frame _, fun h => by cases h⟩
  rcases open_ops hv0 h0 with h | ⟨b, off, n, s, D, E, rfl, hlc, hcm, hd, hb, hops, hel⟩
  · subst h
    rw [hv0] at fin ⊢
    exact (records_empty a0 cap W).mono fun e W' ⟨he, hb⟩ => ⟨_, he, fin W' hb⟩
  · rw [hd] at hk
    obtain ⟨hl, hs⟩ := script_small hk (fun i hi => (hel i hi).2.2)
    rw [hv0] at fin ⊢
    exact (records_any b off len cap n s W hb (by omega) hops (fun i hi => Nat.le_trans (hs i hi) (by decide))).mono fun e W' ⟨he, hb⟩ => ⟨_, he, fin W' hb⟩

theorem records_said : Rows.RecordsUptoSaid :=
  OpenClaim.holds_of_cond 4 Tryz.f4 rfl rfl rfl rfl rfl rfl rfl ⟨rfl, rfl, rfl, rfl, rfl⟩ rfl rfl rfl rfl rfl (by kernel_rfl) Tryz.func4 (by kernel_rfl)
    (of_decide_eq_true (by kernel_rfl)) (by unfold Func.isWrapper; first | (rw [if_pos (by decide +kernel)]; kernel_rfl) | (rw [if_neg (by decide +kernel)]; exact ⟨rfl, rfl⟩))
    (fun os started H enc _ F => by rw [OpenClaim.pre_eq_preRow]; exact records_lifted os started H enc F)

theorem records_plain (f : FuncId) (fn : Func) (hf : Tryz.pinned.checked.prog.funcNamed "mooring/mooringlaw.Records" = some f) (hfn : Tryz.pinned.checked.prog.funcs[f]? = some fn) :
    true = Tryz.pinned.checked.prog.looks [] ∧ ∀ (j : Nat) t, fn.params[j]? = some t → Tryz.pinned.checked.prog.wantsStandIn t = false := by
  obtain rfl : f = 4 := Option.some.inj ((show Tryz.prog.funcNamed "mooring/mooringlaw.Records" = some 4 by kernel_rfl).symm.trans hf) |>.symm
  obtain rfl : fn = Tryz.f4 := (Option.some.inj (Tryz.func4.symm.trans hfn)).symm
  refine ⟨by kernel_rfl, fun j t ht => ?_⟩
  rw [Tryz.params4] at ht
  obtain rfl : t = 22 := by simpa using Array.mem_of_getElem? ht
  exact (show Tryz.prog.wantsStandIn 22 = false by kernel_rfl)

theorem records_card : Rows.RecordsUptoCardSaid :=
  Claim7.holds_tied_plain_at .later [] _ _ _ _ records_said (fun _ h => by cases h) (by kernel_rfl) (fun _ h => by cases h) recordsUpto_row_tie rfl ⟨rfl, rfl⟩ (by kernel_rfl) rfl records_plain (by kernel_rfl)
#print axioms records_card

end Go.Proofs.YtbbdgokdfhdpiaaGreatDoor
