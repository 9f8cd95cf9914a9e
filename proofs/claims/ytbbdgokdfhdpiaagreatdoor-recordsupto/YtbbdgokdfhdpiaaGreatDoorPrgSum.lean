/-
  The walk of the program's sum of bytes.
-/
import Derived.Test.YtbbdgokdfhdpiaaGreatDoorPrgRec
import Derived.LoopTactic
namespace Go.Proofs.YtbbdgokdfhdpiaaGreatDoor
open Go.RowKit

set_option maxRecDepth 100000 in
set_option maxHeartbeats 1000000 in
theorem sum_any (g cap : Nat) (L : List Int) (w : World) (hc : ∀ j, j < L.length → w.cell? ⟨g, j, none⟩ = some (.int .u8 (L.getD j 0))) (hb : ∀ x ∈ L, 0 ≤ x ∧ x < 256) (hn : L.length ≤ 1000) :
    Calls Tryz.prog 142 #[.slice (some ⟨g, 0, none⟩) L.length cap] w fun e w' => e = .returned (.int .u16 (sumL L 0 0)) ∧ w' = w := by
  have HB : Hid (∀ x ∈ L, 0 ≤ x ∧ x < 256) := hb
  have HC : Hid (∀ j, j < L.length → w.cell? ⟨g, j, none⟩ = some (.int .u8 (L.getD j 0))) := hc
  generalize hN : L.length = N at hn HC ⊢
  have HN : Hid (L.length = N) := hN
  clear hb hc hN
  go_enter Tryz.func142, Tryz.ntmps142
  go_wp2
  go_loop [3, 8] (fun n i => ∃ (k : Nat) (m : Int), k ≤ N ∧ i = .int .i64 k ∧ n = .int .u16 m ∧ m = sumL (L.take k) 0 0 ∧ 0 ≤ m ∧ m < 65536) (fun _ i => N - (intOf i).toNat)
  case atStart => exact ⟨0, 0, by omega, rfl, rfl, by simp [sumL], by omega, by omega⟩
  case round =>
    obtain ⟨k, m, hk, rfl, rfl, hm, hm0, hm1⟩ := hrel
    have HM : Hid (m = sumL (L.take k) 0 0) := hm
    clear hm
    by_cases hlt : k < N
    · have hck := HC.out k hlt
      have hst := sumL_take (bs := L) (k := k) (by rw [HN.out]; omega) 0 0
      have hbk : 0 ≤ L.getD k 0 ∧ L.getD k 0 < 256 := by
        rw [List.getD_eq_getElem?_getD, List.getElem?_eq_getElem (by rw [HN.out]; omega)]
        exact HB.out _ (List.getElem_mem _)
      rw [← HM.out] at hst
      generalize hbb : L.getD k 0 = b at hck hst hbk
      have HST : Hid (sumL (L.take (k + 1)) 0 0 = (m + ((0 + k : Nat) + 1) * b) % 65536) := hst
      have hmul : ((k : Int) + 1) * b ≤ 1000 * 256 := by
        apply Int.mul_le_mul <;> omega
      have hmul0 : 0 ≤ ((k : Int) + 1) * b := Int.mul_nonneg (by omega) hbk.1
      clear hst hbb
      go_wp2
      go_round
      case rel =>
        refine ⟨k + 1, _, by omega, by go_num, rfl, ?_, ?_⟩
        · rw [HST.out, IntKind.wrap_u16, IntKind.wrap_u16, Nat.zero_add]; omega
        · rw [IntKind.wrap_u16]; omega
      case measure => simp [intOf]; omega
    · have hk23 : L.take k = L := List.take_of_length_le (by rw [HN.out]; omega)
      have HMM : Hid (m = sumL L 0 0) := by
        have h := HM.out
        rw [hk23] at h
        exact h
      clear HM hk23
      go_wp2
      go_ret
      exact ⟨by rw [← HMM.out]; rfl, rfl⟩

end Go.Proofs.YtbbdgokdfhdpiaaGreatDoor
