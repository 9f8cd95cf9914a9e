/-
  The walk of the program's number of four bytes.
-/
import Derived.Test.YtbbdgokdfhdpiaaGreatDoorRefLow
import Derived.BigQuiet
import Derived.Deep.QuietTactic
import Derived.Lib.EndianBits
namespace Go.Proofs.YtbbdgokdfhdpiaaGreatDoor
open Go.RowKit

theorem wraps_i64 (n : Int) (h0 : 0 ≤ n) (h1 : n < 2 ^ 40) : IntKind.i64.wrap n = n := by rw [IntKind.wrap_i64]; omega
theorem wrap64_small (n : Int) (h0 : 0 ≤ n) (h1 : n < 2 ^ 40) : wrap64 n = n := by unfold wrap64; omega

theorem or4 (a b c d : Int) (ha : 0 ≤ a ∧ a < 256) (hb : 0 ≤ b ∧ b < 256) (hc : 0 ≤ c ∧ c < 256) (hd : 0 ≤ d ∧ d < 256) :
    bits BinOp.or IntKind.i64 (bits BinOp.or IntKind.i64 (bits BinOp.or IntKind.i64 (wrap64 a) (wrap64 (wrap64 b * 256))) (wrap64 (wrap64 c * 65536))) (wrap64 (wrap64 d * 16777216)) = a + 256 * (b + 256 * (c + 256 * (d + 256 * 0))) := by
  rw [wrap64_small a (by omega) (by omega), wrap64_small b (by omega) (by omega), wrap64_small c (by omega) (by omega), wrap64_small d (by omega) (by omega), wrap64_small (b * 256) (by omega) (by omega), wrap64_small (c * 65536) (by omega) (by omega), wrap64_small (d * 16777216) (by omega) (by omega)]
  rw [bits_join_low .i64 40 (by decide) wraps_i64 8 a (b * 256) (by omega) (by omega) (by omega) (by omega) (by omega) (by omega)]
  rw [bits_join_low .i64 40 (by decide) wraps_i64 16 (a + b * 256) (c * 65536) (by omega) (by omega) (by omega) (by omega) (by omega) (by omega)]
  rw [bits_join_low .i64 40 (by decide) wraps_i64 24 (a + b * 256 + c * 65536) (d * 16777216) (by omega) (by omega) (by omega) (by omega) (by omega) (by omega)]
  omega

theorem take_four {L : List Int} (h : 4 ≤ L.length) : L.take 4 = [L.getD 0 0, L.getD 1 0, L.getD 2 0, L.getD 3 0] := by
  match L, h with
  | a :: b :: c :: d :: r, _ => rfl
  | [], h => simp at h
  | [_], h => simp at h
  | [_, _], h => simp at h
  | [_, _, _], h => simp at h

set_option maxRecDepth 100000 in
set_option maxHeartbeats 1000000 in
theorem number_any (s : ByteArray) (w : World) (hs : 4 ≤ s.size) :
    Calls Tryz.prog 136 #[.string s] w fun e w' => e = .returned (.int .i64 (highL ((numsOf s).take 4))) ∧ ∃ m, w' = w.drewN m := by
  have j0 : 0 < s.size := by omega
  have j1 : 1 < s.size := by omega
  have j2 : 2 < s.size := by omega
  have j3 : 3 < s.size := by omega
  have i0 : (0 : Int) < (s.size : Int) := by omega
  have i1 : (1 : Int) < (s.size : Int) := by omega
  have i2 : (2 : Int) < (s.size : Int) := by omega
  have i3 : (3 : Int) < (s.size : Int) := by omega
  go_enter Tryz.func136, Tryz.ntmps136
  go_wp2_with fail
  go_quiet (fail)
  go_wp2
  go_ret
  refine ⟨?_, nq, rfl⟩
  rw [take_four (by rw [numsOf_length]; exact hs), numsOf_get s 0 j0, numsOf_get s 1 j1, numsOf_get s 2 j2, numsOf_get s 3 j3]
  have b : ∀ (x : UInt8), (0 : Int) ≤ (x.toNat : Int) ∧ (x.toNat : Int) < 256 := fun x => ⟨by omega, by have := x.toNat_lt; omega⟩
  simp only [highL]
  rw [← or4 _ _ _ _ (b _) (b _) (b _) (b _)]
  rfl

end Go.Proofs.YtbbdgokdfhdpiaaGreatDoor
