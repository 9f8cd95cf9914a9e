/-
  The walk of one step of kind 1: it answers true and turns nothing that was there.
-/
import Derived.Test.YtbbdgokdfhdpiaaGreatDoorChkWalks
import Derived.RegionTactic
import Derived.ChangeAlike
import Derived.Deep.RegionWith
import Derived.Deep.QuietTactic
import Derived.BigQuiet
import Derived.Deep.Light
namespace Go.Proofs.YtbbdgokdfhdpiaaGreatDoor
open Go.RowKit

abbrev lopV (kd at_ : Int) (f c p t d k r : Int) (l a b v1 v2 v3 v4 : Int) (s : ByteArray) (x y z u : Int) : Value :=
  .agg #[.int .i64 kd, .int .i64 at_, .int .i64 f, .int .i64 c, .int .i64 p, .int .i64 t, .int .i64 d, .int .i64 k, .int .i64 r, .int .i64 l, .int .i64 a, .int .i64 b, .int .i64 v1, .int .i64 v2, .int .i64 v3, .int .i64 v4, .string s, .int .i64 x, .int .i64 y, .int .i64 z, .int .i64 u]

set_option maxHeartbeats 400000 in
theorem step_check (pv : Option Addr) (at_ : Int) (f c p t d k r : Int) (l a b v1 v2 v3 v4 : Int) (s : ByteArray) (x y z u : Int) (w : World) :
    Calls Tryz.prog 30 #[.pointer pv, lopV 1 at_ f c p t d k r l a b v1 v2 v3 v4 s x y z u] w fun e w' => e = .returned (.bool true) ∧ Below w.heap.size w w' := by
  go_enter Tryz.func30, Tryz.ntmps30
  go_wp2_with (go_at_call 67; refine (check_any _ _ _ _ _ _ _ _).mono ?_; rintro e w1 ⟨rfl, hb1⟩)
  have hB : Below w.heap.size w w1 := ((Below.refl _ w).alloc (Nat.le_refl _) _).trans (hb1.mono (by simp))
  have hc : ∀ j v, (#[Value.int .i64 1, .int .i64 at_, .int .i64 f, .int .i64 c, .int .i64 p, .int .i64 t, .int .i64 d, .int .i64 k, .int .i64 r, .int .i64 l, .int .i64 a, .int .i64 b, .int .i64 v1, .int .i64 v2, .int .i64 v3, .int .i64 v4, .string s, .int .i64 x, .int .i64 y, .int .i64 z, .int .i64 u] : Array Value)[j]? = some v → w1.cell? ⟨w.heap.size, j, none⟩ = some v := by
    intro j v hj
    rw [hb1.cell (p := ⟨w.heap.size, j, none⟩) (by simp)]
    simpa using hj
  have c2 : w1.cell? ⟨w.heap.size, 2, none⟩ = some (.int .i64 f) := hc 2 _ rfl
  have c3 : w1.cell? ⟨w.heap.size, 3, none⟩ = some (.int .i64 c) := hc 3 _ rfl
  have c4 : w1.cell? ⟨w.heap.size, 4, none⟩ = some (.int .i64 p) := hc 4 _ rfl
  have c5 : w1.cell? ⟨w.heap.size, 5, none⟩ = some (.int .i64 t) := hc 5 _ rfl
  have c6 : w1.cell? ⟨w.heap.size, 6, none⟩ = some (.int .i64 d) := hc 6 _ rfl
  have c7 : w1.cell? ⟨w.heap.size, 7, none⟩ = some (.int .i64 k) := hc 7 _ rfl
  have c8 : w1.cell? ⟨w.heap.size, 8, none⟩ = some (.int .i64 r) := hc 8 _ rfl
  have hsz : w.heap.size ≤ w1.heap.size := hB.size
  clear hc hb1
  go_region_with (first
    | (go_at_call 66; refine (num_any _ _).mono ?_; rintro e w' ⟨rfl, rfl⟩)
    | (go_at_call 68; refine (refCheck_any _ _ _ _ _ _ _ _).mono ?_; rintro e w2 ⟨rfl, hb2⟩))
  all_goals
    go_wp2
    go_ret
    refine ⟨by first | rfl | simp [Act.put], ?_⟩
    first | exact hB.trans (hb2.mono hsz) | exact (hB.trans (Below.drew (Below.refl _ _))).trans (hb2.mono hsz)

end Go.Proofs.YtbbdgokdfhdpiaaGreatDoor
