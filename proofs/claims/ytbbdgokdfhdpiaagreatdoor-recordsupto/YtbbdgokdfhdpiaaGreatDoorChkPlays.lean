/-
  The walk of a script of which the steps of kind 1 are played: it answers true and turns nothing that was there.
-/
import Derived.Test.YtbbdgokdfhdpiaaGreatDoorChkStep
import Derived.Test.YtbbdgokdfhdpiaaGreatDoorChkEnds
import Derived.Test.YtbbdgokdfhdpiaaGreatDoorLoads
namespace Go.Proofs.YtbbdgokdfhdpiaaGreatDoor
open Go.RowKit

/-- The cells of one step. -/
def opL (n : Nat → Int) (s : ByteArray) : List Value := [.int .i64 (n 0), .int .i64 (n 1), .int .i64 (n 2), .int .i64 (n 3), .int .i64 (n 4), .int .i64 (n 5), .int .i64 (n 6), .int .i64 (n 7), .int .i64 (n 8), .int .i64 (n 9), .int .i64 (n 10), .int .i64 (n 11), .int .i64 (n 12), .int .i64 (n 13), .int .i64 (n 14), .int .i64 (n 15), .string s, .int .i64 (n 17), .int .i64 (n 18), .int .i64 (n 19), .int .i64 (n 20)]

theorem opL_length (n : Nat → Int) (s : ByteArray) : (opL n s).length = 21 := rfl
theorem opL_zero (n : Nat → Int) (s : ByteArray) : (opL n s)[0]? = some (.int .i64 (n 0)) := rfl

/-- Where the elements of a script lie: 21 cells each. -/
def OpsAt (w : World) (a : Addr) (len : Nat) (n : Nat → Nat → Int) (s : Nat → ByteArray) : Prop :=
  ∀ i, i < len → ∀ j v, (opL (n i) (s i))[j]? = some v → w.cell? ⟨a.block, a.off + i * 21 + j, none⟩ = some v

theorem step_check' (pv : Option Addr) (n : Nat → Int) (s : ByteArray) (h : n 0 = 1) (w : World) :
    Calls Tryz.prog 30 #[.pointer pv, .agg (opL n s).toArray] w fun e w' => e = .returned (.bool true) ∧ Below w.heap.size w w' := by
  unfold opL
  rw [h]
  exact step_check _ _ _ _ _ _ _ _ _ _ _ _ _ _ _ _ _ _ _ _ _ _

abbrev W0 : Obj := .cells #[.slice none 0 0, .slice none 0 0, .slice none 0 0, .slice none 0 0, .slice none 0 0, .slice none 0 0, .slice none 0 0, .int .i64 0] 80

/-- Element k of a script in a later world: its kind, and all its cells. -/
theorem OpsAt.at_ {w wr : World} {b off len : Nat} {n : Nat → Nat → Int} {s : Nat → ByteArray} (h : OpsAt w ⟨b, off, none⟩ len n s) (hB : ∀ o, wr.cell? ⟨b, o, none⟩ = w.cell? ⟨b, o, none⟩) {k : Nat} (hk : k < len) :
    wr.cell? ⟨b, off + k * 21, none⟩ = some (.int .i64 (n k 0)) ∧ (∀ j v, (opL (n k) (s k))[j]? = some v → wr.cell? ((⟨b, off + k * 21, none⟩ : Addr).add j) = some v) := by
  refine ⟨?_, fun j v hj => ?_⟩
  · rw [hB]; exact h k hk 0 _ (opL_zero _ _)
  · have e : (⟨b, off + k * 21, none⟩ : Addr).add j = ⟨b, off + k * 21 + j, none⟩ := by unfold Addr.add; split <;> simp_all
    rw [e, hB]; exact h k hk j v hj

set_option maxHeartbeats 400000 in
theorem plays_check (b off len cap : Nat) (n : Nat → Nat → Int) (s : Nat → ByteArray) (w : World) (hb : b < w.heap.size) (hm : len ≤ maxLen) (hops : OpsAt w ⟨b, off, none⟩ len n s) :
    Calls Tryz.prog 12 #[.slice (some ⟨b, off, none⟩) len cap, .int .i64 1, .int .i64 1] w fun e w' => e = .returned (.bool true) ∧ Below w.heap.size w w' := by
  unfold maxLen at hm
  go_enter Tryz.func12, Tryz.ntmps12
  go_wp2
  go_loopw [9] (fun i wr => ∃ k : Nat, k ≤ len ∧ i = .int .i64 k ∧ Below (w.heap.size + 1) (w.alloc W0) wr) (fun i _ => len - (intOf i).toNat)
  case atStart => exact ⟨0, Nat.zero_le _, rfl, Below.refl _ _⟩
  case round =>
    obtain ⟨k, hk, rfl, hB⟩ := hrel
    have hlo : ∀ o, wr.cell? ⟨b, o, none⟩ = w.cell? ⟨b, o, none⟩ := fun o => by
      rw [hB.cell (p := ⟨b, o, none⟩) (by simp; omega)]
      exact World.cell?_alloc_lt _ _ _ hb
    by_cases hlt : k < len
    · obtain ⟨e0, eA⟩ := hops.at_ hlo hlt
      have E : Hid (∀ j v, (opL (n k) (s k))[j]? = some v → wr.cell? ((⟨b, off + k * 21, none⟩ : Addr).add j) = some v) := eA
      clear hlo eA
      by_cases h1 : 1 ≤ n k 0
      · by_cases h2 : n k 0 ≤ 1
        · obtain h3 : n k 0 = 1 := by omega
          rw [h3] at e0
          have H3 : Hid (n k 0 = 1) := h3
          clear h1 h2 h3
          go_wp2_with (first
            | (go_at_call 30; refine (step_check' _ _ _ H3.out _).mono ?_; rintro e w1 ⟨rfl, hb1⟩)
            | (refine wpList_load_at rfl 83 (.tmp 46) rfl ⟨b, off + k * 21, none⟩ rfl (opL (n k) (s k)) _ E.out Tryz.underlying83 rfl (by kernel_rfl) ?_))
          go_roundw
          case rel => exact ⟨k + 1, by omega, by go_num, hB.trans (hb1.mono (by simpa using hB.size))⟩
          case measure => simp [intOf]; omega
        · go_wp2
          go_roundw
          case rel => exact ⟨k + 1, by omega, by go_num, hB⟩
          case measure => simp [intOf]; omega
      · go_wp2
        go_roundw
        case rel => exact ⟨k + 1, by omega, by go_num, hB⟩
        case measure => simp [intOf]; omega
    · have z : ∀ j v, (#[Value.slice none 0 0, .slice none 0 0, .slice none 0 0, .slice none 0 0, .slice none 0 0, .slice none 0 0, .slice none 0 0, .int .i64 0] : Array Value)[j]? = some v → wr.cell? ⟨w.heap.size, j, none⟩ = some v := by
        intro j v hj
        rw [hB.cell (p := ⟨w.heap.size, j, none⟩) (by simp)]
        simpa using hj
      have z0 := z 0 _ rfl
      have z1 := z 1 _ rfl
      have z3 := z 3 _ rfl
      have z5 := z 5 _ rfl
      clear z hlo
      go_wp2_with (first
        | (go_at_call 31; refine (ends_none _ _ z0).mono ?_; rintro e w1 ⟨rfl, rfl⟩)
        | (go_at_call 32; refine (looks_none _ _ z1 z3 z5).mono ?_; rintro e w1 ⟨rfl, rfl⟩))
      go_ret
      exact ⟨rfl, ((Below.refl _ w).alloc (Nat.le_refl _) _).trans (hB.mono (by simp))⟩

set_option maxHeartbeats 400000 in
theorem plays_empty (p : Option Addr) (cap : Nat) (w : World) :
    Calls Tryz.prog 12 #[.slice p 0 cap, .int .i64 1, .int .i64 1] w fun e w' => e = .returned (.bool true) ∧ Below w.heap.size w w' := by
  go_enter Tryz.func12, Tryz.ntmps12
  go_wp2
  go_loopw [9] (fun i wr => i = .int .i64 0 ∧ wr = w.alloc W0) (fun _ _ => 0)
  case atStart => exact ⟨rfl, rfl⟩
  case round =>
    obtain ⟨rfl, hw⟩ := hrel
    have hB : Below (w.heap.size + 1) (w.alloc W0) wr := by rw [hw]; exact Below.refl _ _
    clear hw
    have z : ∀ j v, (#[Value.slice none 0 0, .slice none 0 0, .slice none 0 0, .slice none 0 0, .slice none 0 0, .slice none 0 0, .slice none 0 0, .int .i64 0] : Array Value)[j]? = some v → wr.cell? ⟨w.heap.size, j, none⟩ = some v := by
      intro j v hj
      rw [hB.cell (p := ⟨w.heap.size, j, none⟩) (by simp)]
      simpa using hj
    have z0 := z 0 _ rfl
    have z1 := z 1 _ rfl
    have z3 := z 3 _ rfl
    have z5 := z 5 _ rfl
    clear z
    go_wp2_with (first
      | (go_at_call 31; refine (ends_none _ _ z0).mono ?_; rintro e w1 ⟨rfl, rfl⟩)
      | (go_at_call 32; refine (looks_none _ _ z1 z3 z5).mono ?_; rintro e w1 ⟨rfl, rfl⟩))
    go_ret
    exact ⟨rfl, ((Below.refl _ w).alloc (Nat.le_refl _) _).trans (hB.mono (by simp))⟩

end Go.Proofs.YtbbdgokdfhdpiaaGreatDoor
