/-
  The walks of Check in both tellings: each answers by one and the same test of the seven numbers.
-/
import Derived.Test.YtbbdgokdfhdpiaaGreatDoorProg
import Derived.WalkKit
import Derived.WalkSpells
import Derived.WalkLawsBesides
namespace Go.Proofs.YtbbdgokdfhdpiaaGreatDoor
open Go.RowKit

def wiB (n l m : Int) : Bool := decide (l ≤ n) && decide (n ≤ m)

set_option maxHeartbeats 400000 in
theorem within_any (n l m : Int) (w : World) :
    Calls Tryz.prog 80 #[.int .i64 n, .int .i64 l, .int .i64 m] w fun e w' => e = .returned (.bool (wiB n l m)) ∧ w' = w := by
  by_cases h1 : l ≤ n <;> by_cases h2 : n ≤ m <;>
  · go_enter Tryz.func80, Tryz.ntmps80
    go_wp2
    go_ret
    exact ⟨by simp [wiB, h1, h2], rfl⟩

set_option maxHeartbeats 400000 in
theorem num_any (n : Int) (w : World) :
    Calls Tryz.prog 66 #[.int .i64 n] w fun e w' => e = .returned (.int .i64 n) ∧ w' = w := by
  go_enter Tryz.func66, Tryz.ntmps66
  go_wp2
  go_ret
  exact ⟨rfl, rfl⟩

/-- The seven tests. -/
def cfA (f c p t : Int) : Bool := wiB f 1 2 && wiB c 1 4 && wiB p 1 20 && wiB t 1 8
def cfB (d k r : Int) : Bool := wiB d 0 10 && wiB k 2 16 && wiB r 100 2000

abbrev cfV (f c p t d k r : Int) : Value := .agg #[.int .i64 f, .int .i64 c, .int .i64 p, .int .i64 t, .int .i64 d, .int .i64 k, .int .i64 r]

theorem isConfig_any (f c p t d k r : Int) (w : World) :
    Calls Tryz.prog 75 #[cfV f c p t d k r] w fun e w' => e = .returned (.bool (cfA f c p t && cfB d k r)) ∧ Below w.heap.size w w' := by
  have B : ∀ o, Below w.heap.size w (w.alloc o) := fun o => (Below.refl _ _).alloc (Nat.le_refl _) o
  go_enter Tryz.func75, Tryz.ntmps75
  go_wp2_with (go_at_call 80; refine (within_any _ _ _ _).mono ?_; rintro e w' ⟨rfl, rfl⟩)
  all_goals
    go_ret
    exact ⟨by simp [cfA, cfB, *], B _⟩

def cfN (f c p t d k r : Int) : Int := if (cfA f c p t && cfB d k r) = true then 0 else 1

theorem cfN_eq (f c p t d k r : Int) : cfN f c p t d k r = if (1 ≤ f ∧ f ≤ 2) ∧ (1 ≤ c ∧ c ≤ 4) ∧ (1 ≤ p ∧ p ≤ 20) ∧ (1 ≤ t ∧ t ≤ 8) ∧ (0 ≤ d ∧ d ≤ 10) ∧ (2 ≤ k ∧ k ≤ 16) ∧ (100 ≤ r ∧ r ≤ 2000) then 0 else 1 := by
  unfold cfN
  refine ite_congr ?_ (fun _ => rfl) (fun _ => rfl)
  simp only [cfA, cfB, wiB, Bool.and_eq_true, decide_eq_true_eq, eq_iff_iff]
  constructor <;> intro h <;> omega

theorem check_any (f c p t d k r : Int) (w : World) :
    Calls Tryz.prog 67 #[cfV f c p t d k r] w fun e w' => e = .returned (.int .i64 (cfN f c p t d k r)) ∧ Below w.heap.size w w' := by
  have B : ∀ o, Below w.heap.size w (w.alloc o) := fun o => (Below.refl _ _).alloc (Nat.le_refl _) o
  go_enter Tryz.func67, Tryz.ntmps67
  go_wp2_with (go_at_call 75; refine (isConfig_any _ _ _ _ _ _ _ _).mono ?_; rintro e w' ⟨rfl, hb⟩)
  all_goals
    go_ret
    refine ⟨?_, (B _).trans (hb.mono (by simp))⟩
    unfold cfN
    cases h1 : cfA f c p t <;> cases h2 : cfB d k r <;> simp_all

set_option maxHeartbeats 1000000 in
theorem refCheck_any (f c p t d k r : Int) (w : World) :
    Calls Tryz.prog 68 #[cfV f c p t d k r] w fun e w' => e = .returned (.int .i64 (cfN f c p t d k r)) ∧ Below w.heap.size w w' := by
  have B : ∀ o, Below w.heap.size w (w.alloc o) := fun o => (Below.refl _ _).alloc (Nat.le_refl _) o
  go_enter Tryz.func68, Tryz.ntmps68
  go_wp2
  all_goals
    go_ret
    refine ⟨?_, B _⟩
    rw [cfN_eq]
    first
      | (rw [if_pos (by omega)]; try rfl)
      | (rw [if_neg (by omega)]; try rfl)
      | (have hh := ‹(!decide (r ≤ 2000)) = true›; simp only [Bool.not_eq_true', decide_eq_false_iff_not] at hh; rw [if_neg (by omega)]; rfl)
      | (have hh := ‹(!decide (r ≤ 2000)) = false›; simp only [Bool.not_eq_false', decide_eq_true_eq] at hh; rw [if_pos (by omega)]; rfl)
      | (have hh := ‹¬ (!decide (r ≤ 2000)) = true›; simp only [Bool.not_eq_true', decide_eq_false_iff_not, Decidable.not_not] at hh; rw [if_pos (by omega)]; rfl)

end Go.Proofs.YtbbdgokdfhdpiaaGreatDoor
