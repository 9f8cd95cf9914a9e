/-
  The walk of the law's comparison of two lists of rows: of one and the same rows it answers true.
-/
import Derived.Test.YtbbdgokdfhdpiaaGreatDoorProg
import Derived.Test.YtbbdgokdfhdpiaaGreatDoorRecMath
import Derived.Test.YtbbdgokdfhdpiaaGreatDoorLoads
import Derived.BigQuiet
import Derived.Deep.QuietTactic
import Derived.LoopTactic
import Derived.Deep.Light
namespace Go.Proofs.YtbbdgokdfhdpiaaGreatDoor
open Go.RowKit

/-- The cells of rows, one behind the other. -/
def cellsOf (rs : List Rw) : List Value := rs.flatMap rwL

theorem cellsOf_length : ∀ rs : List Rw, (cellsOf rs).length = rs.length * 7
  | [] => rfl
  | r :: rs => by
    have := cellsOf_length rs
    simp only [cellsOf, List.flatMap_cons, List.length_append, List.length_cons, List.length_nil] at this ⊢
    omega

theorem cellsOf_snoc (rs : List Rw) (r : Rw) : cellsOf (rs ++ [r]) = cellsOf rs ++ rwL r := by simp [cellsOf]

/-- Cell j of row i. -/
theorem cellsOf_get : ∀ (rs : List Rw) (i : Nat) (h : i < rs.length) (j : Nat), j < 7 → (cellsOf rs)[i * 7 + j]? = (rwL rs[i])[j]?
  | r :: rs, 0, _, j, hj => by
    simp only [cellsOf, List.flatMap_cons, Nat.zero_mul, Nat.zero_add]
    rw [List.getElem?_append_left (by simpa using hj)]
    rfl
  | r :: rs, i + 1, h, j, hj => by
    have ih := cellsOf_get rs i (by simpa using h) j hj
    simp only [cellsOf, List.flatMap_cons] at ih ⊢
    rw [List.getElem?_append_right (by simp; omega)]
    have e : (i + 1) * 7 + j - (rwL r).length = i * 7 + j := by simp; omega
    rw [e, ih]
    rfl

/-- Where rows lie in memory. -/
def RowsAt (w : World) (g : Nat) (rs : List Rw) : Prop := ∀ i (h : i < rs.length), ∀ j v, (rwL rs[i])[j]? = some v → w.cell? ⟨g, i * 7 + j, none⟩ = some v

/-- A slice that holds rows: nil, or a block's head. -/
def HoldsRows (w : World) (v : Value) (rs : List Rw) : Prop := (v = .slice none 0 0 ∧ rs = []) ∨ ∃ g cap, v = .slice (some ⟨g, 0, none⟩) rs.length cap ∧ rs.length ≤ cap ∧ cap ≤ maxLen ∧ RowsAt w g rs

set_option maxRecDepth 100000 in
set_option maxHeartbeats 1000000 in
theorem sameRows_blocks (g1 c1 g2 c2 : Nat) (rs : List Rw) (w : World) (hm : rs.length ≤ maxLen) (h1 : RowsAt w g1 rs) (h2 : RowsAt w g2 rs) :
    Calls Tryz.prog 104 #[.slice (some ⟨g1, 0, none⟩) rs.length c1, .slice (some ⟨g2, 0, none⟩) rs.length c2] w fun e w' => e = .returned (.bool true) ∧ Below w.heap.size w w' := by
  unfold maxLen at hm
  have H1 : Hid (RowsAt w g1 rs) := h1
  have H2 : Hid (RowsAt w g2 rs) := h2
  clear h1 h2
  generalize hN : rs.length = N at hm ⊢
  have HN : Hid (rs.length = N) := hN
  clear hN
  go_enter Tryz.func104, Tryz.ntmps104
  go_wp2
  go_loopw [5] (fun i wr => ∃ (k n : Nat), k ≤ N ∧ i = .int .i64 k ∧ wr = w.drewN n) (fun i _ => N - (intOf i).toNat)
  case atStart => exact ⟨0, 0, by omega, rfl, rfl⟩
  case round =>
    obtain ⟨k, n, hk, rfl, rfl⟩ := hrel
    by_cases hlt : k < N
    · have hl : k < rs.length := by rw [HN.out]; exact hlt
      have a1 := H1.out k hl
      have a2 := H2.out k hl
      generalize rs[k] = R at a1 a2
      obtain ⟨l, p, a, o, t, u, q⟩ := R
      have x0 : w.cell? ⟨g1, k * 7, none⟩ = some (.int .i64 l) := a1 0 _ rfl
      have y0 : w.cell? ⟨g2, k * 7, none⟩ = some (.int .i64 l) := a2 0 _ rfl
      have x1 : w.cell? ⟨g1, k * 7 + 1, none⟩ = some (.int .i64 p) := a1 1 _ rfl
      have y1 : w.cell? ⟨g2, k * 7 + 1, none⟩ = some (.int .i64 p) := a2 1 _ rfl
      have x2 : w.cell? ⟨g1, k * 7 + 2, none⟩ = some (.int .i64 a) := a1 2 _ rfl
      have y2 : w.cell? ⟨g2, k * 7 + 2, none⟩ = some (.int .i64 a) := a2 2 _ rfl
      have x3 : w.cell? ⟨g1, k * 7 + 3, none⟩ = some (.int .i64 o) := a1 3 _ rfl
      have y3 : w.cell? ⟨g2, k * 7 + 3, none⟩ = some (.int .i64 o) := a2 3 _ rfl
      have x4 : w.cell? ⟨g1, k * 7 + 4, none⟩ = some (.int .i64 t) := a1 4 _ rfl
      have y4 : w.cell? ⟨g2, k * 7 + 4, none⟩ = some (.int .i64 t) := a2 4 _ rfl
      have x5 : w.cell? ⟨g1, k * 7 + 5, none⟩ = some (.int .i64 u) := a1 5 _ rfl
      have y5 : w.cell? ⟨g2, k * 7 + 5, none⟩ = some (.int .i64 u) := a2 5 _ rfl
      have x6 : w.cell? ⟨g1, k * 7 + 6, none⟩ = some (.int .i64 q) := a1 6 _ rfl
      have y6 : w.cell? ⟨g2, k * 7 + 6, none⟩ = some (.int .i64 q) := a2 6 _ rfl
      have ik : (k : Int) < (N : Int) := by omega
      clear a1 a2 hl
      go_wp2_with fail
      go_quiet (fail)
      go_wp2
      go_roundw
      case rel => exact ⟨k + 1, n + nq, by omega, by go_num, rfl⟩
      case measure => simp [intOf]; omega
    · go_wp2
      go_ret
      exact ⟨rfl, below_drewN (Below.refl _ _) n⟩

set_option maxHeartbeats 400000 in
theorem sameRows_none (p1 p2 : Option Addr) (c1 c2 : Nat) (w : World) :
    Calls Tryz.prog 104 #[.slice p1 0 c1, .slice p2 0 c2] w fun e w' => e = .returned (.bool true) ∧ Below w.heap.size w w' := by
  go_enter Tryz.func104, Tryz.ntmps104
  go_wp2
  go_loop [5] (fun i => i = .int .i64 0) (fun _ => 0)
  case atStart => rfl
  case round =>
    obtain rfl := hrel
    go_wp2
    go_ret
    exact ⟨rfl, Below.refl _ _⟩

/-- Two lists of the same rows are the same. -/
theorem sameRows_any (v1 v2 : Value) (rs : List Rw) (w : World) (h1 : HoldsRows w v1 rs ∨ (rs = [] ∧ ∃ p c, v1 = .slice p 0 c)) (h2 : HoldsRows w v2 rs ∨ (rs = [] ∧ ∃ p c, v2 = .slice p 0 c)) :
    Calls Tryz.prog 104 #[v1, v2] w fun e w' => e = .returned (.bool true) ∧ Below w.heap.size w w' := by
  by_cases hn : rs = []
  · subst hn
    have z : ∀ v, (HoldsRows w v [] ∨ (([] : List Rw) = [] ∧ ∃ p c, v = .slice p 0 c)) → ∃ p c, v = .slice p 0 c := by
      rintro v ((⟨rfl, _⟩ | ⟨g, cap, rfl, _⟩) | ⟨_, h⟩)
      · exact ⟨_, _, rfl⟩
      · exact ⟨_, _, rfl⟩
      · exact h
    obtain ⟨p1, c1, rfl⟩ := z _ h1
    obtain ⟨p2, c2, rfl⟩ := z _ h2
    exact sameRows_none p1 p2 c1 c2 w
  · rcases h1 with (⟨_, h⟩ | ⟨g1, c1, rfl, hc1, hm1, r1⟩) | ⟨h, _⟩
    · exact absurd h hn
    · rcases h2 with (⟨_, h⟩ | ⟨g2, c2, rfl, hc2, hm2, r2⟩) | ⟨h, _⟩
      · exact absurd h hn
      · exact sameRows_blocks g1 c1 g2 c2 rs w (Nat.le_trans hc1 hm1) r1 r2
      · exact absurd h hn
    · exact absurd h hn

end Go.Proofs.YtbbdgokdfhdpiaaGreatDoor
