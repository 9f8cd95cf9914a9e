/-
  What a script's memory holds, off the reading of the argument: each step has 21 cells, of which all but the text are integers.
-/
import Derived.Test.YtbbdgokdfhdpiaaGreatDoorChkPlays
import Derived.ProofKit
import Derived.Deep.Slices
namespace Go.Proofs.YtbbdgokdfhdpiaaGreatDoor
open Go.ChangeShapes Go.WideShapes Go.ChangeAt Go.RowKit Go.Deep

theorem cells_int : Tryz.prog.cellsOf 3 = 1 := by kernel_rfl
theorem cells_string : Tryz.prog.cellsOf 9 = 1 := by kernel_rfl
theorem cells_value : Tryz.prog.cellsOf 56 = 4 := by kernel_rfl
theorem cells_row : Tryz.prog.cellsOf 58 = 7 := by kernel_rfl
theorem cells_config : Tryz.prog.cellsOf 30 = 7 := by kernel_rfl
theorem cells_op : Tryz.prog.cellsOf 83 = 21 := by kernel_rfl

section
variable {H : Type} {enc : TypeId × Value → H} {W : World} {base : Nat} {sp : Nat → Bool} {hd : Bool}

theorem cell_of_take {cs : List Value} {o k j : Nat} {v : Value} (h : ((cs.drop o).take k)[j]? = some v) (hj : j < k) : cs[o + j]? = some v := by
  simpa [List.getElem?_take, hj] using h

theorem int_cell {cs : List Value} {o n : Nat} {y : DataW H × List MemPlace} (h : DataW.trod enc Tryz.prog W base sp hd n 3 ((cs.drop o).take (Tryz.prog.cellsOf 3)) = some y) :
    ∃ a, cs[o]? = some (.int .i64 a) ∧ (Lit.int .i64 a).wf = true := by
  obtain ⟨a, e, _, wf⟩ := DataW.trod_int Tryz.underlying3 h
  rw [cells_int] at e
  exact ⟨a, by simpa using cell_of_take (j := 0) (k := 1) (o := o) (cs := cs) (by rw [e]; rfl) (by omega), wf⟩

theorem string_cell {cs : List Value} {o n : Nat} {y : DataW H × List MemPlace} (h : DataW.trod enc Tryz.prog W base sp hd n 9 ((cs.drop o).take (Tryz.prog.cellsOf 9)) = some y) :
    ∃ s : ByteArray, cs[o]? = some (.string s) ∧ s.size ≤ maxLen ∧ y.1 = .lit (.string s.data.toList) := by
  obtain ⟨s, e, hy, wf⟩ := DataW.trod_string Tryz.underlying9 h
  rw [cells_string] at e
  exact ⟨s, by simpa using cell_of_take (j := 0) (k := 1) (o := o) (cs := cs) (by rw [e]; rfl) (by omega), wf, by rw [hy]⟩

def IntAt (cs : List Value) (o : Nat) : Prop := ∃ a, cs[o]? = some (.int .i64 a) ∧ (Lit.int .i64 a).wf = true

theorem IntAt.of_take {cs : List Value} {o k j : Nat} (h : IntAt ((cs.drop o).take k) j) (hj : j < k) : IntAt cs (o + j) := by
  obtain ⟨a, h1, h2⟩ := h
  exact ⟨a, cell_of_take h1 hj, h2⟩

theorem some_of_get {α : Type} {xs : List α} {i : Nat} (h : i < xs.length) {z : Option α} (e : z = xs[i]?) : ∃ y, z = some y := ⟨xs[i], by rw [e]; simp [h]⟩

theorem value_cells {cs : List Value} {n : Nat} {y : DataW H × List MemPlace} (h : DataW.trod enc Tryz.prog W base sp hd n 56 cs = some y) :
    cs.length = 4 ∧ ∀ j, j < 4 → IntAt cs j := by
  obtain ⟨xs, m, _, _, hl, hn, hf⟩ := DataW.trod_struct Tryz.underlying56 h
  have hn' : xs.length = 4 := hn
  refine ⟨by rw [hl, cells_value], fun j hj => ?_⟩
  have g : ∀ (i : Nat), i < 4 → ∃ y, xs[i]? = some y := fun i hi => ⟨xs[i], by simp [hn', hi]⟩
  match j, hj with
  | 0, _ => obtain ⟨y, e⟩ := g 0 (by omega); exact int_cell ((hf 0 _ rfl).trans e)
  | 1, _ => obtain ⟨y, e⟩ := g 1 (by omega); exact int_cell ((hf 1 _ rfl).trans e)
  | 2, _ => obtain ⟨y, e⟩ := g 2 (by omega); exact int_cell ((hf 2 _ rfl).trans e)
  | 3, _ => obtain ⟨y, e⟩ := g 3 (by omega); exact int_cell ((hf 3 _ rfl).trans e)

theorem row_cells {cs : List Value} {n : Nat} {y : DataW H × List MemPlace} (h : DataW.trod enc Tryz.prog W base sp hd n 58 cs = some y) :
    cs.length = 7 ∧ ∀ j, j < 7 → IntAt cs j := by
  obtain ⟨xs, m, _, _, hl, hn, hf⟩ := DataW.trod_struct Tryz.underlying58 h
  have hn' : xs.length = 4 := hn
  refine ⟨by rw [hl, cells_row], fun j hj => ?_⟩
  have g : ∀ (i : Nat), i < 4 → ∃ y, xs[i]? = some y := fun i hi => ⟨xs[i], by simp [hn', hi]⟩
  have v : ∀ j, j < 4 → IntAt cs (3 + j) := fun j hj => by
    obtain ⟨y, e⟩ := g 3 (by omega)
    have hv : DataW.trod enc Tryz.prog W base sp hd m 56 ((cs.drop 3).take (Tryz.prog.cellsOf 56)) = some y := (hf 3 _ rfl).trans e
    rw [cells_value] at hv
    exact ((value_cells hv).2 j hj).of_take (by omega)
  match j, hj with
  | 0, _ => obtain ⟨y, e⟩ := g 0 (by omega); exact int_cell ((hf 0 _ rfl).trans e)
  | 1, _ => obtain ⟨y, e⟩ := g 1 (by omega); exact int_cell ((hf 1 _ rfl).trans e)
  | 2, _ => obtain ⟨y, e⟩ := g 2 (by omega); exact int_cell ((hf 2 _ rfl).trans e)
  | 3, _ => exact v 0 (by omega)
  | 4, _ => exact v 1 (by omega)
  | 5, _ => exact v 2 (by omega)
  | 6, _ => exact v 3 (by omega)

theorem config_cells {cs : List Value} {n : Nat} {y : DataW H × List MemPlace} (h : DataW.trod enc Tryz.prog W base sp hd n 30 cs = some y) :
    cs.length = 7 ∧ ∀ j, j < 7 → IntAt cs j := by
  obtain ⟨xs, m, _, _, hl, hn, hf⟩ := DataW.trod_struct Tryz.underlying30 h
  have hn' : xs.length = 7 := hn
  refine ⟨by rw [hl, cells_config], fun j hj => ?_⟩
  have g : ∀ (i : Nat), i < 7 → ∃ y, xs[i]? = some y := fun i hi => ⟨xs[i], by simp [hn', hi]⟩
  match j, hj with
  | 0, _ => obtain ⟨y, e⟩ := g 0 (by omega); exact int_cell ((hf 0 _ rfl).trans e)
  | 1, _ => obtain ⟨y, e⟩ := g 1 (by omega); exact int_cell ((hf 1 _ rfl).trans e)
  | 2, _ => obtain ⟨y, e⟩ := g 2 (by omega); exact int_cell ((hf 2 _ rfl).trans e)
  | 3, _ => obtain ⟨y, e⟩ := g 3 (by omega); exact int_cell ((hf 3 _ rfl).trans e)
  | 4, _ => obtain ⟨y, e⟩ := g 4 (by omega); exact int_cell ((hf 4 _ rfl).trans e)
  | 5, _ => obtain ⟨y, e⟩ := g 5 (by omega); exact int_cell ((hf 5 _ rfl).trans e)
  | 6, _ => obtain ⟨y, e⟩ := g 6 (by omega); exact int_cell ((hf 6 _ rfl).trans e)

/-- The datum of a step: its text stands in the fifth part. -/
theorem op_cells {cs : List Value} {n : Nat} {y : DataW H × List MemPlace} (h : DataW.trod enc Tryz.prog W base sp hd n 83 cs = some y) :
    cs.length = 21 ∧ (∀ j, j < 21 → j ≠ 16 → IntAt cs j) ∧ ∃ s : ByteArray, cs[16]? = some (.string s) ∧ s.size ≤ maxLen ∧ ∃ ds : List (DataW H), y.1 = .agg ds ∧ ds[4]? = some (.lit (.string s.data.toList)) := by
  obtain ⟨xs, m, _, hy, hl, hn, hf⟩ := DataW.trod_struct Tryz.underlying83 h
  have hn' : xs.length = 9 := hn
  have g : ∀ (i : Nat), i < 9 → ∃ y, xs[i]? = some y := fun i hi => ⟨xs[i], by simp [hn', hi]⟩
  have c : ∀ j, j < 7 → IntAt cs (2 + j) := fun j hj => by
    obtain ⟨y, e⟩ := g 2 (by omega)
    have hv : DataW.trod enc Tryz.prog W base sp hd m 30 ((cs.drop 2).take (Tryz.prog.cellsOf 30)) = some y := (hf 2 _ rfl).trans e
    rw [cells_config] at hv
    exact ((config_cells hv).2 j hj).of_take (by omega)
  have r : ∀ j, j < 7 → IntAt cs (9 + j) := fun j hj => by
    obtain ⟨y, e⟩ := g 3 (by omega)
    have hv : DataW.trod enc Tryz.prog W base sp hd m 58 ((cs.drop 9).take (Tryz.prog.cellsOf 58)) = some y := (hf 3 _ rfl).trans e
    rw [cells_row] at hv
    exact ((row_cells hv).2 j hj).of_take (by omega)
  refine ⟨by rw [hl, cells_op], fun j hj hj' => ?_, ?_⟩
  · match j, hj, hj' with
    | 0, _, _ => obtain ⟨y, e⟩ := g 0 (by omega); exact int_cell ((hf 0 _ rfl).trans e)
    | 1, _, _ => obtain ⟨y, e⟩ := g 1 (by omega); exact int_cell ((hf 1 _ rfl).trans e)
    | 2, _, _ => exact c 0 (by omega)
    | 3, _, _ => exact c 1 (by omega)
    | 4, _, _ => exact c 2 (by omega)
    | 5, _, _ => exact c 3 (by omega)
    | 6, _, _ => exact c 4 (by omega)
    | 7, _, _ => exact c 5 (by omega)
    | 8, _, _ => exact c 6 (by omega)
    | 9, _, _ => exact r 0 (by omega)
    | 10, _, _ => exact r 1 (by omega)
    | 11, _, _ => exact r 2 (by omega)
    | 12, _, _ => exact r 3 (by omega)
    | 13, _, _ => exact r 4 (by omega)
    | 14, _, _ => exact r 5 (by omega)
    | 15, _, _ => exact r 6 (by omega)
    | 17, _, _ => obtain ⟨y, e⟩ := g 5 (by omega); exact int_cell ((hf 5 _ rfl).trans e)
    | 18, _, _ => obtain ⟨y, e⟩ := g 6 (by omega); exact int_cell ((hf 6 _ rfl).trans e)
    | 19, _, _ => obtain ⟨y, e⟩ := g 7 (by omega); exact int_cell ((hf 7 _ rfl).trans e)
    | 20, _, _ => obtain ⟨y, e⟩ := g 8 (by omega); exact int_cell ((hf 8 _ rfl).trans e)
    | 16, _, h16 => exact absurd rfl h16
    | k + 21, hk, _ => exact absurd hk (by omega)
  · obtain ⟨y4, e⟩ := g 4 (by omega)
    obtain ⟨s, h1, h2, h3⟩ := string_cell ((hf 4 _ rfl).trans e)
    exact ⟨s, h1, h2, xs.map (·.1), by rw [hy], by simp [e, h3]⟩

def intV : Value → Int
  | .int _ a => a
  | _ => 0

/-- The cells of a step are those of 'opL'. -/
theorem opL_of {cs : List Value} (hl : cs.length = 21) (hi : ∀ j, j < 21 → j ≠ 16 → IntAt cs j) {s : ByteArray} (hs : cs[16]? = some (.string s)) : cs = opL (fun j => intV (cs.getD j (.int .i64 0))) s := by
  have k : ∀ j, j < 21 → j ≠ 16 → cs[j]? = some (.int .i64 (intV (cs.getD j (.int .i64 0)))) := fun j hj hj' => by
    obtain ⟨a, h, _⟩ := hi j hj hj'
    rw [List.getD_eq_getElem?_getD, h]; rfl
  apply List.ext_getElem?
  intro j
  by_cases hj : j < 21
  · match j, hj with
    | 16, _ => rw [hs]; rfl
    | 0, _ => rw [k 0 (by omega) (by omega)]; rfl
    | 1, _ => rw [k 1 (by omega) (by omega)]; rfl
    | 2, _ => rw [k 2 (by omega) (by omega)]; rfl
    | 3, _ => rw [k 3 (by omega) (by omega)]; rfl
    | 4, _ => rw [k 4 (by omega) (by omega)]; rfl
    | 5, _ => rw [k 5 (by omega) (by omega)]; rfl
    | 6, _ => rw [k 6 (by omega) (by omega)]; rfl
    | 7, _ => rw [k 7 (by omega) (by omega)]; rfl
    | 8, _ => rw [k 8 (by omega) (by omega)]; rfl
    | 9, _ => rw [k 9 (by omega) (by omega)]; rfl
    | 10, _ => rw [k 10 (by omega) (by omega)]; rfl
    | 11, _ => rw [k 11 (by omega) (by omega)]; rfl
    | 12, _ => rw [k 12 (by omega) (by omega)]; rfl
    | 13, _ => rw [k 13 (by omega) (by omega)]; rfl
    | 14, _ => rw [k 14 (by omega) (by omega)]; rfl
    | 15, _ => rw [k 15 (by omega) (by omega)]; rfl
    | 17, _ => rw [k 17 (by omega) (by omega)]; rfl
    | 18, _ => rw [k 18 (by omega) (by omega)]; rfl
    | 19, _ => rw [k 19 (by omega) (by omega)]; rfl
    | 20, _ => rw [k 20 (by omega) (by omega)]; rfl
    | i + 21, hi => exact absurd hi (by omega)
  · rw [List.getElem?_eq_none (by omega), List.getElem?_eq_none (by rw [opL_length]; omega)]

/-- A step's cells in memory. -/
theorem cells_some {w : World} {a : Addr} {n : Nat} {cs : List Value} (h : w.cells? base a n = some cs) : ∀ j, j < n → w.cell? (a.add j) = cs[j]? := by
  unfold World.cells? at h
  split at h
  · intro j hj
    have := mapM_some_get h j j (by simp [hj])
    exact this
  · cases h

/-- The script as the argument gives it. -/
theorem open_ops {v : Value} {d : DataW H} {ps : List MemPlace} {len cap : Nat} {p : Option Addr} (hv : v = .slice p len cap) (h : DataW.Trod enc Tryz.prog W 0 sp hd 22 v d ps) :
    len = 0 ∨ ∃ (b off : Nat) (n : Nat → Nat → Int) (s : Nat → ByteArray) (D : Nat → DataW H) (E : List (DataW H)), p = some ⟨b, off, none⟩ ∧ len ≤ cap ∧ cap ≤ maxLen ∧ d = .slice ((List.range len).map D) E ∧ b < W.heap.size ∧ OpsAt W ⟨b, off, none⟩ len n s ∧
      (∀ i, i < len → (∀ j, j < 21 → j ≠ 16 → (Lit.int .i64 (n i j)).wf = true) ∧ (s i).size ≤ maxLen ∧ ∃ ds : List (DataW H), D i = .agg ds ∧ ds[4]? = some (.lit (.string (s i).data.toList))) := by
  by_cases h0 : len = 0
  · exact Or.inl h0
  right
  obtain ⟨fuel, hf⟩ := h
  subst hv
  rcases open_slice Tryz.underlying22 hf with ⟨hcs, hx⟩ | ⟨a, len', cap', m, n', D, Pl, hcs, _, hlc, hcm, hm, hx, hel⟩
  · simp [Value.cells] at hcs
    exact absurd hcs.2.1 h0
  · simp [Value.cells] at hcs
    obtain ⟨rfl, rfl, rfl⟩ := hcs
    simp only [Prod.mk.injEq] at hx
    have hlm : len ≤ m := by rw [hm]; split <;> omega
    clear hf hm
    rw [cells_op] at hel
    have hop : ∀ i, ∃ (z : (Nat → Int) × ByteArray), i < len → (∀ j v, (opL z.1 z.2)[j]? = some v → W.cell? ((a.add (i * 21)).add j) = some v) ∧ (∀ j, j < 21 → j ≠ 16 → (Lit.int .i64 (z.1 j)).wf = true) ∧ z.2.size ≤ maxLen ∧ ∃ ds : List (DataW H), D i = .agg ds ∧ ds[4]? = some (.lit (.string z.2.data.toList)) := by
      intro i
      by_cases hi : i < len
      · obtain ⟨cs', hc, ht⟩ := hel i (by omega)
        obtain ⟨h21, hints, s, hs, hsm, ds, hd1, hd2⟩ := op_cells ht
        refine ⟨(fun j => intV (cs'.getD j (.int .i64 0)), s), fun _ => ⟨?_, ?_, hsm, ds, hd1, hd2⟩⟩
        · intro j v hj
          rw [← opL_of h21 hints hs] at hj
          have hj21 : j < 21 := by
            have := (List.getElem?_eq_some_iff.1 hj).1
            omega
          exact (cells_some hc j hj21).trans hj
        · intro j hj hj'
          obtain ⟨x, h1, h2⟩ := hints j hj hj'
          show (Lit.int .i64 (intV (cs'.getD j (.int .i64 0)))).wf = true
          rw [List.getD_eq_getElem?_getD, h1]
          exact h2
      · exact ⟨(fun _ => 0, ByteArray.empty), fun h => absurd h hi⟩
    have hz := fun i => Classical.choose_spec (hop i)
    obtain ⟨b, off, spot⟩ := a
    have c0 := (hz 0 (by omega)).1 0 _ (opL_zero _ _)
    have hspot : spot = none := by simpa [Addr.add] using World.cell?_spot c0
    subst hspot
    refine ⟨b, off, fun i => (Classical.choose (hop i)).1, fun i => (Classical.choose (hop i)).2, D, _, rfl, hlc, hcm, hx.1, ?_, ?_, fun i hi => (hz i hi).2⟩
    · have := block_lt_of_cell c0
      simpa [Addr.add] using this
    · intro i hi j v hj
      rw [← (hz i hi).1 j v hj]
      congr 1
      unfold Addr.add
      by_cases h1 : i * 21 = 0 <;> by_cases h2 : j = 0 <;> simp [h1, h2, Nat.add_assoc]

end

end Go.Proofs.YtbbdgokdfhdpiaaGreatDoor
