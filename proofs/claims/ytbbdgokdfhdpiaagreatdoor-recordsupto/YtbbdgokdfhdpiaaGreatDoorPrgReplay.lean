/-
  The walk of the program's record.Replay: a map that has of each lock the row that stands last, and how many bytes were read.
-/
import Derived.Test.YtbbdgokdfhdpiaaGreatDoorPrgFirst
import Derived.Test.YtbbdgokdfhdpiaaGreatDoorRefReplay
import Derived.Maps.Own
import Derived.Maps.OwnOps
import Derived.Maps.OwnSet
namespace Go.Proofs.YtbbdgokdfhdpiaaGreatDoor
open Go.RowKit Go.Maps

/-- Does a record stand at the front? -/
def fq (L : List Int) : Bool := decide (25 ≤ L.length) && recB (L.take 25)

theorem fq_iff (L : List Int) : fq L = true ↔ (25 ≤ L.length ∧ recB (L.take 25) = true) := by simp [fq]

theorem getD_take {L : List Int} {k n : Nat} (h : k < n) : (L.take n).getD k 0 = L.getD k 0 := by
  simp [List.getD, h]

theorem rowL_take (L : List Int) : rowL (L.take 25) = rowL L := by
  have e : ∀ a, a + 4 ≤ 25 → ((L.take 25).drop a).take 4 = (L.drop a).take 4 := fun a ha => by
    rw [List.drop_take, List.take_take, Nat.min_eq_left (by omega)]
  simp only [rowL, getD_take (show 1 < 25 by omega), getD_take (show 10 < 25 by omega), e 2 (by omega), e 6 (by omega), e 11 (by omega), e 15 (by omega), e 19 (by omega)]

theorem first_any (s : ByteArray) (w : World) :
    Calls Tryz.prog 97 #[.string s] w fun e w' => e = .returned (.tuple #[rwV (if fq (numsOf s) = true then rowL (numsOf s) else zRw), .bool (fq (numsOf s))]) ∧ Below w.heap.size w w' := by
  by_cases h : s.size < 25
  · have hq : fq (numsOf s) = false := by simp [fq, numsOf_length]; omega
    rw [hq]
    exact first_short s w h
  · have hq : ((strOfNums (recS (rowL (numsOf s)))).toList == (s.extract 0 25).toList) = fq (numsOf s) := by
      rw [rec_beq, numsOf_extract, List.drop_zero]
      have e : fq (numsOf s) = recB ((numsOf s).take 25) := by
        have : 25 ≤ (numsOf s).length := by rw [numsOf_length]; omega
        simp [fq, this]
      rw [e, recB, rowL_take]
    exact first_long s w (by omega) _ rfl _ hq

/-- A row as a datum. -/
def rowD (r : Rw) : DataW Unit := .agg [.lit (.int .i64 r.lock), .lit (.int .i64 r.prom), .lit (.int .i64 r.acc), .lit (.int .i64 r.own), .lit (.int .i64 r.tok), .lit (.int .i64 r.ttl), .lit (.int .i64 r.seq)]

/-- The reader of a map's rows. -/
def rowR : Value → Option (DataW Unit × List MemPlace)
  | .agg ⟨[.int .i64 a, .int .i64 b, .int .i64 c, .int .i64 d, .int .i64 e, .int .i64 f, .int .i64 g]⟩ => some (rowD ⟨a, b, c, d, e, f, g⟩, [])
  | _ => none

theorem rowR_mk (r : Rw) : rowR (rwV r) = some (rowD r, []) := rfl

/-- The table as a datum. -/
def tabD : List Rw → DataW Unit
  | rs => rs.foldl (fun D r => D.put (.int .i64 r.lock) (rowD r)) (.map [])

theorem tabD_snoc (rs : List Rw) (r : Rw) : tabD (rs ++ [r]) = (tabD rs).put (.int .i64 r.lock) (rowD r) := by simp [tabD]

theorem lawK : Keyed Tryz.prog 3 := int_keyed Tryz.underlying3

theorem okB_of_recB {M : List Int} (h : recB M = true) (hl : M.length = 25) : okB (rowL M) = true := by
  simp only [recB, decide_eq_true_eq] at h
  by_cases hc : okB (rowL M) = true
  · exact hc
  · unfold recS at h
    rw [if_neg hc] at h
    rw [← h] at hl
    simp at hl

theorem wf_small {n : Int} (h0 : 0 ≤ n) (h1 : n ≤ 2147483647) : (Lit.int .i64 n).wf = true := WalkArith.wf_i64 (by omega)

theorem okB_lock {r : Rw} (h : okB r = true) : 0 ≤ r.lock ∧ r.lock ≤ 3 := by
  simp only [okB, Bool.and_eq_true, decide_eq_true_eq] at h
  omega

/-- What stands in the loop's variable r: a row in a new block. -/
structure RowCell (W : World) (B g : Nat) (r : Rw) : Prop where
  base : B ≤ g
  lt : g < W.heap.size
  row : W.heap[g]? = some (.cells (rwL r).toArray 58 (0, 0))

theorem RowCell.cell {W : World} {B g : Nat} {r : Rw} (h : RowCell W B g r) : ∀ j x, (rwL r)[j]? = some x → W.cell? ⟨g, j, none⟩ = some x := fun j x hj => by
  rw [cell_of_row W g j _ _ _ h.row]; simpa using hj

theorem RowCell.frozen {W : World} {B g : Nat} {r : Rw} (h : RowCell W B g r) (j : Nat) : W.frozen? ⟨g, j, none⟩ = false := frozen_of_row W g j _ _ h.row

/-- Seven stores into a row: the row, and nothing else. -/
theorem chain7_heap (W : World) (g : Nat) (x0 x1 x2 x3 x4 x5 x6 : Value) (t : TypeId) (h : W.heap[g]? = some (.cells #[x0, x1, x2, x3, x4, x5, x6] t (0, 0))) (v0 v1 v2 v3 v4 v5 v6 : Value) :
    (((((((W.setCell ⟨g, 0, none⟩ v0).setCell ⟨g, 1, none⟩ v1).setCell ⟨g, 2, none⟩ v2).setCell ⟨g, 3, none⟩ v3).setCell ⟨g, 4, none⟩ v4).setCell ⟨g, 5, none⟩ v5).setCell ⟨g, 6, none⟩ v6).heap[g]? = some (.cells #[v0, v1, v2, v3, v4, v5, v6] t (0, 0)) := by
  have h1 := heap_setCell_same _ g 0 _ t v0 h
  have h2 := heap_setCell_same _ g 1 _ t v1 h1
  have h3 := heap_setCell_same _ g 2 _ t v2 h2
  have h4 := heap_setCell_same _ g 3 _ t v3 h3
  have h5 := heap_setCell_same _ g 4 _ t v4 h4
  have h6 := heap_setCell_same _ g 5 _ t v5 h5
  have h7 := heap_setCell_same _ g 6 _ t v6 h6
  rw [h7]
  rfl

theorem chain7_other (W : World) (g b : Nat) (h : b ≠ g) (v0 v1 v2 v3 v4 v5 v6 : Value) :
    (((((((W.setCell ⟨g, 0, none⟩ v0).setCell ⟨g, 1, none⟩ v1).setCell ⟨g, 2, none⟩ v2).setCell ⟨g, 3, none⟩ v3).setCell ⟨g, 4, none⟩ v4).setCell ⟨g, 5, none⟩ v5).setCell ⟨g, 6, none⟩ v6).heap[b]? = W.heap[b]? := by
  rw [heap_setCell_other _ _ _ _ h, heap_setCell_other _ _ _ _ h, heap_setCell_other _ _ _ _ h, heap_setCell_other _ _ _ _ h, heap_setCell_other _ _ _ _ h, heap_setCell_other _ _ _ _ h, heap_setCell_other _ _ _ _ h]

theorem ownsMap_of_heap {w w' : World} {R : Value → Option (DataW Unit × List MemPlace)} {b n : Nat} {D : DataW Unit} (h : w.ownsMap Tryz.prog 3 R b n D) (hb : w'.heap[b]? = w.heap[b]?) : w'.ownsMap Tryz.prog 3 R b n D := by
  obtain ⟨es, clock, h1, h2⟩ := h
  exact ⟨es, clock, hb.trans h1, h2⟩

theorem cell_of_row' {W : World} {g : Nat} {r : Rw} (h : W.heap[g]? = some (.cells (rwL r).toArray 58 (0, 0))) (j : Nat) (x : Value) (hj : (rwL r)[j]? = some x) : W.cell? ⟨g, j, none⟩ = some x := by
  rw [cell_of_row W g j _ _ _ h]; simpa using hj

set_option maxRecDepth 100000 in
set_option maxHeartbeats 4000000 in
theorem prgReplay_any (s : ByteArray) (w : World) (hs : s.size ≤ 1000000000000) :
    Calls Tryz.prog 61 #[.string s] w fun e w' => ∃ b n, e = .returned (.tuple #[.map (some b), .int .i64 (25 * ((rowsO (numsOf s)).length : Int))]) ∧ w'.ownsMap Tryz.prog 3 rowR b n (tabD (rowsO (numsOf s))) ∧ n ≤ 1000000000000 ∧ w.heap.size ≤ b ∧ Below w.heap.size w w' := by
  have hmm := @run_makeMap Tryz.prog
  have HL : Hid ((numsOf s).length = s.size) := numsOf_length s
  have h0 := fun W => first_any s W
  generalize hq0 : fq (numsOf s) = q0 at h0
  generalize hR0 : (if q0 = true then rowL (numsOf s) else zRw) = R0 at h0
  have HQ0 : Hid (fq (numsOf s) = q0) := hq0
  have HR0 : Hid ((if q0 = true then rowL (numsOf s) else zRw) = R0) := hR0
  have H0 : Hid (∀ W, Calls Tryz.prog 97 #[.string s] W fun e w' => e = .returned (.tuple #[rwV R0, .bool q0]) ∧ Below W.heap.size W w') := h0
  clear h0 hq0 hR0
  obtain ⟨l0, p0, a0, o0, t0, u0, v0⟩ := R0
  go_enter Tryz.func61, Tryz.ntmps61
  go_wp2_with fail
  refine (H0.out _).mono ?_
  rintro e w1 ⟨rfl, hb1⟩
  go_wp2
  go_loopw [5, 6, 7] (fun n r ok wr => ∃ (k p g : Nat) (rs : List Rw) (R : Rw) (q : Bool), p = 25 * k ∧ p ≤ s.size ∧ n = .int .i64 p ∧ r = .pointer (some ⟨g, 0, none⟩) ∧ ok = .bool q ∧ rs.length = k ∧ rowsO (numsOf s) = rs ++ rowsN (s.size - k) ((numsOf s).drop p) ∧ fq ((numsOf s).drop p) = q ∧ (q = true → rowL ((numsOf s).drop p) = R) ∧ RowCell wr (w.heap.size + 1) g R ∧ wr.ownsMap Tryz.prog 3 rowR w.heap.size k (tabD rs) ∧ Below w.heap.size w wr) (fun n _ _ _ => s.size - (intOf n).toNat)
  case atStart =>
    have hs1 : w.heap.size + 1 ≤ w1.heap.size := by have := hb1.size; simpa using this
    refine ⟨0, 0, w1.heap.size, [], ⟨l0, p0, a0, o0, t0, u0, v0⟩, q0, rfl, by omega, rfl, rfl, rfl, rfl, ?_, ?_, ?_, ⟨hs1, by simp, heap_alloc_new _ _⟩, ?_, ?_⟩
    · simp only [rowsO, List.nil_append, List.drop_zero, Nat.sub_zero]; rw [HL.out]
    · rw [List.drop_zero]; exact HQ0.out
    · intro hq; rw [List.drop_zero, ← HR0.out, if_pos hq]
    · refine ownsMap_of_heap (World.ownsMap_made w Tryz.prog 3 rowR) ?_
      rw [Below.heap_alloc _ _ _ (by omega)]
      exact hb1.block _ (by simp)
    · exact (((Below.refl w.heap.size w).alloc (Nat.le_refl _) _).trans (hb1.mono (by simp))).alloc (by omega) _
  case round =>
    clear hb1
    obtain ⟨k, p, g, rs, R, q, hpk, hp, rfl, rfl, rfl, hrl, hro, hfq, hRq, hcell, hown, hB⟩ := hrel
    have HP : Hid (p = 25 * k) := hpk
    have HRL : Hid (rs.length = k) := hrl
    have HRO : Hid (rowsO (numsOf s) = rs ++ rowsN (s.size - k) ((numsOf s).drop p)) := hro
    have HFQ : Hid (fq ((numsOf s).drop p) = q) := hfq
    have HRQ : Hid (q = true → rowL ((numsOf s).drop p) = R) := hRq
    have HCE : Hid (RowCell wr (w.heap.size + 1) g R) := hcell
    clear hpk hrl hro hfq hRq hcell
    have hBs := hB.size
    cases q
    · go_wp2
      go_ret2
      have hst : rowsN (s.size - k) ((numsOf s).drop p) = [] := rowsN_stop _ _ (by rw [← fq_iff, HFQ.out]; simp)
      have hro := HRO.out
      rw [hst, List.append_nil] at hro
      refine ⟨_, k, ?_, by rw [hro]; exact hown, by have := HP.out; omega, Nat.le_refl _, hB⟩
      rw [hro, HRL.out, HP.out]
      simp
    · have hfr := (fq_iff _).1 HFQ.out
      rw [List.length_drop, HL.out] at hfr
      have h25 : p + 25 ≤ s.size := by omega
      have hok : okB R = true := by
        rw [← HRQ.out rfl, ← rowL_take]
        exact okB_of_recB hfr.2 (by rw [List.length_take, List.length_drop, HL.out]; omega)
      have hlk := okB_lock hok
      have HRR : Hid (rowL ((numsOf s).drop p) = R) := HRQ.out rfl
      have HREC : Hid (25 ≤ ((numsOf s).drop p).length ∧ recB (((numsOf s).drop p).take 25) = true) := ⟨by rw [List.length_drop, HL.out]; omega, hfr.2⟩
      clear hfr hok HRQ HFQ
      have hnf := numsOf_from s (p + 25)
      have hf := fun W => first_any (s.extract (p + 25) s.size) W
      rw [hnf] at hf
      generalize hq2 : fq ((numsOf s).drop (p + 25)) = q2 at hf
      generalize hR2 : (if q2 = true then rowL ((numsOf s).drop (p + 25)) else zRw) = R2 at hf
      have HQ2 : Hid (fq ((numsOf s).drop (p + 25)) = q2) := hq2
      have HR2 : Hid ((if q2 = true then rowL ((numsOf s).drop (p + 25)) else zRw) = R2) := hR2
      have HF : Hid (∀ W, Calls Tryz.prog 97 #[.string (s.extract (p + 25) s.size)] W fun e w' => e = .returned (.tuple #[rwV R2, .bool q2]) ∧ Below W.heap.size W w') := hf
      clear hf hq2 hR2 hnf
      obtain ⟨l, pr, a, o, t, u, v⟩ := R
      obtain ⟨l2, pr2, a2, o2, t2, u2, v2⟩ := R2
      have hkey : keyOf Tryz.prog 3 (.int .i64 l) = some (.int .i64 l) := keyOf_int_mk Tryz.underlying3 (WalkArith.wf_i64 (by have := hlk.1; have := hlk.2; simp at *; omega))
      have hkb : k ≤ 1000000000000 := by have := HP.out; omega
      have hgne : some g ≠ some w.heap.size := by have := HCE.out.base; simp; omega
      have hgle : ∀ j, some w.heap.size = some j → w.heap.size ≤ j := fun j hj => by cases hj; exact Nat.le_refl _
      have c0 : wr.cell? ⟨g, 0, none⟩ = some (.int .i64 l) := HCE.out.cell 0 _ rfl
      have c1 : wr.cell? ⟨g, 1, none⟩ = some (.int .i64 pr) := HCE.out.cell 1 _ rfl
      have c2 : wr.cell? ⟨g, 2, none⟩ = some (.int .i64 a) := HCE.out.cell 2 _ rfl
      have c3 : wr.cell? ⟨g, 3, none⟩ = some (.int .i64 o) := HCE.out.cell 3 _ rfl
      have c4 : wr.cell? ⟨g, 4, none⟩ = some (.int .i64 t) := HCE.out.cell 4 _ rfl
      have c5 : wr.cell? ⟨g, 5, none⟩ = some (.int .i64 u) := HCE.out.cell 5 _ rfl
      have c6 : wr.cell? ⟨g, 6, none⟩ = some (.int .i64 v) := HCE.out.cell 6 _ rfl
      go_wp2_with (at_mapUpdate; refine wpList_mapUpdate_own _ rfl _ _ _ 118 rfl 3 58 lawK Tryz.underlying118 rowR w.heap.size k (tabD rs) rfl hown (by unfold maxLen; omega) _ (rwV ⟨l, pr, a, o, t, u, v⟩) (.int .i64 l) rfl rfl hkey (rowD ⟨l, pr, a, o, t, u, v⟩) [] (rowR_mk _) ?_; intro w2 hown2 hgrow2; have hrow2 : w2.heap[g]? = some (.cells (rwL ⟨l, pr, a, o, t, u, v⟩).toArray 58 (0, 0)) := (hgrow2.block g HCE.out.lt hgne).trans HCE.out.row; have hlt2 : g < w2.heap.size := Nat.lt_of_lt_of_le HCE.out.lt hgrow2.size; have d0 : w2.cell? ⟨g, 0, none⟩ = some (.int .i64 l) := cell_of_row' hrow2 0 _ rfl; have d1 : w2.cell? ⟨g, 1, none⟩ = some (.int .i64 pr) := cell_of_row' hrow2 1 _ rfl; have d2 : w2.cell? ⟨g, 2, none⟩ = some (.int .i64 a) := cell_of_row' hrow2 2 _ rfl; have d3 : w2.cell? ⟨g, 3, none⟩ = some (.int .i64 o) := cell_of_row' hrow2 3 _ rfl; have d4 : w2.cell? ⟨g, 4, none⟩ = some (.int .i64 t) := cell_of_row' hrow2 4 _ rfl; have d5 : w2.cell? ⟨g, 5, none⟩ = some (.int .i64 u) := cell_of_row' hrow2 5 _ rfl; have d6 : w2.cell? ⟨g, 6, none⟩ = some (.int .i64 v) := cell_of_row' hrow2 6 _ rfl; have hB2 : Below w.heap.size w w2 := hB.grown hgrow2 hBs hgle; clear hgrow2 hrow2 hown hB)
      refine (HF.out _).mono ?_
      rintro e w3 ⟨rfl, hb3⟩
      have hrow3 : w3.heap[w2.heap.size]? = some (.cells (rwL ⟨l, pr, a, o, t, u, v⟩).toArray 58 (0, 0)) := (hb3.block _ (by simp)).trans (heap_alloc_new _ _)
      have hws2 : w.heap.size + 1 ≤ w2.heap.size := by have := HCE.out.base; omega
      have hlt3 : w2.heap.size < w3.heap.size := by have := hb3.size; simp at this; omega
      have hB3 : Below w.heap.size w w3 := (hB2.alloc (by omega) _).trans (hb3.mono (by simp; omega))
      have hown3 : w3.ownsMap Tryz.prog 3 rowR w.heap.size (k + 1) ((tabD rs).put (.int .i64 l) (rowD ⟨l, pr, a, o, t, u, v⟩)) := by
        refine ownsMap_of_heap hown2 ?_
        rw [hb3.block _ (by simp; omega)]
        exact Below.heap_alloc _ _ _ (by omega)
      have e0 : w3.cell? ⟨w2.heap.size, 0, none⟩ = some (.int .i64 l) := cell_of_row' hrow3 0 _ rfl
      have f0 : w3.frozen? ⟨w2.heap.size, 0, none⟩ = false := frozen_of_row w3 _ 0 _ _ hrow3
      have e1 : w3.cell? ⟨w2.heap.size, 1, none⟩ = some (.int .i64 pr) := cell_of_row' hrow3 1 _ rfl
      have f1 : w3.frozen? ⟨w2.heap.size, 1, none⟩ = false := frozen_of_row w3 _ 1 _ _ hrow3
      have e2 : w3.cell? ⟨w2.heap.size, 2, none⟩ = some (.int .i64 a) := cell_of_row' hrow3 2 _ rfl
      have f2 : w3.frozen? ⟨w2.heap.size, 2, none⟩ = false := frozen_of_row w3 _ 2 _ _ hrow3
      have e3 : w3.cell? ⟨w2.heap.size, 3, none⟩ = some (.int .i64 o) := cell_of_row' hrow3 3 _ rfl
      have f3 : w3.frozen? ⟨w2.heap.size, 3, none⟩ = false := frozen_of_row w3 _ 3 _ _ hrow3
      have e4 : w3.cell? ⟨w2.heap.size, 4, none⟩ = some (.int .i64 t) := cell_of_row' hrow3 4 _ rfl
      have f4 : w3.frozen? ⟨w2.heap.size, 4, none⟩ = false := frozen_of_row w3 _ 4 _ _ hrow3
      have e5 : w3.cell? ⟨w2.heap.size, 5, none⟩ = some (.int .i64 u) := cell_of_row' hrow3 5 _ rfl
      have f5 : w3.frozen? ⟨w2.heap.size, 5, none⟩ = false := frozen_of_row w3 _ 5 _ _ hrow3
      have e6 : w3.cell? ⟨w2.heap.size, 6, none⟩ = some (.int .i64 v) := cell_of_row' hrow3 6 _ rfl
      have f6 : w3.frozen? ⟨w2.heap.size, 6, none⟩ = false := frozen_of_row w3 _ 6 _ _ hrow3
      have HROW : Hid (w3.heap[w2.heap.size]? = some (.cells (rwL ⟨l, pr, a, o, t, u, v⟩).toArray 58 (0, 0))) := hrow3
      clear hb3 hB2 hown2 hrow3 d0 d1 d2 d3 d4 d5 d6 c0 c1 c2 c3 c4 c5 c6 HF hkey
      go_wp2
      go_roundw
      case rel =>
        refine ⟨k + 1, p + 25, w2.heap.size, rs ++ [⟨l, pr, a, o, t, u, v⟩], ⟨l2, pr2, a2, o2, t2, u2, v2⟩, q2, by rw [HP.out]; omega, by omega, by go_num, rfl, rfl, by simp [HRL.out], ?_, HQ2.out, fun hq => by rw [← HR2.out, if_pos hq], ⟨hws2, by simp; omega, chain7_heap _ _ _ _ _ _ _ _ _ _ HROW.out _ _ _ _ _ _ _⟩, ?_, ?_⟩
        · have hst := rowsN_step (s.size - (k + 1)) ((numsOf s).drop p) HREC.out
          have hp25 := HP.out
          rw [show s.size - (k + 1) + 1 = s.size - k by omega, rowL_take, HRR.out, List.drop_drop] at hst
          rw [HRO.out, hst]
          simp
        · rw [tabD_snoc]
          exact ownsMap_of_heap hown3 (chain7_other _ _ _ (by omega) _ _ _ _ _ _ _)
        · have hle : w.heap.size ≤ w2.heap.size := by omega
          exact (((((((hB3.setCell hle _).setCell hle _).setCell hle _).setCell hle _).setCell hle _).setCell hle _).setCell hle _)
      case measure => simp [intOf]; omega

end Go.Proofs.YtbbdgokdfhdpiaaGreatDoor
