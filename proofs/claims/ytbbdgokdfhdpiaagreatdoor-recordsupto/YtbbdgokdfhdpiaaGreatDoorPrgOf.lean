/-
  The walk of the program's record: its bytes, appended one number behind the other.
-/
import Derived.Test.YtbbdgokdfhdpiaaGreatDoorPrgSum
namespace Go.Proofs.YtbbdgokdfhdpiaaGreatDoor
open Go.RowKit

abbrev bytesV (xs : List Int) : List Value := xs.map (Value.int .u8)

set_option maxRecDepth 100000 in
set_option maxHeartbeats 1000000 in
theorem of_no (r : Rw) (w : World) (hno : okB r = false) :
    Calls Tryz.prog 100 #[rwV r] w fun e w' => e = .returned (.string (strOfNums [])) ∧ Below w.heap.size w w' := by
  have hw := fun W => writable_any r W
  obtain ⟨l, p, a, o, t, u, q⟩ := r
  go_enter Tryz.func100, Tryz.ntmps100
  go_wp2_with (go_at_call 140; refine (hw _).mono ?_; rintro e w1 ⟨rfl, hb1⟩)
  go_ret
  exact ⟨rfl, ((Below.refl _ w).alloc (Nat.le_refl _) _).trans (hb1.mono (by simp))⟩

set_option maxRecDepth 100000 in
set_option maxHeartbeats 2000000 in
theorem of_yes (r : Rw) (w : World) (hok : okB r = true) :
    Calls Tryz.prog 100 #[rwV r] w fun e w' => e = .returned (.string (strOfNums (recL r))) ∧ Below w.heap.size w w' := by
  have hw := fun W => writable_any r W
  obtain ⟨l, p, a, o, t, u, q⟩ := r
  rw [hok] at hw
  simp only [okB, Bool.and_eq_true, decide_eq_true_eq, wrB] at hok
  obtain ⟨i0, hi, hz0, hz1, hz2⟩ := info_parts info_u8
  have HW : Hid (∀ W, Calls Tryz.prog 140 #[rwV ⟨l, p, a, o, t, u, q⟩] W fun e w' => e = .returned (.bool true) ∧ Below W.heap.size W w') := hw
  clear hw
  have hl : 0 ≤ l ∧ l < 4 := by omega
  have ho : 0 ≤ o ∧ o < 5 := by omega
  have hp : 0 ≤ p ∧ p ≤ 2147483647 := by omega
  have ha : 0 ≤ a ∧ a ≤ 2147483647 := by omega
  have ht : 0 ≤ t ∧ t ≤ 2147483647 := by omega
  have hu : 0 ≤ u ∧ u ≤ 2147483647 := by omega
  have hq : 0 ≤ q ∧ q ≤ 2147483647 := by omega
  clear hok
  have HC : Hid (∀ W, Below (w.heap.size + 1) (w.alloc (.cells #[.int .i64 l, .int .i64 p, .int .i64 a, .int .i64 o, .int .i64 t, .int .i64 u, .int .i64 q] 58)) W → ∀ j v, (#[Value.int .i64 l, .int .i64 p, .int .i64 a, .int .i64 o, .int .i64 t, .int .i64 u, .int .i64 q] : Array Value)[j]? = some v → W.cell? ⟨w.heap.size, j, none⟩ = some v) := by
    intro W hB j v hj
    rw [hB.cell (p := ⟨w.heap.size, j, none⟩) (by simp)]
    simpa using hj
  generalize hW0 : w.alloc (.cells #[.int .i64 l, .int .i64 p, .int .i64 a, .int .i64 o, .int .i64 t, .int .i64 u, .int .i64 q] 58) = W0 at HC
  have hz : W0.heap.size = w.heap.size + 1 := by rw [← hW0]; simp
  have HW0 : Hid (w.alloc (.cells #[.int .i64 l, .int .i64 p, .int .i64 a, .int .i64 o, .int .i64 t, .int .i64 u, .int .i64 q] 58) = W0) := hW0
  clear hW0
  go_enter Tryz.func100, Tryz.ntmps100
  go_wp2_with (first
    | (go_at_call 140; rw [HW0.out]; refine (HW.out _).mono ?_; rintro e w1 ⟨rfl, hb1⟩)
    | (at_make; refine wpList_make_own _ rfl _ _ 218 rfl (w.heap.size + 1) 5 i0 (.int .u8 0) 1 Tryz.underlying218 hi hz0 hz1 .i64 .i64 25 25 rfl rfl rfl (by omega) (by unfold maxLen; omega) (by have := hb1.size; omega) ?_; intro w2 hown2 hg2; have hs1 : w.heap.size + 1 ≤ w1.heap.size := by { have := hb1.size; omega }; have hB2 : Below (w.heap.size + 1) W0 w2 := (hb1.mono (by omega)).grown hg2 hs1 (fun j hj => by cases hj); have hs2 : w.heap.size + 1 ≤ w2.heap.size := by { have := hg2.size; omega }; have c2 : w2.cell? ⟨w.heap.size, 0, none⟩ = some (.int .i64 l) := HC.out _ hB2 0 _ rfl; clear hb1 hg2 hs1)
    | (at_builtin; refine wpList_append_own_at _ rfl _ _ 218 rfl (w.heap.size + 1) 5 i0 (.int .u8 0) 1 1 Tryz.underlying218 hi hz0 hz1 hz2 rfl (by decide) _ _ _ rfl (hown2.alloc _) ⟨w2.heap.size, 0, none⟩ 2 2 [.int .u8 82, .int .u8 l] rfl rfl ?qa ?qb ?qc ?qd ?qe ?_))

  case qa => exact cells_new _ _ _
  case qb => intro x hx; simp at hx; rcases hx with rfl | rfl <;> rfl
  case qc => unfold maxLen; omega
  case qd => omega
  case qe => simp; omega
  intro v3 w3 hown3 hg3 _ _
  have hB3 : Below (w.heap.size + 1) W0 w3 := (hB2.alloc hs2 _).grown hg3 (by simp; omega) (fun j hj => (hown2.lt j hj).1)
  have hs3 : w.heap.size + 1 ≤ w3.heap.size := by have := hg3.size; simp at this; omega
  clear hg3 hown2 hB2 hs2 c2
  have c3 : w3.cell? ⟨w.heap.size, 1, none⟩ = some (.int .i64 p) := HC.out _ hB3 1 _ rfl
  go_wp2_with fail
  refine (appendNumber_any (w.heap.size + 1) v3 2 _ p w3 hown3 (by omega) hp.1 hp.2 hs3).mono ?_
  rintro e w4 ⟨v4, rfl, hown4, hbl4⟩
  have hB4 : Below (w.heap.size + 1) W0 w4 := hB3.trans hbl4
  have hs4 : w.heap.size + 1 ≤ w4.heap.size := by have := hbl4.size; omega
  clear hbl4 hown3 hB3 hs3 c3
  have c4 : w4.cell? ⟨w.heap.size, 2, none⟩ = some (.int .i64 a) := HC.out _ hB4 2 _ rfl
  go_wp2_with fail
  refine (appendNumber_any (w.heap.size + 1) v4 6 _ a w4 hown4 (by omega) ha.1 ha.2 hs4).mono ?_
  rintro e w5 ⟨v5, rfl, hown5, hbl5⟩
  have hB5 : Below (w.heap.size + 1) W0 w5 := hB4.trans hbl5
  have hs5 : w.heap.size + 1 ≤ w5.heap.size := by have := hbl5.size; omega
  clear hbl5 hown4 hB4 hs4 c4
  have c5 : w5.cell? ⟨w.heap.size, 3, none⟩ = some (.int .i64 o) := HC.out _ hB5 3 _ rfl
  go_wp2_with (at_builtin; refine wpList_append_own_at _ rfl _ _ 218 rfl (w.heap.size + 1) 5 i0 (.int .u8 0) 1 1 Tryz.underlying218 hi hz0 hz1 hz2 rfl (by decide) _ _ _ rfl (hown5.alloc _) ⟨w5.heap.size, 0, none⟩ 1 1 [.int .u8 o] rfl rfl ?qa ?qb ?qc ?qd ?qe ?_)
  case qa => exact cells_new _ _ _
  case qb => intro x hx; simp at hx; subst hx; rfl
  case qc => unfold maxLen; omega
  case qd => omega
  case qe => simp; omega
  intro v6 w6 hown6 hg6 _ _
  have hB6 : Below (w.heap.size + 1) W0 w6 := (hB5.alloc hs5 _).grown hg6 (by simp; omega) (fun j hj => (hown5.lt j hj).1)
  have hs6 : w.heap.size + 1 ≤ w6.heap.size := by have := hg6.size; simp at this; omega
  clear hg6 hown5 hB5 hs5 c5
  have c6 : w6.cell? ⟨w.heap.size, 4, none⟩ = some (.int .i64 t) := HC.out _ hB6 4 _ rfl
  go_wp2_with fail
  refine (appendNumber_any (w.heap.size + 1) v6 11 _ t w6 hown6 (by omega) ht.1 ht.2 hs6).mono ?_
  rintro e w7 ⟨v7, rfl, hown7, hbl7⟩
  have hB7 : Below (w.heap.size + 1) W0 w7 := hB6.trans hbl7
  have hs7 : w.heap.size + 1 ≤ w7.heap.size := by have := hbl7.size; omega
  clear hbl7 hown6 hB6 hs6 c6
  have c7 : w7.cell? ⟨w.heap.size, 5, none⟩ = some (.int .i64 u) := HC.out _ hB7 5 _ rfl
  go_wp2_with fail
  refine (appendNumber_any (w.heap.size + 1) v7 15 _ u w7 hown7 (by omega) hu.1 hu.2 hs7).mono ?_
  rintro e w8 ⟨v8, rfl, hown8, hbl8⟩
  have hB8 : Below (w.heap.size + 1) W0 w8 := hB7.trans hbl8
  have hs8 : w.heap.size + 1 ≤ w8.heap.size := by have := hbl8.size; omega
  clear hbl8 hown7 hB7 hs7 c7
  have c8 : w8.cell? ⟨w.heap.size, 6, none⟩ = some (.int .i64 q) := HC.out _ hB8 6 _ rfl
  go_wp2_with fail
  refine (appendNumber_any (w.heap.size + 1) v8 19 _ q w8 hown8 (by omega) hq.1 hq.2 hs8).mono ?_
  rintro e w9 ⟨v9, rfl, hown9, hbl9⟩
  have hB9 : Below (w.heap.size + 1) W0 w9 := hB8.trans hbl9
  have hs9 : w.heap.size + 1 ≤ w9.heap.size := by have := hbl9.size; omega
  clear hbl9 hown8 hB8 hs8 c8
  have e1 : lowL l 1 = [l] := by simp only [lowL]; rw [show l % 256 = l by omega]
  have e2 : lowL o 1 = [o] := by simp only [lowL]; rw [show o % 256 = o by omega]
  have hown : w9.ownsRow (w.heap.size + 1) 5 1 v9 23 (bytesV (bodyL ⟨l, p, a, o, t, u, q⟩)) := by
    have h := hown9
    simpa [bodyL, e1, e2, bytesV] using h
  clear hown9 e1 e2 HC HW hl ho hp ha ht hu hq
  have hlen := bodyL_length ⟨l, p, a, o, t, u, q⟩
  have hbyte := bodyL_byte ⟨l, p, a, o, t, u, q⟩
  have hrec : recL ⟨l, p, a, o, t, u, q⟩ = bodyL ⟨l, p, a, o, t, u, q⟩ ++ lowL (sumL (bodyL ⟨l, p, a, o, t, u, q⟩) 0 0) 2 := rfl
  have HR : Hid (recL ⟨l, p, a, o, t, u, q⟩ = bodyL ⟨l, p, a, o, t, u, q⟩ ++ lowL (sumL (bodyL ⟨l, p, a, o, t, u, q⟩) 0 0) 2) := hrec
  clear hrec
  generalize bodyL ⟨l, p, a, o, t, u, q⟩ = L at hown hlen hbyte HR
  have HLen : Hid (L.length = 23) := hlen
  have HBy : Hid (∀ x ∈ L, 0 ≤ x ∧ x < 256) := hbyte
  clear hlen hbyte
  rcases hown.2 with ⟨_, h0⟩ | ⟨g, cap, cur, rfl, _⟩
  · omega
  have hcell : ∀ j, j < L.length → w9.cell? ⟨g, j, none⟩ = some (.int .u8 (L.getD j 0)) := by
    intro j hj
    rw [hown.cellAt j (by rw [HLen.out] at hj; omega), bytesV, List.getElem?_map, List.getElem?_eq_getElem hj, List.getD_eq_getElem?_getD, List.getElem?_eq_getElem hj]
    rfl
  have hsum := sum_any g cap L w9 hcell HBy.out (by rw [HLen.out]; omega)
  rw [HLen.out] at hsum
  have hrg := sumL_range L 0 0 (by omega) (by omega)
  generalize sumL L 0 0 = S at hsum hrg HR
  clear hcell
  go_wp2_with fail
  refine hsum.mono ?_
  rintro e w10 ⟨rfl, hw10⟩
  obtain rfl : w9 = w10 := hw10.symm
  clear hsum
  go_wp2_with (at_builtin; refine wpList_append_own_at _ rfl _ _ 218 rfl (w.heap.size + 1) 5 i0 (.int .u8 0) 1 1 Tryz.underlying218 hi hz0 hz1 hz2 rfl (by decide) _ _ _ rfl (hown.alloc _) ⟨w9.heap.size, 0, none⟩ 2 2 [.int .u8 (S % 256), .int .u8 (S / 256)] rfl rfl ?qa ?qb ?qc ?qd ?qe ?_)
  case qa => exact cells_new _ _ _
  case qb => intro x hx; simp at hx; rcases hx with rfl | rfl <;> rfl
  case qc => unfold maxLen; omega
  case qd => omega
  case qe => simp; omega
  intro v10 w10 hown10 hg10 _ _
  have hB10 : Below (w.heap.size + 1) W0 w10 := (hB9.alloc hs9 _).grown hg10 (by simp; omega) (fun j hj => (hown.lt j hj).1)
  have hRl := recL_length ⟨l, p, a, o, t, u, q⟩
  have hS2 : lowL S 2 = [S % 256, S / 256] := by simp only [lowL]; rw [show S / 256 % 256 = S / 256 by omega]
  have hown25 : w10.ownsRow (w.heap.size + 1) 5 1 v10 25 (bytesV (recL ⟨l, p, a, o, t, u, q⟩)) := by
    rw [HR.out, hS2]
    have h := hown10
    simpa [bytesV] using h
  have hBw : Below w.heap.size w w10 := by
    have h := ((Below.refl w.heap.size w).alloc (Nat.le_refl _) (.cells #[.int .i64 l, .int .i64 p, .int .i64 a, .int .i64 o, .int .i64 t, .int .i64 u, .int .i64 q] 58))
    rw [HW0.out] at h
    exact h.trans (hB10.mono (by omega))
  clear hown10 hg10 hB9 hs9 hown HR hS2 hrg HLen HBy HW0 hB10
  generalize hXX : recL ⟨l, p, a, o, t, u, q⟩ = X at hown25 hRl
  have HXX : Hid (recL ⟨l, p, a, o, t, u, q⟩ = X) := hXX
  clear hXX
  rcases hown25.2 with ⟨_, h0⟩ | ⟨g2, cap2, cur2, rfl, _⟩
  · omega
  have HX : Hid (X.length = 25) := hRl
  clear hRl
  have kc := run_convert_bytes_arg (P := Tryz.prog) w10 218 5 Tryz.underlying218 Tryz.underlying5 g2 0 25 cap2 X HX.out (fun j hj => by
    rw [Nat.zero_add, hown25.cellAt j (by omega), bytesV, List.getElem?_map, List.getElem?_eq_getElem (by rw [HX.out]; omega), List.getD_eq_getElem?_getD, List.getElem?_eq_getElem (by rw [HX.out]; omega)]
    rfl) 9 Tryz.underlying9
  clear hown25
  go_wp2
  go_ret
  exact ⟨by rw [HXX.out]; rfl, hBw⟩

theorem of_any (r : Rw) (w : World) :
    Calls Tryz.prog 100 #[rwV r] w fun e w' => e = .returned (.string (strOfNums (recS r))) ∧ Below w.heap.size w w' := by
  unfold recS
  by_cases h : okB r = true
  · rw [if_pos h]; exact of_yes r w h
  · rw [if_neg h]; exact of_no r w (by simpa using h)

set_option maxHeartbeats 400000 in
theorem record_any (r : Rw) (w : World) :
    Calls Tryz.prog 69 #[rwV r] w fun e w' => e = .returned (.string (strOfNums (recS r))) ∧ Below w.heap.size w w' := by
  have hw := fun W => of_any r W
  obtain ⟨l, p, a, o, t, u, q⟩ := r
  generalize recS ⟨l, p, a, o, t, u, q⟩ = X at hw ⊢
  go_enter Tryz.func69, Tryz.ntmps69
  go_wp2_with (go_at_call 100; refine (hw _).mono ?_; rintro e w1 ⟨rfl, hb1⟩)
  go_ret
  exact ⟨rfl, ((Below.refl _ w).alloc (Nat.le_refl _) _).trans (hb1.mono (by simp))⟩

end Go.Proofs.YtbbdgokdfhdpiaaGreatDoor
