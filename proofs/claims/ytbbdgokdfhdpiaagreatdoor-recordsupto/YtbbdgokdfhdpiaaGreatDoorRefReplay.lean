/-
  The walk of the reference's Replay: the table of the records at the front, and their bytes.
-/
import Derived.Test.YtbbdgokdfhdpiaaGreatDoorRefTable
namespace Go.Proofs.YtbbdgokdfhdpiaaGreatDoor
open Go.RowKit

/-- An owned row of rows, cell by cell. -/
theorem rowsAt_of_owns {w : World} {base g cap : Nat} {rs : List Rw} (h : w.ownsRow base 58 7 (.slice (some ⟨g, 0, none⟩) rs.length cap) rs.length (cellsOf rs)) : RowsAt w g rs := by
  intro i hi j v hj
  have hj7 : j < 7 := by
    have := (List.getElem?_eq_some_iff.1 hj).1
    simpa using this
  rw [h.cellAt (i * 7 + j) (by omega), cellsOf_get rs i hi j hj7]
  exact hj

theorem ownsRow_base {w : World} {base base' : Nat} {e : TypeId} {size : Nat} {v : Value} {n : Nat} {xs : List Value} (h : w.ownsRow base e size v n xs) (hb : base' ≤ base) : w.ownsRow base' e size v n xs := by
  obtain ⟨h1, h2⟩ := h
  refine ⟨h1, ?_⟩
  rcases h2 with hn | ⟨g, cap, cur, hv, hg, rest⟩
  · exact Or.inl hn
  · exact Or.inr ⟨g, cap, cur, hv, Nat.le_trans hb hg, rest⟩

theorem rowsN_len : ∀ (f : Nat) (L : List Int), 25 * (rowsN f L).length ≤ L.length
  | 0, L => by simp [rowsN]
  | f + 1, L => by
    simp only [rowsN]
    split
    · rename_i h
      have ih := rowsN_len f (L.drop 25)
      rw [List.length_drop] at ih
      rw [List.length_cons]
      omega
    · simp

theorem tabTo_nil (k : Nat) : tabTo [] k = [] := by
  have : ∀ k, lastOf [] k = none := fun k => rfl
  simp [tabTo, this]

set_option maxHeartbeats 1000000 in
theorem refReplay_any (s : ByteArray) (w : World) (hs : s.size ≤ 1000000000000) :
    Calls Tryz.prog 103 #[.string s] w fun e w' => ∃ v, e = .returned (.tuple #[v, .int .i64 (25 * ((rowsO (numsOf s)).length : Int))]) ∧ w'.ownsRow w.heap.size 58 7 v (tabTo (rowsO (numsOf s)) 4).length (cellsOf (tabTo (rowsO (numsOf s)) 4)) ∧ Below w.heap.size w w' := by
  have hrows := refRows_any s w hs
  have hlen : 25 * (rowsO (numsOf s)).length ≤ 1000000000000 := by
    have h := rowsN_len (numsOf s).length (numsOf s)
    rw [numsOf_length] at h
    unfold rowsO
    rw [numsOf_length]
    omega
  generalize rowsO (numsOf s) = rs at hrows hlen ⊢
  have HR : Hid (Calls Tryz.prog 143 #[.string s] w fun e w' => ∃ v, e = .returned v ∧ w'.ownsRow w.heap.size 58 7 v rs.length (cellsOf rs) ∧ Below w.heap.size w w') := hrows
  clear hrows
  generalize hN : rs.length = N at hlen ⊢
  have HN : Hid (rs.length = N) := hN
  clear hN
  go_enter Tryz.func103, Tryz.ntmps103
  go_wp2_with fail
  refine HR.out.mono ?_
  rintro e w1 ⟨v, rfl, hown, hB⟩
  rw [HN.out] at hown
  clear HR
  rcases hown.2 with ⟨rfl, h0⟩ | ⟨g, cap, cur, rfl, hg, _, hcap, hm, _⟩
  · subst h0
    have ht := tabTo_nil 4
    have hrs : rs = [] := List.length_eq_zero_iff.1 HN.out
    go_wp2_with (go_at_call 144; refine (table_none _ _ _).mono ?_; rintro e w2 ⟨rfl, hb2⟩)
    go_ret2
    exact ⟨.slice none 0 0, rfl, by rw [hrs, ht]; exact World.ownsRow_nil _ _ _ _, hB.trans (hb2.mono hB.size)⟩
  · have htab := table_block g cap rs w1 ((hown.lt g rfl).2) (rowsAt_of_owns (by rw [HN.out]; exact hown)) (by rw [HN.out]; omega)
    rw [HN.out] at htab
    go_wp2_with (go_at_call 144; refine htab.mono ?_; rintro e w2 ⟨v2, rfl, hown2, hb2⟩)
    go_ret2
    exact ⟨v2, rfl, ownsRow_base hown2 hB.size, hB.trans (hb2.mono hB.size)⟩

end Go.Proofs.YtbbdgokdfhdpiaaGreatDoor
