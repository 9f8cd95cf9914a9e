/-
  The walk of the program's Replay at its door: the table of a text as a new list of rows, and how many bytes were read.
-/
import Derived.Test.YtbbdgokdfhdpiaaGreatDoorPrgRows
namespace Go.Proofs.YtbbdgokdfhdpiaaGreatDoor
open Go.RowKit Go.Maps

theorem rowsN_locks : ∀ (f : Nat) (L : List Int), ∀ r ∈ rowsN f L, 0 ≤ r.lock ∧ r.lock ≤ 3
  | 0, L => by simp [rowsN]
  | f + 1, L => by
    simp only [rowsN]
    split
    · rename_i h
      intro r hr
      rcases List.mem_cons.1 hr with rfl | hr
      · exact okB_lock (okB_of_recB h.2 (by rw [List.length_take]; omega))
      · exact rowsN_locks f _ r hr
    · simp

theorem rowsO_len (s : ByteArray) : 25 * (rowsO (numsOf s)).length ≤ s.size := by
  have h := rowsN_len (numsOf s).length (numsOf s)
  rw [numsOf_length] at h
  unfold rowsO
  rw [numsOf_length]
  exact h

set_option maxHeartbeats 1000000 in
theorem moorReplay_any (s : ByteArray) (w : World) (hs : s.size ≤ 1000000000000) :
    Calls Tryz.prog 22 #[.string s] w fun e w' => ∃ v, e = .returned (.tuple #[v, .int .i64 (25 * ((rowsO (numsOf s)).length : Int))]) ∧ w'.ownsRow w.heap.size 58 7 v (tabTo (rowsO (numsOf s)) 4).length (cellsOf (tabTo (rowsO (numsOf s)) 4)) ∧ Below w.heap.size w w' := by
  have hrep := prgReplay_any s w hs
  have hlk : ∀ r ∈ rowsO (numsOf s), 0 ≤ r.lock ∧ r.lock ≤ 3 := rowsN_locks _ _
  have hlen := rowsO_len s
  generalize rowsO (numsOf s) = rs at hrep hlk hlen ⊢
  generalize hN : rs.length = N at hrep hlen ⊢
  have HR : Hid (Calls Tryz.prog 61 #[.string s] w fun e w' => ∃ b n, e = .returned (.tuple #[.map (some b), .int .i64 (25 * (N : Int))]) ∧ w'.ownsMap Tryz.prog 3 rowR b n (tabD rs) ∧ n ≤ 1000000000000 ∧ w.heap.size ≤ b ∧ Below w.heap.size w w') := hrep
  clear hrep hN
  go_enter Tryz.func22, Tryz.ntmps22
  go_wp2_with fail
  refine HR.out.mono ?_
  rintro e w1 ⟨b, n, rfl, hown, hn, hb, hB⟩
  have hrows := tableRows_any b n rs w1 hown hlk
  clear HR hown
  go_wp2_with (go_at_call 62; refine hrows.mono ?_; rintro e w2 ⟨v2, rfl, hown2, hb2⟩)
  go_ret2
  exact ⟨v2, rfl, ownsRow_base hown2 hB.size, hB.trans (hb2.mono hB.size)⟩

end Go.Proofs.YtbbdgokdfhdpiaaGreatDoor
