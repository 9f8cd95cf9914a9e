/-
  The walk of one step of kind 3: both tellings of Replay give the same rows and bytes, and the list is kept.
-/
import Derived.Test.YtbbdgokdfhdpiaaGreatDoorLawOwn
namespace Go.Proofs.YtbbdgokdfhdpiaaGreatDoor
open Go.RowKit

theorem hidL {p : Prop} (h : p) : Hid p := h
theorem stopL {p : Prop} (h : Hid p) : p := h.out

theorem holds_of_owns {w : World} {base : Nat} {v : Value} {rs : List Rw} (h : w.ownsRow base 58 7 v rs.length (cellsOf rs)) : HoldsRows w v rs ∨ (rs = [] ∧ ∃ p c, v = .slice p 0 c) := by
  rcases h.2 with ⟨rfl, h0⟩ | ⟨g, cap, cur, rfl, hb, hc, hn, hm, hs, ht⟩
  · exact Or.inl (Or.inl ⟨rfl, List.eq_nil_of_length_eq_zero h0⟩)
  · exact Or.inl (Or.inr ⟨g, cap, rfl, hn, hm, rowsAt_of_owns h⟩)

set_option maxRecDepth 100000 in
set_option maxHeartbeats 4000000 in
theorem replayed_any (W : World) (g0 next : Nat) (rv mv : Value) (ls : List (Value × Nat × Int)) (h : StoreAt W g0 next rv mv ls) (hnx : next ≤ 1000000000000) (hls : ls.length ≤ 1000000000000)
    (s : ByteArray) (hs : s.size ≤ 1000000000000) :
    Calls Tryz.prog 71 #[.pointer (some ⟨g0, 0, none⟩), .string s] W fun e w' => e = .returned (.bool true) ∧ ∃ rv' mv' ls', ls'.length = ls.length + 4 ∧ (∀ q ∈ ls', q ∈ ls ∨ q.2.1 ≤ 7) ∧ StoreAt w' g0 (next + 1) rv' mv' ls' ∧ Below g0 W w' := by
  have h1 := moorReplay_any s W hs
  have h2 := fun w => refReplay_any s w hs
  have ht4 : (tabTo (rowsO (numsOf s)) 4).length ≤ 4 := tabTo_length _ _
  generalize tabTo (rowsO (numsOf s)) 4 = t at h1 h2 ht4
  generalize (rowsO (numsOf s)).length = N at h1 h2
  have H2 : Hid (∀ w, Calls Tryz.prog 103 #[.string s] w fun e w' => ∃ v, e = .returned (.tuple #[v, .int .i64 (25 * (N : Int))]) ∧ w'.ownsRow w.heap.size 58 7 v t.length (cellsOf t) ∧ Below w.heap.size w w') := h2
  have H1 : Hid (Calls Tryz.prog 22 #[.string s] W fun e w' => ∃ v, e = .returned (.tuple #[v, .int .i64 (25 * (N : Int))]) ∧ w'.ownsRow W.heap.size 58 7 v t.length (cellsOf t) ∧ Below W.heap.size W w') := h1
  have HS : Hid (StoreAt W g0 next rv mv ls) := h
  clear h1 h2 h
  go_enter Tryz.func71, Tryz.ntmps71
  go_wp2_with fail
  refine H1.out.mono ?_
  rintro e w1 ⟨v1, rfl, o1, b1⟩
  have O1 := hidL o1
  have B1 := hidL b1
  clear o1 b1
  go_wp2_with (go_at_call 103; refine (H2.out w1).mono ?_; rintro e w2 ⟨v2, rfl, o2, b2⟩; have O2 := hidL o2; have B2 := hidL b2; clear o2 b2; refine stopL ?_)
  refine hidL ?_
  have O12 := hidL (ownsRow_of_below O1.out (B2.out.mono (by have := B1.out.size; omega)))
  go_wp2_with (go_at_call 104; refine (sameRows_any v1 v2 t w2 (holds_of_owns O12.out) (holds_of_owns O2.out)).mono ?_; rintro e w3 ⟨rfl, b3⟩; have B3 := hidL b3; clear b3; refine stopL ?_)
  refine hidL ?_
  have B03 : Hid (Below W.heap.size W w3) := B1.out.trans ((B2.out.mono B1.out.size).trans (B3.out.mono (Nat.le_trans B1.out.size B2.out.size)))
  have S3 : Hid (StoreAt w3 g0 next rv mv ls) := HS.out.of_heap B03.out
  have O3 : Hid (w3.ownsRow W.heap.size 58 7 v1 t.length (cellsOf t)) := ownsRow_of_below O12.out B3.out
  have hown := ownRows_any w3 g0 next rv mv ls S3.out hnx hls v1 t.length t ht4 rfl (ownsRow_base O3.out HS.out.lt) (fun g hg => ⟨fun e => by have := (HS.out.rows.lt g e).2; have := (O3.out.lt g hg).1; omega, fun e => by have := (HS.out.marks.lt g e).2; have := (O3.out.lt g hg).1; omega⟩) (fun q hq g hg e => by
    obtain ⟨p, cap, hv, hlt, _⟩ := HS.out.each q hq
    have := (hlt g hg).2
    have := (O3.out.lt g e).1
    omega)
  have HO := hidL hown
  clear hown
  go_wp2_with (go_at_call 105; refine HO.out.mono ?_; rintro e w4 ⟨rfl, rv', mv', ls', hl, hq, hst, hb⟩; have HL := hidL hl; have HQ := hidL hq; have HT := hidL hst; have HB := hidL hb; clear hl hq hst hb; refine stopL ?_)
  refine hidL ?_
  go_wp2
  go_ret
  exact ⟨by simp, rv', mv', ls', HL.out, HQ.out, HT.out, (B03.out.mono (Nat.le_of_lt HS.out.lt)).trans HB.out⟩

end Go.Proofs.YtbbdgokdfhdpiaaGreatDoor
