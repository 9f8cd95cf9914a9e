/-
  The walks of one step of the kinds 2 and 3.
-/
import Derived.Test.YtbbdgokdfhdpiaaGreatDoorLawRep
import Derived.Test.YtbbdgokdfhdpiaaGreatDoorChkPlays
import Derived.Test.YtbbdgokdfhdpiaaGreatDoorPrgOf
import Derived.Test.YtbbdgokdfhdpiaaGreatDoorRefRec
namespace Go.Proofs.YtbbdgokdfhdpiaaGreatDoor
open Go.RowKit

set_option maxRecDepth 100000 in
set_option maxHeartbeats 2000000 in
theorem step_record (pv : Option Addr) (at_ : Int) (f c p t d k r : Int) (R : Rw) (s : ByteArray) (x y z u : Int) (w : World) :
    Calls Tryz.prog 30 #[.pointer pv, lopV 2 at_ f c p t d k r R.lock R.prom R.acc R.own R.tok R.ttl R.seq s x y z u] w fun e w' => e = .returned (.bool true) ∧ Below w.heap.size w w' := by
  have h1 := fun w => record_any R w
  have h2 := fun w => refRecord_any R w
  obtain ⟨l, pr, a, o, tk, tt, q⟩ := R
  generalize strOfNums (recS ⟨l, pr, a, o, tk, tt, q⟩) = X at h1 h2
  have H1 : Hid (∀ w, Calls Tryz.prog 69 #[.agg #[.int .i64 l, .int .i64 pr, .int .i64 a, .int .i64 o, .int .i64 tk, .int .i64 tt, .int .i64 q]] w fun e w' => e = .returned (.string X) ∧ Below w.heap.size w w') := h1
  have H2 : Hid (∀ w, Calls Tryz.prog 70 #[.agg #[.int .i64 l, .int .i64 pr, .int .i64 a, .int .i64 o, .int .i64 tk, .int .i64 tt, .int .i64 q]] w fun e w' => e = .returned (.string X) ∧ Below w.heap.size w w') := h2
  clear h1 h2
  go_enter Tryz.func30, Tryz.ntmps30
  go_wp2_with (go_at_call 69; refine (H1.out _).mono ?_; rintro e w1 ⟨rfl, hb1⟩; refine stopL ?_)
  have hB : Below w.heap.size w w1 := ((Below.refl _ w).alloc (Nat.le_refl _) _).trans (hb1.mono (by simp))
  have hc : ∀ j v, (#[Value.int .i64 2, .int .i64 at_, .int .i64 f, .int .i64 c, .int .i64 p, .int .i64 t, .int .i64 d, .int .i64 k, .int .i64 r, .int .i64 l, .int .i64 pr, .int .i64 a, .int .i64 o, .int .i64 tk, .int .i64 tt, .int .i64 q, .string s, .int .i64 x, .int .i64 y, .int .i64 z, .int .i64 u] : Array Value)[j]? = some v → w1.cell? ⟨w.heap.size, j, none⟩ = some v := by
    intro j v hj
    rw [hb1.cell (p := ⟨w.heap.size, j, none⟩) (by simp)]
    simpa using hj
  have c2 : w1.cell? ⟨w.heap.size, 9, none⟩ = some (.int .i64 l) := hc 9 _ rfl
  have c3 : w1.cell? ⟨w.heap.size, 10, none⟩ = some (.int .i64 pr) := hc 10 _ rfl
  have c4 : w1.cell? ⟨w.heap.size, 11, none⟩ = some (.int .i64 a) := hc 11 _ rfl
  have c5 : w1.cell? ⟨w.heap.size, 12, none⟩ = some (.int .i64 o) := hc 12 _ rfl
  have c6 : w1.cell? ⟨w.heap.size, 13, none⟩ = some (.int .i64 tk) := hc 13 _ rfl
  have c7 : w1.cell? ⟨w.heap.size, 14, none⟩ = some (.int .i64 tt) := hc 14 _ rfl
  have c8 : w1.cell? ⟨w.heap.size, 15, none⟩ = some (.int .i64 q) := hc 15 _ rfl
  have hsz : w.heap.size ≤ w1.heap.size := hB.size
  have HB : Hid (Below w.heap.size w w1) := hB
  clear hc hb1 hB
  refine hidL ?_
  go_wp2_with (go_at_call 70; refine (H2.out _).mono ?_; rintro e w2 ⟨rfl, hb2⟩; have HB2 := hidL hb2; clear hb2; refine stopL ?_)
  refine hidL ?_
  go_wp2
  go_ret
  exact ⟨by simp, HB.out.trans (HB2.out.mono hsz)⟩

/-- What a step leaves of the store. -/
def StepTo (W : World) (g0 next : Nat) (ls : List (Value × Nat × Int)) (w' : World) : Prop :=
  ∃ next' rv' mv' ls', next' ≤ next + 1 ∧ ls'.length ≤ ls.length + 4 ∧ (∀ q ∈ ls', q ∈ ls ∨ q.2.1 ≤ 7) ∧ StoreAt w' g0 next' rv' mv' ls' ∧ Below g0 W w'

set_option maxRecDepth 100000 in
set_option maxHeartbeats 2000000 in
theorem step_replay (W : World) (g0 next : Nat) (rv mv : Value) (ls : List (Value × Nat × Int)) (h : StoreAt W g0 next rv mv ls) (hnx : next ≤ 1000000000000) (hls : ls.length ≤ 1000000000000)
    (at_ : Int) (f c p t d k r : Int) (l a b v1 v2 v3 v4 : Int) (s : ByteArray) (hs : s.size ≤ 1000000000000) (x y z u : Int) :
    Calls Tryz.prog 30 #[.pointer (some ⟨g0, 0, none⟩), lopV 3 at_ f c p t d k r l a b v1 v2 v3 v4 s x y z u] W fun e w' => e = .returned (.bool true) ∧ StepTo W g0 next ls w' := by
  have hrep := fun W h => replayed_any W g0 next rv mv ls h hnx hls s hs
  have HR := hidL hrep
  have HS : Hid (StoreAt W g0 next rv mv ls) := h
  have hlt := h.lt
  clear hrep h
  go_enter Tryz.func30, Tryz.ntmps30
  go_wp2_with (go_at_call 71; refine (HR.out _ (HS.out.of_heap ((Below.refl _ _).alloc (Nat.le_refl _) _))).mono ?_; rintro e w1 ⟨rfl, rv', mv', ls', hl, hq, hst, hb⟩; have HL := hidL hl; have HQ := hidL hq; have HT := hidL hst; have HB := hidL hb; clear hl hq hst hb; refine stopL ?_)
  refine hidL ?_
  go_wp2
  go_ret
  exact ⟨rfl, _, rv', mv', ls', Nat.le_refl _, Nat.le_of_eq HL.out, HQ.out, HT.out, (((Below.refl _ W).alloc (Nat.le_refl _) _).mono (Nat.le_of_lt hlt)).trans HB.out⟩

/-- A step of the kinds 2 and 3. -/
theorem step_two (W : World) (g0 next : Nat) (rv mv : Value) (ls : List (Value × Nat × Int)) (h : StoreAt W g0 next rv mv ls) (hnx : next ≤ 1000000000000) (hls : ls.length ≤ 1000000000000)
    (n : Nat → Int) (s : ByteArray) (hs : s.size ≤ 1000000000000) (hk : n 0 = 2 ∨ n 0 = 3) :
    Calls Tryz.prog 30 #[.pointer (some ⟨g0, 0, none⟩), .agg (opL n s).toArray] W fun e w' => e = .returned (.bool true) ∧ StepTo W g0 next ls w' := by
  unfold opL
  rcases hk with h0 | h0 <;> rw [h0]
  · exact (step_record (some ⟨g0, 0, none⟩) _ _ _ _ _ _ _ _ ⟨n 9, n 10, n 11, n 12, n 13, n 14, n 15⟩ s _ _ _ _ W).mono fun e w' ⟨he, hb⟩ =>
      ⟨he, next, rv, mv, ls, by omega, by omega, fun q hq => Or.inl hq, h.of_heap hb, hb.mono (Nat.le_of_lt h.lt)⟩
  · exact step_replay W g0 next rv mv ls h hnx hls _ _ _ _ _ _ _ _ _ _ _ _ _ _ _ s hs _ _ _ _

end Go.Proofs.YtbbdgokdfhdpiaaGreatDoor
