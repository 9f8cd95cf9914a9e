/-
  The law's store of lists that came out: what stands in it, and that the code of the program and of the reference leaves it as it is.
-/
import Derived.Test.YtbbdgokdfhdpiaaGreatDoorPrgMoor
import Derived.Test.YtbbdgokdfhdpiaaGreatDoorAppSharp
namespace Go.Proofs.YtbbdgokdfhdpiaaGreatDoor
open Go.RowKit

/-- The row that the law writes into a list. -/
def mkR (x : Int) : Rw := ⟨x, 0, 0, 0, 0, 0, 0⟩

/-- The first k rows of a block are the mark. -/
def MarkedTo (W : World) (g k : Nat) (x : Int) : Prop := ∀ i, i < k → ∀ j u, (rwL (mkR x))[j]? = some u → W.cell? ⟨g, i * 7 + j, none⟩ = some u

/-- A list of so many rows, all of them the mark. -/
def Marked (W : World) (lo : Nat) (v : Value) (k : Nat) (x : Int) : Prop :=
  ∃ p cap, v = .slice p k cap ∧ (∀ g, v.ownBlock = some g → lo ≤ g ∧ g < W.heap.size) ∧ (0 < k → ∃ g, p = some ⟨g, 0, none⟩ ∧ MarkedTo W g k x)

theorem MarkedTo.of_heap {W W' : World} {g k : Nat} {x : Int} (h : MarkedTo W g k x) (hb : W'.heap[g]? = W.heap[g]?) : MarkedTo W' g k x := fun i hi j u hj =>
  (World.cell?_of_block hb).trans (h i hi j u hj)

theorem Marked.of_heap {W W' : World} {lo k : Nat} {v : Value} {x : Int} (h : Marked W lo v k x) (hs : W.heap.size ≤ W'.heap.size) (hb : ∀ g, v.ownBlock = some g → W'.heap[g]? = W.heap[g]?) : Marked W' lo v k x := by
  obtain ⟨p, cap, rfl, hlt, hm⟩ := h
  refine ⟨p, cap, rfl, fun g hg => ⟨(hlt g hg).1, Nat.lt_of_lt_of_le (hlt g hg).2 hs⟩, fun hk => ?_⟩
  obtain ⟨g, rfl, hmt⟩ := hm hk
  exact ⟨g, rfl, hmt.of_heap (hb g rfl)⟩

theorem markedTo_of_owns {W : World} {base g n cap : Nat} {x : Int} (h : W.ownsRow base 58 7 (.slice (some ⟨g, 0, none⟩) n cap) n (cellsOf (List.replicate n (mkR x)))) : MarkedTo W g n x := by
  intro i hi j u hj
  have hj7 : j < 7 := by
    have := (List.getElem?_eq_some_iff.1 hj).1
    simpa using this
  rw [h.cellAt (i * 7 + j) (by omega), cellsOf_get _ i (by simpa using hi) j hj7]
  simpa using hj

theorem marked_of_owns {W : World} {base lo n : Nat} {v : Value} {x : Int} (hlo : lo ≤ base) (h : W.ownsRow base 58 7 v n (cellsOf (List.replicate n (mkR x)))) : Marked W lo v n x := by
  have hlt := h.lt
  rcases h.2 with ⟨rfl, rfl⟩ | ⟨g, cap, cur, rfl, _⟩
  · exact ⟨none, 0, rfl, (fun g hg => by cases hg), fun h => absurd h (by omega)⟩
  · exact ⟨some ⟨g, 0, none⟩, cap, rfl, fun g' hg' => ⟨Nat.le_trans hlo (hlt g' hg').1, (hlt g' hg').2⟩, fun _ => ⟨g, rfl, markedTo_of_owns h⟩⟩

/-- An append of marks onto a list of marks leaves each list of marks as it was that is no longer. -/
theorem Marked.appended {w w' : World} {base lo n m k : Nat} {v v' u : Value} {x : Int} (hu : Marked w lo u k x) (hk : k ≤ n + m)
    (hown : w'.ownsRow base 58 7 v' (n + m) (cellsOf (List.replicate (n + m) (mkR x))))
    (h : Sharp w w' v v') : Marked w' lo u k x := by
  rcases h with ⟨_, hv, hg⟩ | ⟨_, hg⟩
  · obtain ⟨p, cap, rfl, hlt, hm⟩ := hu
    refine ⟨p, cap, rfl, fun g hg' => ⟨(hlt g hg').1, Nat.lt_of_lt_of_le (hlt g hg').2 hg.size⟩, fun hk0 => ?_⟩
    obtain ⟨g, rfl, hmt⟩ := hm hk0
    refine ⟨g, rfl, ?_⟩
    by_cases hc : v.ownBlock = some g
    · obtain ⟨g', cap', rfl, _⟩ : ∃ g' cap', v' = .slice (some ⟨g', 0, none⟩) (n + m) cap' ∧ True := by
        rcases hown.2 with ⟨rfl, h0⟩ | ⟨g', cap', cur, rfl, _⟩
        · rw [hc] at hv; cases hv
        · exact ⟨g', cap', rfl, trivial⟩
      rw [hc] at hv
      have hgg : g' = g := by simpa [Value.ownBlock] using hv
      subst hgg
      have hm' := markedTo_of_owns hown
      exact fun i hi => hm' i (by omega)
    · exact hmt.of_heap (hg.block g (hlt g rfl).2 (fun e => hc e.symm))
  · exact hu.of_heap hg.size (fun g hg' => by
      obtain ⟨p, cap, rfl, hlt, _⟩ := hu
      exact hg.block g (hlt g hg').2 (by simp))

/-- What stands in the law's store: its own cells, the lists, their marks. -/
structure StoreAt (W : World) (g0 : Nat) (next : Nat) (rv mv : Value) (ls : List (Value × Nat × Int)) : Prop where
  lt : g0 < W.heap.size
  cells : W.heap[g0]? = some (.cells #[.slice none 0 0, rv, mv, .slice none 0 0, .slice none 0 0, .slice none 0 0, .slice none 0 0, .int .i64 next] 80 (0, 0))
  rows : W.ownsRow (g0 + 1) 47 1 rv ls.length (ls.map fun q => q.1)
  marks : W.ownsRow (g0 + 1) 3 1 mv ls.length (ls.map fun q => .int .i64 q.2.2)
  apart : ∀ g, rv.ownBlock = some g → mv.ownBlock ≠ some g
  each : ∀ q ∈ ls, Marked W (g0 + 1) q.1 q.2.1 q.2.2
  other : ∀ q ∈ ls, ∀ g, q.1.ownBlock = some g → rv.ownBlock ≠ some g ∧ mv.ownBlock ≠ some g

theorem StoreAt.of_heap {W W' : World} {g0 next : Nat} {rv mv : Value} {ls : List (Value × Nat × Int)} (h : StoreAt W g0 next rv mv ls) (hb : Below W.heap.size W W') : StoreAt W' g0 next rv mv ls :=
  ⟨Nat.lt_of_lt_of_le h.lt hb.size, (hb.block g0 h.lt).trans h.cells, ownsRow_of_below h.rows hb, ownsRow_of_below h.marks hb, h.apart,
    fun q hq => (h.each q hq).of_heap hb.size (fun g hg => by
      obtain ⟨p, cap, hv, hlt, _⟩ := h.each q hq
      exact hb.block g (hlt g hg).2), h.other⟩

end Go.Proofs.YtbbdgokdfhdpiaaGreatDoor
