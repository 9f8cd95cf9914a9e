/-
  The walk of the law's own writing: a list that came out is written full, grown in three ways, and kept.
-/
import Derived.Test.YtbbdgokdfhdpiaaGreatDoorLawFin
import Derived.Test.YtbbdgokdfhdpiaaGreatDoorLex
import Derived.Deep.RegionLaw
import Derived.Deep.AppendLies
namespace Go.Proofs.YtbbdgokdfhdpiaaGreatDoor
open Go.RowKit

theorem cell_at {W : World} {g : Nat} {cur : Array Value} {t : TypeId} (h : W.heap[g]? = some (.cells cur t (0, 0))) (j : Nat) (x : Value) (hj : cur[j]? = some x) : W.cell? ⟨g, j, none⟩ = some x := by
  rw [cell_of_row W g j _ _ _ h]; exact hj

theorem sharp_grown {w w' : World} {v v' : Value} (h : Sharp w w' v v') : w.grownBy w' v.ownBlock := by
  rcases h with ⟨_, _, h⟩ | ⟨_, h⟩
  · exact h
  · exact h.but _

theorem sharp_block {w w' : World} {v v' : Value} (h : Sharp w w' v v') : v'.ownBlock = v.ownBlock ∨ v'.ownBlock = some w.heap.size := by
  rcases h with ⟨_, h, _⟩ | ⟨h, _⟩
  · exact Or.inl h
  · exact Or.inr h

theorem oneCell_app {A B : List Value} (ha : ∀ u ∈ A, u.oneCell' = true) (hb : ∀ u ∈ B, u.oneCell' = true) : ∀ u ∈ A ++ B, u.oneCell' = true := fun u hu => by
  rcases List.mem_append.1 hu with h | h
  · exact ha u h
  · exact hb u h

theorem info_rows : (Tryz.prog.info? 47).map (fun i => (i.zero, i.size, i.bytes)) = some (some (.slice none 0 0), 1, 24) := by kernel_rfl
theorem info_intO : (Tryz.prog.info? 3).map (fun i => (i.zero, i.size, i.bytes)) = some (some (.int .i64 0), 1, 8) := by kernel_rfl

theorem row_slice {w : World} {base : Nat} {v : Value} {n : Nat} {xs : List Value} (h : w.ownsRow base 58 7 v n xs) : ∃ p cap, v = .slice p n cap ∧ (0 < n → ∃ g, p = some ⟨g, 0, none⟩ ∧ base ≤ g ∧ g < w.heap.size) := by
  have hlt := h.lt
  rcases h.2 with ⟨rfl, rfl⟩ | ⟨g, cap, cur, rfl, _⟩
  · exact ⟨none, 0, rfl, fun h => absurd h (by omega)⟩
  · exact ⟨some ⟨g, 0, none⟩, cap, rfl, fun _ => ⟨g, rfl, hlt g rfl⟩⟩

theorem cellsOf_append (A B : List Rw) : cellsOf (A ++ B) = cellsOf A ++ cellsOf B := by simp [cellsOf]

/-- Seven stores into the k-th row's cells. -/
theorem set7_cells (A B : List Rw) (r : Rw) (k : Nat) (hk : A.length = k) (u0 u1 u2 u3 u4 u5 u6 : Int) :
    ((((((((cellsOf (A ++ r :: B)).set (k * 7) (.int .i64 u0)).set (k * 7 + 1) (.int .i64 u1)).set (k * 7 + 2) (.int .i64 u2)).set (k * 7 + 3) (.int .i64 u3)).set (k * 7 + 4) (.int .i64 u4)).set (k * 7 + 5) (.int .i64 u5)).set (k * 7 + 6) (.int .i64 u6)) = cellsOf (A ++ ⟨u0, u1, u2, u3, u4, u5, u6⟩ :: B) := by
  have hl : (cellsOf A).length = k * 7 := by rw [cellsOf_length, hk]
  have hs : ∀ (L : List Value) (j : Nat) (x : Value), (cellsOf A ++ L).set (k * 7 + j) x = cellsOf A ++ L.set j x := fun L j x => by
    rw [List.set_append_right _ _ (by omega), hl, Nat.add_sub_cancel_left]
  have h0 : ∀ (L : List Value) (x : Value), (cellsOf A ++ L).set (k * 7) x = cellsOf A ++ L.set 0 x := fun L x => hs L 0 x
  obtain ⟨a, b, c, d, e, f, g⟩ := r
  rw [cellsOf_append, cellsOf_append, h0, hs, hs, hs, hs, hs, hs]
  simp [cellsOf, rwL]

theorem owned7 {W : World} {base g n cap : Nat} {A B : List Rw} {r : Rw} (h : W.ownsRow base 58 7 (.slice (some ⟨g, 0, none⟩) n cap) n (cellsOf (A ++ r :: B))) {k : Nat} (hk : A.length = k) (u0 u1 u2 u3 u4 u5 u6 : Int) :
    (((((((W.setCell ⟨g, k * 7, none⟩ (.int .i64 u0)).setCell ⟨g, k * 7 + 1, none⟩ (.int .i64 u1)).setCell ⟨g, k * 7 + 2, none⟩ (.int .i64 u2)).setCell ⟨g, k * 7 + 3, none⟩ (.int .i64 u3)).setCell ⟨g, k * 7 + 4, none⟩ (.int .i64 u4)).setCell ⟨g, k * 7 + 5, none⟩ (.int .i64 u5)).setCell ⟨g, k * 7 + 6, none⟩ (.int .i64 u6)).ownsRow base 58 7 (.slice (some ⟨g, 0, none⟩) n cap) n (cellsOf (A ++ ⟨u0, u1, u2, u3, u4, u5, u6⟩ :: B)) := by
  rw [← set7_cells A B r k hk]
  exact ((((((h.stored _ _).1.stored _ _).1.stored _ _).1.stored _ _).1.stored _ _).1.stored _ _).1.stored _ _ |>.1

theorem grown_set (W : World) (g o : Nat) (v : Value) : W.grownBy (W.setCell ⟨g, o, none⟩ v) (some g) :=
  ⟨rfl, rfl, rfl, by simp, fun k _ hk => heap_setCell_other W ⟨g, o, none⟩ k v (fun e => hk (by simp [e]))⟩

theorem chain7_grown (W : World) (g o0 o1 o2 o3 o4 o5 o6 : Nat) (v0 v1 v2 v3 v4 v5 v6 : Value) :
    W.grownBy (((((((W.setCell ⟨g, o0, none⟩ v0).setCell ⟨g, o1, none⟩ v1).setCell ⟨g, o2, none⟩ v2).setCell ⟨g, o3, none⟩ v3).setCell ⟨g, o4, none⟩ v4).setCell ⟨g, o5, none⟩ v5).setCell ⟨g, o6, none⟩ v6) (some g) :=
  ((((((grown_set _ _ _ _).trans (grown_set _ _ _ _)).trans (grown_set _ _ _ _)).trans (grown_set _ _ _ _)).trans (grown_set _ _ _ _)).trans (grown_set _ _ _ _)).trans (grown_set _ _ _ _)

theorem own_len {ls : List (Value × Nat × Int)} {k : Nat} {x : Int} {a b c d : Value} (hk : k ≤ 4) {q : Value × Nat × Int} (h : q ∈ ls ∨ q ∈ [(a, k, x), (b, k + 1, x), (c, k + 2, x), (d, k + 3, x)]) : q ∈ ls ∨ q.2.1 ≤ 7 := by
  rcases h with h | h
  · exact Or.inl h
  · simp only [List.mem_cons, List.not_mem_nil, or_false] at h
    rcases h with rfl | rfl | rfl | rfl <;> exact Or.inr (by simp only; omega)

set_option maxRecDepth 100000 in
set_option maxHeartbeats 4000000 in
theorem ownRows_any (W : World) (g0 next : Nat) (rv mv : Value) (ls : List (Value × Nat × Int)) (h : StoreAt W g0 next rv mv ls) (hnx : next ≤ 1000000000000) (hls : ls.length ≤ 1000000000000)
    (v : Value) (n : Nat) (R : List Rw) (hn : n ≤ 4) (hR : R.length = n) (hv : W.ownsRow (g0 + 1) 58 7 v n (cellsOf R)) (hva : ∀ g, v.ownBlock = some g → rv.ownBlock ≠ some g ∧ mv.ownBlock ≠ some g)
    (hvl : ∀ q ∈ ls, ∀ g, q.1.ownBlock = some g → v.ownBlock ≠ some g) :
    Calls Tryz.prog 105 #[.pointer (some ⟨g0, 0, none⟩), v] W fun e w' => e = .returned (.tuple #[]) ∧ ∃ rv' mv' ls', ls'.length = ls.length + 4 ∧ (∀ q ∈ ls', q ∈ ls ∨ q.2.1 ≤ 7) ∧ StoreAt w' g0 (next + 1) rv' mv' ls' ∧ Below g0 W w' := by
  obtain ⟨i0, hi, hz0, hz1, hz2⟩ := info_parts info_row
  have hlt := h.lt
  have c7 : W.cell? ⟨g0, 7, none⟩ = some (.int .i64 next) := cell_at h.cells 7 _ rfl
  have f7 : W.frozen? ⟨g0, 7, none⟩ = false := frozen_of_row W g0 7 _ _ h.cells
  have HS : Hid (StoreAt W g0 next rv mv ls) := h
  clear h
  obtain ⟨p, cap, rfl, hp⟩ := row_slice hv
  go_enter Tryz.func105, Tryz.ntmps105
  go_wp2
  have hbM : ((W.setCell ⟨g0, 7, none⟩ (.int .i64 (next + 1))).alloc (.cells #[.int .i64 (-((next : Int) + 1)), .int .i64 0, .int .i64 0, .int .i64 0, .int .i64 0, .int .i64 0, .int .i64 0] 58)).heap[W.heap.size]? = some (.cells (rwL (mkR (-((next : Int) + 1)))).toArray 58 (0, 0)) := by
    have := heap_alloc_new (W.setCell ⟨g0, 7, none⟩ (.int .i64 (next + 1))) (.cells #[.int .i64 (-((next : Int) + 1)), .int .i64 0, .int .i64 0, .int .i64 0, .int .i64 0, .int .i64 0, .int .i64 0] 58)
    simpa [rwL, mkR] using this
  have hbS : ((W.setCell ⟨g0, 7, none⟩ (.int .i64 (next + 1))).alloc (.cells #[.int .i64 (-((next : Int) + 1)), .int .i64 0, .int .i64 0, .int .i64 0, .int .i64 0, .int .i64 0, .int .i64 0] 58)).heap[g0]? = some (.cells #[.slice none 0 0, rv, mv, .slice none 0 0, .slice none 0 0, .slice none 0 0, .slice none 0 0, .int .i64 (next + 1)] 80 (0, 0)) := by
    rw [heap_alloc_old _ _ (by simpa using hlt), heap_setCell_same W g0 7 _ _ _ HS.out.cells]
    simp
  have hgM : W.grownBy ((W.setCell ⟨g0, 7, none⟩ (.int .i64 (next + 1))).alloc (.cells #[.int .i64 (-((next : Int) + 1)), .int .i64 0, .int .i64 0, .int .i64 0, .int .i64 0, .int .i64 0, .int .i64 0] 58)) (some g0) := (grown_set _ _ _ _).trans (World.grownBy_alloc _ _ _)
  have hsM : ((W.setCell ⟨g0, 7, none⟩ (.int .i64 (next + 1))).alloc (.cells #[.int .i64 (-((next : Int) + 1)), .int .i64 0, .int .i64 0, .int .i64 0, .int .i64 0, .int .i64 0, .int .i64 0] 58)).heap.size = W.heap.size + 1 := by simp
  have hv1 := hv.kept hgM (Or.inr (fun e => by have := (hv.lt g0 e).1; omega))
  generalize hw1 : (W.setCell ⟨g0, 7, none⟩ (.int .i64 (next + 1))).alloc (.cells #[.int .i64 (-((next : Int) + 1)), .int .i64 0, .int .i64 0, .int .i64 0, .int .i64 0, .int .i64 0, .int .i64 0] 58) = w1 at hbM hbS hgM hsM hv1 ⊢
  clear hw1 c7 f7
  go_loopw [5] (fun i wr => ∃ (k : Nat), k ≤ n ∧ i = .int .i64 k ∧ wr.ownsRow (g0 + 1) 58 7 (.slice p n cap) n (cellsOf (List.replicate k (mkR (-((next : Int) + 1))) ++ R.drop k)) ∧ w1.grownBy wr (Value.slice p n cap).ownBlock) (fun i _ => n - (intOf i).toNat)
  case atStart => exact ⟨0, by omega, rfl, by simpa using hv1, World.grownBy.refl _ _⟩
  case round =>
    obtain ⟨k, hk, rfl, hown, hg1⟩ := hrel
    by_cases hkn : k < n
    · obtain ⟨g, rfl, hgb, hgl⟩ := hp (by omega)
      have hne : some W.heap.size ≠ (Value.slice (some ⟨g, 0, none⟩) n cap).ownBlock := by simp [Value.ownBlock]; omega
      have hbm : wr.heap[W.heap.size]? = some (.cells (rwL (mkR (-((next : Int) + 1)))).toArray 58 (0, 0)) := (hg1.block _ (by omega) hne).trans hbM
      have c0 : wr.cell? ⟨W.heap.size, 0, none⟩ = some (.int .i64 (-((next : Int) + 1))) := cell_at hbm 0 _ rfl
      have c1 : wr.cell? ⟨W.heap.size, 1, none⟩ = some (.int .i64 0) := cell_at hbm 1 _ rfl
      have c2 : wr.cell? ⟨W.heap.size, 2, none⟩ = some (.int .i64 0) := cell_at hbm 2 _ rfl
      have c3 : wr.cell? ⟨W.heap.size, 3, none⟩ = some (.int .i64 0) := cell_at hbm 3 _ rfl
      have c4 : wr.cell? ⟨W.heap.size, 4, none⟩ = some (.int .i64 0) := cell_at hbm 4 _ rfl
      have c5 : wr.cell? ⟨W.heap.size, 5, none⟩ = some (.int .i64 0) := cell_at hbm 5 _ rfl
      have c6 : wr.cell? ⟨W.heap.size, 6, none⟩ = some (.int .i64 0) := cell_at hbm 6 _ rfl
      have hd : R.drop k = R[k]'(by omega) :: R.drop (k + 1) := List.drop_eq_getElem_cons (by omega)
      rw [hd] at hown
      generalize R[k]'(by omega) = r at hown
      have hcs : ∀ j x, j < 7 → (rwL r)[j]? = some x → wr.cell? ⟨g, k * 7 + j, none⟩ = some x := by
        intro j x hj7 hj
        rw [hown.cellAt (k * 7 + j) (by omega), cellsOf_get _ k (by simp) j hj7]
        simpa using hj
      obtain ⟨l, pr, a, o, t, u, q⟩ := r
      have d0 : wr.cell? ⟨g, k * 7, none⟩ = some (.int .i64 l) := hcs 0 _ (by omega) rfl
      have d1 : wr.cell? ⟨g, k * 7 + 1, none⟩ = some (.int .i64 pr) := hcs 1 _ (by omega) rfl
      have d2 : wr.cell? ⟨g, k * 7 + 2, none⟩ = some (.int .i64 a) := hcs 2 _ (by omega) rfl
      have d3 : wr.cell? ⟨g, k * 7 + 3, none⟩ = some (.int .i64 o) := hcs 3 _ (by omega) rfl
      have d4 : wr.cell? ⟨g, k * 7 + 4, none⟩ = some (.int .i64 t) := hcs 4 _ (by omega) rfl
      have d5 : wr.cell? ⟨g, k * 7 + 5, none⟩ = some (.int .i64 u) := hcs 5 _ (by omega) rfl
      have d6 : wr.cell? ⟨g, k * 7 + 6, none⟩ = some (.int .i64 q) := hcs 6 _ (by omega) rfl
      have f0 := hown.frozenAt (k * 7)
      have f1 := hown.frozenAt (k * 7 + 1)
      have f2 := hown.frozenAt (k * 7 + 2)
      have f3 := hown.frozenAt (k * 7 + 3)
      have f4 := hown.frozenAt (k * 7 + 4)
      have f5 := hown.frozenAt (k * 7 + 5)
      have f6 := hown.frozenAt (k * 7 + 6)
      have hkz : (k : Int) < (n : Int) := by omega
      have HO : Hid (wr.ownsRow (g0 + 1) 58 7 (.slice (some ⟨g, 0, none⟩) n cap) n (cellsOf (List.replicate k (mkR (-((next : Int) + 1))) ++ ⟨l, pr, a, o, t, u, q⟩ :: R.drop (k + 1)))) := hown
      have HG : Hid (w1.grownBy wr (Value.slice (some ⟨g, 0, none⟩) n cap).ownBlock) := hg1
      clear hown hg1 hcs hd hbm
      go_wp2
      go_roundw
      case rel =>
        refine ⟨k + 1, by omega, by go_num, ?_, HG.out.trans (chain7_grown _ _ _ _ _ _ _ _ _ _ _ _ _ _ _ _)⟩
        have := owned7 HO.out (k := k) (by simp) (-((next : Int) + 1)) 0 0 0 0 0 0
        rw [List.replicate_succ', List.append_assoc]
        exact this
      case measure => simp [intOf]; omega
    · have hkn' : k = n := by omega
      subst hkn'
      rw [List.drop_of_length_le (by omega), List.append_nil] at hown
      have hnoM : some W.heap.size ≠ (Value.slice p k cap).ownBlock := by
        intro e
        have := (hv.lt _ e.symm).2
        omega
      have hnoS : some g0 ≠ (Value.slice p k cap).ownBlock := by
        intro e
        have := (hv.lt _ e.symm).1
        omega
      have hkz : ¬ (k : Int) < (k : Int) := by omega
      generalize hx : -((next : Int) + 1) = x at hown hbM ⊢
      have hsw : W.heap.size + 1 ≤ wr.heap.size := by have := hg1.size; omega
      have hbm : wr.heap[W.heap.size]? = some (.cells (rwL (mkR x)).toArray 58 (0, 0)) := (hg1.block _ (by omega) hnoM).trans hbM
      have c0 : wr.cell? ⟨W.heap.size, 0, none⟩ = some (.int .i64 x) := cell_at hbm 0 _ rfl
      have c1 : wr.cell? ⟨W.heap.size, 1, none⟩ = some (.int .i64 0) := cell_at hbm 1 _ rfl
      have c2 : wr.cell? ⟨W.heap.size, 2, none⟩ = some (.int .i64 0) := cell_at hbm 2 _ rfl
      have c3 : wr.cell? ⟨W.heap.size, 3, none⟩ = some (.int .i64 0) := cell_at hbm 3 _ rfl
      have c4 : wr.cell? ⟨W.heap.size, 4, none⟩ = some (.int .i64 0) := cell_at hbm 4 _ rfl
      have c5 : wr.cell? ⟨W.heap.size, 5, none⟩ = some (.int .i64 0) := cell_at hbm 5 _ rfl
      have c6 : wr.cell? ⟨W.heap.size, 6, none⟩ = some (.int .i64 0) := cell_at hbm 6 _ rfl
      have HG1 : Hid (w1.grownBy wr (Value.slice p k cap).ownBlock) := hg1
      have HM1 : Hid (wr.heap[W.heap.size]? = some (.cells (rwL (mkR x)).toArray 58 (0, 0))) := hbm
      have HVL : Hid (∀ g, (Value.slice p k cap).ownBlock = some g → g0 + 1 ≤ g ∧ g < W.heap.size) := fun g hg => hv.lt g hg
      clear hp hv hv1 hg1 hbm
      go_wp2_with (at_builtin; refine wpList_append_sharp _ rfl _ _ 47 rfl (g0 + 1) 58 i0 _ 7 56 Tryz.underlying47 hi hz0 hz1 hz2 rfl (by decide) _ _ _ rfl (hown.alloc _) ⟨wr.heap.size, 0, none⟩ 1 1 (rwL (mkR x)) rfl rfl ?qa ?qb (by decide) ?qc ?qd ?qe ?_)
      case qa => first | exact cells_of_list _ _ _ | exact fun j u h => h
      case qb => first | exact rwL_oneCell _ | exact ⟨rfl, rfl, rfl, rfl, rfl, rfl, rfl⟩ | exact oneCell_app (rwL_oneCell _) (rwL_oneCell _) | exact oneCell_app (oneCell_app (rwL_oneCell _) (rwL_oneCell _)) (rwL_oneCell _)
      case qc => unfold maxLen; omega
      case qd => omega
      case qe => first | omega | (simp; omega)
      intro va wa hownva hownlva horva
      have hgva : wr.grownBy wa (Value.slice p k cap).ownBlock := ((World.grownBy_alloc wr _ none).but _).trans (sharp_grown horva)
      have hsva : W.heap.size + 1 ≤ wa.heap.size := by have := hgva.size; omega
      have hbva : wa.heap[W.heap.size]? = some (.cells (rwL (mkR x)).toArray 58 (0, 0)) := (hgva.block _ (by omega) hnoM).trans HM1.out
      have HGva : Hid (w1.grownBy wa (Value.slice p k cap).ownBlock) := HG1.out.trans hgva
      have HMva : Hid (wa.heap[W.heap.size]? = some (.cells (rwL (mkR x)).toArray 58 (0, 0))) := hbva
      have hma : Marked wa (g0 + 1) va (k + 1) x := marked_of_owns (Nat.le_refl _) (by rw [List.replicate_succ', cellsOf_snoc]; exact hownva)
      have hml : Marked wa (g0 + 1) (.slice p k cap) k x := marked_of_owns (Nat.le_refl _) hownlva
      have hblk_a := sharp_block horva
      clear hown horva hgva hownva c0 c1 c2 c3 c4 c5 c6
      have c0 : wa.cell? ⟨W.heap.size, 0, none⟩ = some (.int .i64 x) := cell_at hbva 0 _ rfl
      have c1 : wa.cell? ⟨W.heap.size, 1, none⟩ = some (.int .i64 0) := cell_at hbva 1 _ rfl
      have c2 : wa.cell? ⟨W.heap.size, 2, none⟩ = some (.int .i64 0) := cell_at hbva 2 _ rfl
      have c3 : wa.cell? ⟨W.heap.size, 3, none⟩ = some (.int .i64 0) := cell_at hbva 3 _ rfl
      have c4 : wa.cell? ⟨W.heap.size, 4, none⟩ = some (.int .i64 0) := cell_at hbva 4 _ rfl
      have c5 : wa.cell? ⟨W.heap.size, 5, none⟩ = some (.int .i64 0) := cell_at hbva 5 _ rfl
      have c6 : wa.cell? ⟨W.heap.size, 6, none⟩ = some (.int .i64 0) := cell_at hbva 6 _ rfl
      clear hbva
      go_wp2_with (at_builtin; refine wpList_append_sharp _ rfl _ _ 47 rfl (g0 + 1) 58 i0 _ 7 56 Tryz.underlying47 hi hz0 hz1 hz2 rfl (by decide) _ _ _ rfl (hownlva.alloc _) ⟨wa.heap.size, 0, none⟩ 2 2 (rwL (mkR x) ++ rwL (mkR x)) rfl rfl ?qa ?qb (by decide) ?qc ?qd ?qe ?_)
      case qa => first | exact cells_of_list _ _ _ | exact fun j u h => h
      case qb => first | exact rwL_oneCell _ | exact ⟨rfl, rfl, rfl, rfl, rfl, rfl, rfl⟩ | exact oneCell_app (rwL_oneCell _) (rwL_oneCell _) | exact oneCell_app (oneCell_app (rwL_oneCell _) (rwL_oneCell _)) (rwL_oneCell _)
      case qc => unfold maxLen; omega
      case qd => omega
      case qe => first | omega | (simp; omega)
      intro vb wb hownvb hownlvb horvb
      have hgvb : wa.grownBy wb (Value.slice p k cap).ownBlock := ((World.grownBy_alloc wa _ none).but _).trans (sharp_grown horvb)
      have hsvb : W.heap.size + 1 ≤ wb.heap.size := by have := hgvb.size; omega
      have hbvb : wb.heap[W.heap.size]? = some (.cells (rwL (mkR x)).toArray 58 (0, 0)) := (hgvb.block _ (by omega) hnoM).trans HMva.out
      have HGvb : Hid (w1.grownBy wb (Value.slice p k cap).ownBlock) := HGva.out.trans hgvb
      have HMvb : Hid (wb.heap[W.heap.size]? = some (.cells (rwL (mkR x)).toArray 58 (0, 0))) := hbvb
      have hownvb' : wb.ownsRow (g0 + 1) 58 7 vb (k + 2) (cellsOf (List.replicate (k + 2) (mkR x))) := by
        rw [List.replicate_succ', List.replicate_succ', cellsOf_snoc, cellsOf_snoc, List.append_assoc]; exact hownvb
      have hmb : Marked wb (g0 + 1) vb (k + 2) x := marked_of_owns (Nat.le_refl _) hownvb'
      have hma2 : Marked wb (g0 + 1) va (k + 1) x := (hma.of_heap (by simp) (fun g hg => by
        obtain ⟨p', cap', rfl, hlt', _⟩ := hma
        exact heap_alloc_old _ _ (hlt' g hg).2)).appended (m := 2) (by omega) hownvb' horvb
      have hblk_b := sharp_block horvb
      have hszb : wa.heap.size ≤ wb.heap.size := hgvb.size
      clear hma hml hownlva horvb hgvb hownvb hownvb' c0 c1 c2 c3 c4 c5 c6
      have c0 : wb.cell? ⟨W.heap.size, 0, none⟩ = some (.int .i64 x) := cell_at hbvb 0 _ rfl
      have c1 : wb.cell? ⟨W.heap.size, 1, none⟩ = some (.int .i64 0) := cell_at hbvb 1 _ rfl
      have c2 : wb.cell? ⟨W.heap.size, 2, none⟩ = some (.int .i64 0) := cell_at hbvb 2 _ rfl
      have c3 : wb.cell? ⟨W.heap.size, 3, none⟩ = some (.int .i64 0) := cell_at hbvb 3 _ rfl
      have c4 : wb.cell? ⟨W.heap.size, 4, none⟩ = some (.int .i64 0) := cell_at hbvb 4 _ rfl
      have c5 : wb.cell? ⟨W.heap.size, 5, none⟩ = some (.int .i64 0) := cell_at hbvb 5 _ rfl
      have c6 : wb.cell? ⟨W.heap.size, 6, none⟩ = some (.int .i64 0) := cell_at hbvb 6 _ rfl
      clear hbvb
      go_wp2_with (at_builtin; refine wpList_append_sharp _ rfl _ _ 47 rfl (g0 + 1) 58 i0 _ 7 56 Tryz.underlying47 hi hz0 hz1 hz2 rfl (by decide) _ _ _ rfl (hownlvb.alloc _) ⟨wb.heap.size, 0, none⟩ 3 3 (rwL (mkR x) ++ rwL (mkR x) ++ rwL (mkR x)) rfl rfl ?qa ?qb (by decide) ?qc ?qd ?qe ?_)
      case qa => first | exact cells_of_list _ _ _ | exact fun j u h => h
      case qb => first | exact rwL_oneCell _ | exact ⟨rfl, rfl, rfl, rfl, rfl, rfl, rfl⟩ | exact oneCell_app (rwL_oneCell _) (rwL_oneCell _) | exact oneCell_app (oneCell_app (rwL_oneCell _) (rwL_oneCell _)) (rwL_oneCell _)
      case qc => unfold maxLen; omega
      case qd => omega
      case qe => first | omega | (simp; omega)
      intro vc wc hownvc hownlvc horvc
      have hgvc : wb.grownBy wc (Value.slice p k cap).ownBlock := ((World.grownBy_alloc wb _ none).but _).trans (sharp_grown horvc)
      have hsvc : W.heap.size + 1 ≤ wc.heap.size := by have := hgvc.size; omega
      have hbvc : wc.heap[W.heap.size]? = some (.cells (rwL (mkR x)).toArray 58 (0, 0)) := (hgvc.block _ (by omega) hnoM).trans HMvb.out
      have HGvc : Hid (w1.grownBy wc (Value.slice p k cap).ownBlock) := HGvb.out.trans hgvc
      have HMvc : Hid (wc.heap[W.heap.size]? = some (.cells (rwL (mkR x)).toArray 58 (0, 0))) := hbvc
      have hownvc' : wc.ownsRow (g0 + 1) 58 7 vc (k + 3) (cellsOf (List.replicate (k + 3) (mkR x))) := by
        have e : cellsOf (List.replicate k (mkR x)) ++ rwL (mkR x) ++ rwL (mkR x) ++ rwL (mkR x) = cellsOf (List.replicate k (mkR x)) ++ (rwL (mkR x) ++ rwL (mkR x) ++ rwL (mkR x)) := by simp only [List.append_assoc]
        rw [List.replicate_succ', List.replicate_succ', List.replicate_succ', cellsOf_snoc, cellsOf_snoc, cellsOf_snoc, e]
        exact hownvc
      have hmc3 : Marked wc (g0 + 1) vc (k + 3) x := marked_of_owns (Nat.le_refl _) hownvc'
      have hma3 : Marked wc (g0 + 1) va (k + 1) x := (hma2.of_heap (by simp) (fun g hg => by
        obtain ⟨p', cap', rfl, hlt', _⟩ := hma2
        exact heap_alloc_old _ _ (hlt' g hg).2)).appended (m := 3) (by omega) hownvc' horvc
      have hmb3 : Marked wc (g0 + 1) vb (k + 2) x := (hmb.of_heap (by simp) (fun g hg => by
        obtain ⟨p', cap', rfl, hlt', _⟩ := hmb
        exact heap_alloc_old _ _ (hlt' g hg).2)).appended (m := 3) (by omega) hownvc' horvc
      have hml3 : Marked wc (g0 + 1) (.slice p k cap) k x := marked_of_owns (Nat.le_refl _) hownlvc
      have hblk_c := sharp_block horvc
      have hszc : wb.heap.size ≤ wc.heap.size := hgvc.size
      clear hma2 hmb hownlvb hownlvc horvc hgvc hownvc hownvc' c0 c1 c2 c3 c4 c5 c6
      have hkeep : ∀ u : Value, (∀ g, (Value.slice p k cap).ownBlock = some g → u.ownBlock ≠ some g) → u.ownBlock = none ∨ u.ownBlock ≠ (Value.slice p k cap).ownBlock := by
        intro u hu
        cases hub : (Value.slice p k cap).ownBlock with
        | none => cases u.ownBlock <;> simp
        | some g => exact Or.inr (hu g hub)
      have hrow1 : w1.ownsRow (g0 + 1) 47 1 rv ls.length (ls.map fun q => q.1) := HS.out.rows.kept hgM (Or.inr (fun e => by have := (HS.out.rows.lt g0 e).1; omega))
      have hmar1 : w1.ownsRow (g0 + 1) 3 1 mv ls.length (ls.map fun q => .int .i64 q.2.2) := HS.out.marks.kept hgM (Or.inr (fun e => by have := (HS.out.marks.lt g0 e).1; omega))
      have hrowc := hrow1.kept HGvc.out (hkeep rv (fun g hg => (hva g hg).1))
      have hmarc := hmar1.kept HGvc.out (hkeep mv (fun g hg => (hva g hg).2))
      have hbSc : wc.heap[g0]? = some (.cells #[.slice none 0 0, rv, mv, .slice none 0 0, .slice none 0 0, .slice none 0 0, .slice none 0 0, .int .i64 (next + 1)] 80 (0, 0)) := (HGvc.out.block g0 (by omega) hnoS).trans hbS
      have hltc : g0 < wc.heap.size := by omega
      have c1 : wc.cell? ⟨g0, 1, none⟩ = some rv := cell_at hbSc 1 _ rfl
      have f1 : wc.frozen? ⟨g0, 1, none⟩ = false := frozen_of_row wc g0 1 _ _ hbSc
      clear hrow1 hmar1
      have hma3' := hma3
      have hmb3' := hmb3
      have hmc3' := hmc3
      obtain ⟨pa, ca, rfl, _, _⟩ := hma3'
      obtain ⟨pb, cb, rfl, _, _⟩ := hmb3'
      obtain ⟨pc, cc, rfl, _, _⟩ := hmc3'
      simp only [World.size_alloc] at hblk_a hblk_b hblk_c
      obtain ⟨i1, ji, jz0, jz1, jz2⟩ := info_parts info_rows
      go_wp2_with (at_builtin; refine wpList_append_own_at _ rfl _ _ 76 rfl (g0 + 1) 47 i1 _ 1 24 Tryz.underlying76 ji jz0 jz1 jz2 rfl (by decide) _ _ _ rfl (hrowc.alloc _) ⟨wc.heap.size, 0, none⟩ 4 4 [.slice p k cap, .slice pa (k + 1) ca, .slice pb (k + 2) cb, .slice pc (k + 3) cc] rfl rfl ?qa ?qb ?qc ?qd ?qe ?_)
      case qa => first | exact cells_of_list _ _ _ | exact fun j u h => h
      case qb => first | exact ⟨rfl, rfl, rfl, rfl⟩ | (intro u hu; simp at hu; rcases hu with rfl | rfl | rfl | rfl <;> rfl)
      case qc => unfold maxLen; omega
      case qd => omega
      case qe => first | omega | (simp; omega)
      intro vr wd hrowd hgd _ hatd
      have hrg : some g0 ≠ rv.ownBlock := fun e => by have := (hrowc.lt g0 e.symm).1; omega
      have hmg : some g0 ≠ mv.ownBlock := fun e => by have := (hmarc.lt g0 e.symm).1; omega
      have hgcd : wc.grownBy wd rv.ownBlock := ((World.grownBy_alloc wc _ none).but _).trans hgd
      have hbSd : wd.heap[g0]? = some (.cells #[.slice none 0 0, rv, mv, .slice none 0 0, .slice none 0 0, .slice none 0 0, .slice none 0 0, .int .i64 (next + 1)] 80 (0, 0)) := (hgcd.block g0 hltc hrg).trans hbSc
      have hsd : wc.heap.size + 1 ≤ wd.heap.size := by have := hgd.size; simpa using this
      have d1 : wd.cell? ⟨g0, 1, none⟩ = some rv := cell_at hbSd 1 _ rfl
      have e1 : wd.frozen? ⟨g0, 1, none⟩ = false := frozen_of_row wd g0 1 _ _ hbSd
      have hatd' : vr.ownBlock = rv.ownBlock ∨ vr.ownBlock = some (wc.heap.size + 1) := by simpa using hatd
      clear hgd hrowc c1 f1 hatd
      obtain ⟨gr, cr, rfl⟩ : ∃ gr cr, vr = .slice (some ⟨gr, 0, none⟩) (ls.length + 4) cr := by
        rcases hrowd.2 with ⟨_, h0⟩ | ⟨g, cap', cur, rfl, _⟩
        · omega
        · exact ⟨g, cap', rfl⟩
      go_wp2
      have hrM : some W.heap.size ≠ rv.ownBlock := fun e => by have := (HS.out.rows.lt _ e.symm).2; omega
      have hrm : mv.ownBlock = none ∨ mv.ownBlock ≠ rv.ownBlock := by
        cases hmv : mv.ownBlock with
        | none => exact Or.inl rfl
        | some g => exact Or.inr (fun e => HS.out.apart g e.symm hmv)
      have hmare := (hmarc.kept hgcd hrm).kept (grown_set wd g0 1 (.slice (some ⟨gr, 0, none⟩) (ls.length + 4) cr)) (Or.inr (fun e => hmg e.symm))
      have hbMe : (wd.setCell ⟨g0, 1, none⟩ (.slice (some ⟨gr, 0, none⟩) (ls.length + 4) cr)).heap[W.heap.size]? = some (.cells (rwL (mkR x)).toArray 58 (0, 0)) := by
        rw [heap_setCell_other _ _ _ _ (show W.heap.size ≠ g0 by omega), hgcd.block _ (by omega) hrM]
        exact hbvc
      have hbSe : (wd.setCell ⟨g0, 1, none⟩ (.slice (some ⟨gr, 0, none⟩) (ls.length + 4) cr)).heap[g0]? = some (.cells #[.slice none 0 0, .slice (some ⟨gr, 0, none⟩) (ls.length + 4) cr, mv, .slice none 0 0, .slice none 0 0, .slice none 0 0, .slice none 0 0, .int .i64 (next + 1)] 80 (0, 0)) := by
        rw [heap_setCell_same wd g0 1 _ _ _ hbSd]
        simp
      have hse : (wd.setCell ⟨g0, 1, none⟩ (.slice (some ⟨gr, 0, none⟩) (ls.length + 4) cr)).heap.size = wd.heap.size := by simp
      have hge := grown_set wd g0 1 (.slice (some ⟨gr, 0, none⟩) (ls.length + 4) cr)
      generalize wd.setCell ⟨g0, 1, none⟩ (.slice (some ⟨gr, 0, none⟩) (ls.length + 4) cr) = we at hmare hbMe hbSe hse hge ⊢
      have c2 : we.cell? ⟨g0, 2, none⟩ = some mv := cell_at hbSe 2 _ rfl
      have f2 : we.frozen? ⟨g0, 2, none⟩ = false := frozen_of_row we g0 2 _ _ hbSe
      have c0 : we.cell? ⟨W.heap.size, 0, none⟩ = some (.int .i64 x) := cell_at hbMe 0 _ rfl
      obtain ⟨i2, ki, kz0, kz1, kz2⟩ := info_parts info_intO
      have HSE : Hid (we.heap.size = wd.heap.size) := hse
      have HSD : Hid (wc.heap.size + 1 ≤ wd.heap.size) := hsd
      have hwe : W.heap.size + 1 ≤ we.heap.size := by omega
      clear hse hsd
      have hbSe2 := hbSe
      refine rlx [0,0,0,0,1,0,1,0,1,0,1,0,1,2] (fun y => y.cell? ⟨g0, 2, none⟩ = some mv ∧ y.cell? ⟨W.heap.size, 0, none⟩ = some (.int .i64 x)) (by kernel_rfl) (fun _ _ _ _ => rfl) ?_ ?_
      · exact ⟨c2, c0⟩
      simp only [pickB, tailB]
      iterate 13 (apply sB rfl rfl; · (intro x h; (try have h := h rfl); (try dsimp only at h); go_simp; with_reducible rfl))
      try simp only [pA]
      refine wpSteps_M rfl (fun C hC => ?_)
      go_simp
      refine hC _ _ ⟨(World.cell?_alloc_lt _ _ _ (by simp; omega)).trans c2, (World.cell?_alloc_lt _ _ _ (by simp; omega)).trans c0⟩ ?_
      clear hC C
      refine wpSteps_nil ?_
      refine wpList_append_own_at _ rfl _ _ 25 rfl (g0 + 1) 3 i2 _ 1 8 Tryz.underlying25 ki kz0 kz1 kz2 rfl (by decide) mv ls.length _ rfl (hmare.alloc _).drew ⟨we.heap.size, 0, none⟩ 4 4 [.int .i64 x, .int .i64 x, .int .i64 x, .int .i64 x] rfl rfl ?qa ?qb ?qc ?qd ?qe ?_
      case qa => first | exact cells_of_list _ _ _ | exact fun j u h => h
      case qb => first | exact ⟨rfl, rfl, rfl, rfl⟩ | (intro u hu; simp at hu; rcases hu with rfl | rfl | rfl | rfl <;> rfl)
      case qc => unfold maxLen; omega
      case qd => omega
      case qe => first | omega | (simp; omega)
      intro vm wf hownf hgf _ hatf
      have hse := HSE.out
      have hsd := HSD.out
      have hgef : we.grownBy wf mv.ownBlock := ((World.grownBy_alloc we _ none).but _).trans ⟨hgf.os, hgf.tape, hgf.output, hgf.size, hgf.block⟩
      have hbSf : wf.heap[g0]? = some (.cells #[.slice none 0 0, .slice (some ⟨gr, 0, none⟩) (ls.length + 4) cr, mv, .slice none 0 0, .slice none 0 0, .slice none 0 0, .slice none 0 0, .int .i64 (next + 1)] 80 (0, 0)) := (hgef.block g0 (by omega) hmg).trans hbSe
      have hatf' : vm.ownBlock = mv.ownBlock ∨ vm.ownBlock = some (we.heap.size + 1) := by simpa using hatf
      have hsf : we.heap.size ≤ wf.heap.size := hgef.size
      clear hgf hatf hmare c0 c2 f2
      have q2 : wf.cell? ⟨g0, 2, none⟩ = some mv := cell_at hbSf 2 _ rfl
      have r2 : wf.frozen? ⟨g0, 2, none⟩ = false := frozen_of_row wf g0 2 _ _ hbSf
      obtain ⟨gm, cm, rfl⟩ : ∃ gm cm, vm = .slice (some ⟨gm, 0, none⟩) (ls.length + 4) cm := by
        rcases hownf.2 with ⟨_, h0⟩ | ⟨g, cap', cur, rfl, _⟩
        · omega
        · exact ⟨g, cap', rfl⟩
      simp only [pA]
      have HF : Hid (StoreAt (wf.setCell ⟨g0, 2, none⟩ (.slice (some ⟨gm, 0, none⟩) (ls.length + 4) cm)) g0 (next + 1) (.slice (some ⟨gr, 0, none⟩) (ls.length + 4) cr) (.slice (some ⟨gm, 0, none⟩) (ls.length + 4) cm) (ls ++ [(.slice p k cap, k, x), (.slice pa (k + 1) ca, k + 1, x), (.slice pb (k + 2) cb, k + 2, x), (.slice pc (k + 3) cc, k + 3, x)])) := by
        have rlt : ∀ g, rv.ownBlock = some g → g < W.heap.size := fun g h => (HS.out.rows.lt g h).2
        have mlt : ∀ g, mv.ownBlock = some g → g < W.heap.size := fun g h => (HS.out.marks.lt g h).2
        have fresh : ∀ (u : Value) (f : Nat), W.heap.size ≤ f → (u.ownBlock = (Value.slice p k cap).ownBlock ∨ u.ownBlock = some f) → ∀ g, u.ownBlock = some g → rv.ownBlock ≠ some g ∧ mv.ownBlock ≠ some g := by
          intro u f hf hu g hg
          rcases hu with h | h
          · exact hva g (h.symm.trans hg)
          · rw [h] at hg
            injection hg with e
            exact ⟨fun e' => by have := rlt g e'; omega, fun e' => by have := mlt g e'; omega⟩
        refine own_fin (W := W) (wc := wc) (wd := wd) (we := we) (v := .slice p k cap) HS.out (fun y h1 h2 h3 => (HGvc.out.block y (by omega) h3).trans (hgM.block y h1 (by simp; omega))) (by omega) hvl ?_ ?_ hgcd (by simpa using hrowd) hatd' hge hgef (by simpa using hownf) hatf' hbSf
        · intro q hq
          simp only [List.mem_cons, List.not_mem_nil, or_false] at hq
          rcases hq with rfl | rfl | rfl | rfl
          · exact hml3
          · exact hma3
          · exact hmb3
          · exact hmc3
        · intro q hq
          simp only [List.mem_cons, List.not_mem_nil, or_false] at hq
          rcases hq with rfl | rfl | rfl | rfl
          · exact fun g hg => hva g hg
          · exact fresh _ (wr.heap.size + 1) (by omega) hblk_a
          · exact fresh _ (wa.heap.size + 1) (by omega) hblk_b
          · exact fresh _ (wb.heap.size + 1) (by omega) hblk_c
      have HB : Hid (Below g0 W (wf.setCell ⟨g0, 2, none⟩ (.slice (some ⟨gm, 0, none⟩) (ls.length + 4) cm))) := by
        refine (below_grown hgM (fun g h => by injection h with e; omega) (by omega)).trans ((below_grown HGvc.out (fun g h => by have := (HVL.out g h).1; omega) (by omega)).trans ((below_grown hgcd (fun g h => by have := (HS.out.rows.lt g h).1; omega) (by omega)).trans ((below_grown hge (fun g h => by injection h with e; omega) (by omega)).trans ((below_grown hgef (fun g h => by have := (HS.out.marks.lt g h).1; omega) (by omega)).trans (below_grown (grown_set wf g0 2 _) (fun g h => by injection h with e; omega) (by omega))))))
      clear hownf hrowd hgef hge hgcd hbSf hbSe hbSe2 hbSd hbSc hbMe hml3 hma3 hmb3 hmc3 hatf' hatd' hblk_a hblk_b hblk_c
      go_wp2
      go_end0
      exact ⟨rfl, _, _, _, by simp, fun q hq => own_len hn (List.mem_append.1 hq), HF.out, HB.out⟩

end Go.Proofs.YtbbdgokdfhdpiaaGreatDoor
