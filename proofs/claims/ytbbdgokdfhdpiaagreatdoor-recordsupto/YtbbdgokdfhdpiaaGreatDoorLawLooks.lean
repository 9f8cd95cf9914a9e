/-
  The walk of the law's last look at the lists that came out.
-/
import Derived.Test.YtbbdgokdfhdpiaaGreatDoorLawFin
import Derived.LoopTactic
import Derived.RegionTactic
import Derived.BigQuiet
import Derived.Deep.QuietTactic
namespace Go.Proofs.YtbbdgokdfhdpiaaGreatDoor
open Go.RowKit

theorem slice_form {w : World} {base : Nat} {e : TypeId} {size : Nat} {v : Value} {n : Nat} {xs : List Value} (h : w.ownsRow base e size v n xs) : ∃ p cap, v = .slice p n cap ∧ (0 < n → ∃ g, p = some ⟨g, 0, none⟩) := by
  rcases h.2 with ⟨rfl, rfl⟩ | ⟨g, cap, cur, rfl, _⟩
  · exact ⟨none, 0, rfl, fun h => absurd h (by omega)⟩
  · exact ⟨some ⟨g, 0, none⟩, cap, rfl, fun _ => ⟨g, rfl⟩⟩

set_option maxRecDepth 100000 in
set_option maxHeartbeats 4000000 in
theorem looks_any (W : World) (g0 next : Nat) (rv mv : Value) (ls : List (Value × Nat × Int)) (h : StoreAt W g0 next rv mv ls) (hls : ls.length ≤ 1000000000000) (hk : ∀ q ∈ ls, q.2.1 ≤ 1000000000000) :
    Calls Tryz.prog 32 #[.pointer (some ⟨g0, 0, none⟩)] W fun e w' => e = .returned (.bool true) ∧ Below W.heap.size W w' := by
  have c1 : W.cell? ⟨g0, 1, none⟩ = some rv := by rw [cell_of_row W g0 1 _ _ _ h.cells]; rfl
  have c2 : W.cell? ⟨g0, 2, none⟩ = some mv := by rw [cell_of_row W g0 2 _ _ _ h.cells]; rfl
  have c3 : W.cell? ⟨g0, 3, none⟩ = some (.slice none 0 0) := by rw [cell_of_row W g0 3 _ _ _ h.cells]; rfl
  have c5 : W.cell? ⟨g0, 5, none⟩ = some (.slice none 0 0) := by rw [cell_of_row W g0 5 _ _ _ h.cells]; rfl
  obtain ⟨pr, cr, rfl, hpr⟩ := slice_form h.rows
  obtain ⟨pm, cm, rfl, hpm⟩ := slice_form h.marks
  have HR : Hid (W.ownsRow (g0 + 1) 47 1 (.slice pr ls.length cr) ls.length (ls.map fun q => q.1)) := h.rows
  have HM : Hid (W.ownsRow (g0 + 1) 3 1 (.slice pm ls.length cm) ls.length (ls.map fun q => .int .i64 q.2.2)) := h.marks
  have HE : Hid (∀ q ∈ ls, Marked W (g0 + 1) q.1 q.2.1 q.2.2) := h.each
  have HK : Hid (∀ q ∈ ls, q.2.1 ≤ 1000000000000) := hk
  clear h hk
  generalize hN : ls.length = N at HR HM hls hpr hpm c1 c2 ⊢
  have HN : Hid (ls.length = N) := hN
  clear hN
  go_enter Tryz.func32, Tryz.ntmps32
  go_wp2
  go_loopw [3] (fun i wr => ∃ (k n : Nat), k ≤ N ∧ i = .int .i64 k ∧ wr = W.drewN n) (fun i _ => N - (intOf i).toNat)
  case atStart => exact ⟨0, 0, by omega, rfl, rfl⟩
  case round =>
    obtain ⟨k, n, hk, rfl, rfl⟩ := hrel
    by_cases hlt : k < N
    · obtain ⟨gr, rfl⟩ := hpr (by omega)
      obtain ⟨gm, rfl⟩ := hpm (by omega)
      have hl : k < ls.length := by rw [HN.out]; exact hlt
      have er := HR.out.cellAt k (by omega)
      have em := HM.out.cellAt k (by omega)
      have e1 := HE.out ls[k] (List.getElem_mem _)
      have e2 := HK.out ls[k] (List.getElem_mem _)
      rw [List.getElem?_map, List.getElem?_eq_getElem hl] at er em
      simp only [Option.map_some] at er em
      generalize ls[k] = q at er em e1 e2
      obtain ⟨u, kk, x⟩ := q
      obtain ⟨p, cap, hu, _, hmt⟩ := e1
      simp only at er em e2 hmt hu
      subst hu
      have ik : (k : Int) < (N : Int) := by omega
      clear hl
      go_wp2_with fail
      go_loopw [4] (fun j wr => ∃ (m n : Nat), m ≤ kk ∧ j = .int .i64 m ∧ wr = W.drewN n) (fun j _ => kk - (intOf j).toNat)
      case atStart => exact ⟨0, n, by omega, rfl, rfl⟩
      case round =>
        obtain ⟨m, n, hm, rfl, rfl⟩ := hrel
        by_cases hlm : m < kk
        · obtain ⟨g, rfl, hg⟩ := hmt (by omega)
          have a := hg m hlm
          have x0 : W.cell? ⟨g, m * 7, none⟩ = some (.int .i64 x) := a 0 _ rfl
          have x1 : W.cell? ⟨g, m * 7 + 1, none⟩ = some (.int .i64 0) := a 1 _ rfl
          have x2 : W.cell? ⟨g, m * 7 + 2, none⟩ = some (.int .i64 0) := a 2 _ rfl
          have x3 : W.cell? ⟨g, m * 7 + 3, none⟩ = some (.int .i64 0) := a 3 _ rfl
          have x4 : W.cell? ⟨g, m * 7 + 4, none⟩ = some (.int .i64 0) := a 4 _ rfl
          have x5 : W.cell? ⟨g, m * 7 + 5, none⟩ = some (.int .i64 0) := a 5 _ rfl
          have x6 : W.cell? ⟨g, m * 7 + 6, none⟩ = some (.int .i64 0) := a 6 _ rfl
          have im : (m : Int) < (kk : Int) := by omega
          clear a hg hmt
          go_wp2_with fail
          go_quiet (fail)
          go_wp2
          go_roundw
          case rel => exact ⟨m + 1, n + nq, by omega, by go_num, rfl⟩
          case measure => simp [intOf]; omega
        · go_wp2
          go_roundw
          case rel => exact ⟨k + 1, n, by omega, by go_num, rfl⟩
          case measure => simp [intOf]; omega
    · go_wp2
      go_loopw [5] (fun i wr => i = .int .i64 0 ∧ wr = W.drewN n) (fun _ _ => 0)
      case atStart => exact ⟨rfl, rfl⟩
      case round =>
        obtain ⟨rfl, rfl⟩ := hrel
        go_wp2
        go_loopw [7] (fun i wr => i = .int .i64 0 ∧ wr = W.drewN n) (fun _ _ => 0)
        case atStart => exact ⟨rfl, rfl⟩
        case round =>
          obtain ⟨rfl, rfl⟩ := hrel
          go_wp2
          go_ret
          exact ⟨rfl, below_drewN (Below.refl _ _) n⟩

end Go.Proofs.YtbbdgokdfhdpiaaGreatDoor
