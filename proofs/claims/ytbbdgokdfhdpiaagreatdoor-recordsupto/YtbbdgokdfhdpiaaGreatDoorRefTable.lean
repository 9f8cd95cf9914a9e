/-
  The walk of the reference's table: of each lock in rising order the row that stands last.
-/
import Derived.Test.YtbbdgokdfhdpiaaGreatDoorRefRows
namespace Go.Proofs.YtbbdgokdfhdpiaaGreatDoor
open Go.RowKit

/-- The last row of a lock. -/
def lastOf (rs : List Rw) (k : Nat) : Option Rw := rs.reverse.find? fun r => decide (r.lock = (k : Int))

/-- The table, up to a lock. -/
def tabTo (rs : List Rw) (k : Nat) : List Rw := (List.range k).filterMap (lastOf rs)

theorem tabTo_succ (rs : List Rw) (k : Nat) : tabTo rs (k + 1) = tabTo rs k ++ (lastOf rs k).toList := by
  simp only [tabTo, List.range_succ, List.filterMap_append, List.filterMap_cons, List.filterMap_nil]
  cases lastOf rs k <;> rfl

theorem lastOf_take {rs : List Rw} {n : Nat} (h : n < rs.length) (k : Nat) : lastOf (rs.take (n + 1)) k = if rs[n].lock = (k : Int) then some rs[n] else lastOf (rs.take n) k := by
  unfold lastOf
  rw [List.take_succ_eq_append_getElem h, List.reverse_append, List.reverse_singleton, List.singleton_append, List.find?_cons]
  by_cases hc : rs[n].lock = (k : Int)
  · simp [hc]
  · simp [hc]

theorem tabTo_length (rs : List Rw) (k : Nat) : (tabTo rs k).length ≤ k := by
  have := List.length_filterMap_le (lastOf rs) (List.range k)
  simpa [tabTo] using this

set_option maxRecDepth 100000 in
set_option maxHeartbeats 2000000 in
theorem table_block (g cap : Nat) (rs : List Rw) (w : World) (hg : g < w.heap.size) (hr : RowsAt w g rs) (hn : rs.length ≤ 1000000000000) :
    Calls Tryz.prog 144 #[.slice (some ⟨g, 0, none⟩) rs.length cap] w fun e w' => ∃ v, e = .returned v ∧ w'.ownsRow w.heap.size 58 7 v (tabTo rs 4).length (cellsOf (tabTo rs 4)) ∧ Below w.heap.size w w' := by
  obtain ⟨i0, hi, hz0, hz1, hz2⟩ := info_parts info_row
  have HR : Hid (∀ W, Below w.heap.size w W → ∀ i (h : i < rs.length), ∀ j v, (rwL rs[i])[j]? = some v → W.cell? ⟨g, i * 7 + j, none⟩ = some v) := by
    intro W hW i h j v hj
    rw [hW.cell (p := ⟨g, i * 7 + j, none⟩) hg]
    exact hr i h j v hj
  clear hr
  generalize hN : rs.length = N at hn ⊢
  have HN : Hid (rs.length = N) := hN
  clear hN
  go_enter Tryz.func144, Tryz.ntmps144
  go_wp2
  go_loopw [3, 4] (fun v i wr => ∃ (k n : Nat), k ≤ 4 ∧ i = .int .i64 k ∧ n = (tabTo rs k).length ∧ wr.ownsRow w.heap.size 58 7 v n (cellsOf (tabTo rs k)) ∧ Below w.heap.size w wr) (fun _ i _ => 4 - (intOf i).toNat)
  case atStart => exact ⟨0, 0, by omega, rfl, rfl, World.ownsRow_nil _ _ _ _, Below.refl _ _⟩
  case round =>
    obtain ⟨k, n, hk, rfl, hnk, hown, hB⟩ := hrel
    have HNK : Hid (n = (tabTo rs k).length) := hnk
    have hn4 : n ≤ 4 := by have := tabTo_length rs k; omega
    clear hnk
    by_cases hlt : k < 4
    · go_wp2
      go_loopw [3, 5] (fun v i wx => ∃ (m : Nat), m ≤ N ∧ i = .int .i64 ((m : Int) - 1) ∧ lastOf rs k = lastOf (rs.take m) k ∧ wx.ownsRow w.heap.size 58 7 v n (cellsOf (tabTo rs k)) ∧ Below w.heap.size w wx) (fun _ i _ => (intOf i + 1).toNat)
      case atStart => exact ⟨N, by omega, by go_num, by rw [List.take_of_length_le (by rw [HN.out]; omega)], hown, hB⟩
      case round =>
        clear hown hB
        obtain ⟨m, hm, rfl, hla, hown, hB⟩ := hrel
        have HLA : Hid (lastOf rs k = lastOf (rs.take m) k) := hla
        clear hla
        by_cases hm0 : 0 < m
        · obtain ⟨x, rfl⟩ : ∃ x, m = x + 1 := ⟨m - 1, by omega⟩
          have hx : x < rs.length := by rw [HN.out]; omega
          have hxN : (x : Int) < (N : Int) := by omega
          have hcs := HR.out _ hB x hx
          have hlt1 := lastOf_take hx k
          generalize rs[x] = R at hcs hlt1
          have HT : Hid (lastOf (rs.take (x + 1)) k = if R.lock = (k : Int) then some R else lastOf (rs.take x) k) := hlt1
          obtain ⟨l, p, a, o, t, u, q⟩ := R
          have c0 : wr.cell? ⟨g, x * 7, none⟩ = some (.int .i64 l) := hcs 0 _ rfl
          have c1 : wr.cell? ⟨g, x * 7 + 1, none⟩ = some (.int .i64 p) := hcs 1 _ rfl
          have c2 : wr.cell? ⟨g, x * 7 + 2, none⟩ = some (.int .i64 a) := hcs 2 _ rfl
          have c3 : wr.cell? ⟨g, x * 7 + 3, none⟩ = some (.int .i64 o) := hcs 3 _ rfl
          have c4 : wr.cell? ⟨g, x * 7 + 4, none⟩ = some (.int .i64 t) := hcs 4 _ rfl
          have c5 : wr.cell? ⟨g, x * 7 + 5, none⟩ = some (.int .i64 u) := hcs 5 _ rfl
          have c6 : wr.cell? ⟨g, x * 7 + 6, none⟩ = some (.int .i64 q) := hcs 6 _ rfl
          have hBs := hB.size
          clear hcs hlt1 hx
          by_cases hlk : l = (k : Int)
          · have hb : (l == (k : Int)) = true := by simp [hlk]
            have HK : Hid (l = (k : Int)) := hlk
            clear hlk
            go_wp2_with (at_builtin; refine wpList_append_own_at _ rfl _ _ 47 rfl w.heap.size 58 i0 _ 7 56 Tryz.underlying47 hi hz0 hz1 hz2 rfl (by decide) _ _ _ rfl (hown.alloc _) ⟨wr.heap.size, 0, none⟩ 1 1 (rwL ⟨l, p, a, o, t, u, q⟩) rfl rfl ?qa ?qb ?qc ?qd ?qe ?_)
            case qb => first | exact rwL_oneCell _ | exact ⟨rfl, rfl, rfl, rfl, rfl, rfl, rfl⟩
            case qc => unfold maxLen; omega
            case qd => omega
            case qe => first | omega | (simp; omega)
            intro v3 w3 hown3 hg3 _ _
            have hB3 : Below w.heap.size w w3 := (hB.alloc hBs _).grown hg3 (by simp; omega) (fun j hj => (hown.lt j hj).1)
            clear hg3 hown hB hBs c0 c1 c2 c3 c4 c5 c6
            go_wp2
            go_roundw
            case rel =>
              have hla : lastOf rs k = some ⟨l, p, a, o, t, u, q⟩ := by rw [HLA.out, HT.out, if_pos HK.out]
              refine ⟨k + 1, n + 1, by omega, by go_num, ?_, ?_, hB3⟩
              · rw [tabTo_succ, hla, HNK.out]; simp
              · rw [tabTo_succ, hla, Option.toList_some, cellsOf_snoc]; exact hown3
            case measure => simp [intOf]; omega
          · have hb : (l == (k : Int)) = false := by simp [hlk]
            have HK : Hid (¬ l = (k : Int)) := hlk
            clear hlk
            go_wp2
            go_roundw
            case rel => exact ⟨x, by omega, by go_num, by rw [HLA.out, HT.out, if_neg HK.out], hown, hB⟩
            case measure => simp [intOf]
        · have HM : Hid (m = 0) := (by omega : m = 0)
          go_wp2
          go_roundw
          case rel =>
            have hla : lastOf rs k = none := by rw [HLA.out, HM.out]; rfl
            refine ⟨k + 1, n, by omega, by go_num, ?_, ?_, hB⟩
            · rw [tabTo_succ, hla, HNK.out]; simp
            · rw [tabTo_succ, hla, Option.toList_none, List.append_nil]; exact hown
          case measure => simp [intOf]; omega
    · have hk4 : Hid (k = 4) := (by omega : k = 4)
      go_wp2
      go_ret
      have h4 := hk4.out
      subst h4
      exact ⟨_, rfl, by rw [← HNK.out]; exact hown, hB⟩

set_option maxRecDepth 100000 in
set_option maxHeartbeats 1000000 in
theorem table_none (p : Option Addr) (cap : Nat) (w : World) :
    Calls Tryz.prog 144 #[.slice p 0 cap] w fun e w' => e = .returned (.slice none 0 0) ∧ Below w.heap.size w w' := by
  go_enter Tryz.func144, Tryz.ntmps144
  go_wp2
  go_loopw [3, 4] (fun v i wr => ∃ (k : Nat), k ≤ 4 ∧ i = .int .i64 k ∧ v = .slice none 0 0 ∧ wr = w) (fun _ i _ => 4 - (intOf i).toNat)
  case atStart => exact ⟨0, by omega, rfl, rfl, rfl⟩
  case round =>
    obtain ⟨k, hk, rfl, rfl, rfl⟩ := hrel
    by_cases hlt : k < 4
    · go_wp2
      go_loop [3, 5] (fun v i => v = .slice none 0 0 ∧ i = .int .i64 (-1)) (fun _ _ => 0)
      case atStart => exact ⟨rfl, rfl⟩
      case round =>
        obtain ⟨rfl, rfl⟩ := hrel
        go_wp2
        go_roundw
        case rel => exact ⟨k + 1, by omega, by go_num, by simp⟩
        case measure => simp [intOf]; omega
    · go_wp2
      go_ret
      exact ⟨rfl, Below.refl _ _⟩

end Go.Proofs.YtbbdgokdfhdpiaaGreatDoor
