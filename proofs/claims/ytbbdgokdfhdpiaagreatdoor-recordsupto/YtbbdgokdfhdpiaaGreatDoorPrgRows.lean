/-
  The walk of the program's Rows: the rows of a table by locks in rising order, as a new list.
-/
import Derived.Test.YtbbdgokdfhdpiaaGreatDoorPrgReplay
import Derived.Test.YtbbdgokdfhdpiaaGreatDoorKeysLay
namespace Go.Proofs.YtbbdgokdfhdpiaaGreatDoor
open Go.RowKit Go.Maps Go.Sort Go.Shelf

theorem sortsA (m : Nat) : AnyZI.SortsIn Tryz.prog Tryz.sortedA_ren Fence.wide m :=
  ⟨fun blk off cap ss W hH hblk hsz => callsIn_wide.2 (AnyM.slices_Sort_int Tryz.sortA blk off cap ss W hH hblk hsz),
   fun p cap W => callsIn_wide.2 (AnyM.slices_Sort_int_none Tryz.sortA p cap W)⟩

/-- maps.Keys: a function value over a new block that holds the map. -/
theorem keys_any (mb : Option Nat) (W : World) :
    Calls Tryz.prog 99 #[.map mb] W fun e w' => e = .returned (.func (.func 139) #[] #[.pointer (some ⟨W.heap.size, 0, none⟩)]) ∧ w' = W.alloc (.cells #[.map mb] 118) :=
  (callsIn_wide (n := 5)).1 (AnyZI.keys_in Tryz.keysA Fence.wide 5 trivial rfl mb W)

set_option maxHeartbeats 1000000 in
/-- slices.Sorted of that: the map's keys, sorted. -/
theorem sorted_any (b nn : Nat) (D0 : DataW Unit) (R : Value → Option (DataW Unit × List MemPlace)) (w : World) (hown : w.ownsMap Tryz.prog 3 R b nn D0) (hmax : Maps.size D0 ≤ 1000000000000) :
    Calls Tryz.prog 98 #[.func (.func 139) #[] #[.pointer (some ⟨w.heap.size, 0, none⟩)]] (w.alloc (.cells #[.map (some b)] 118)) fun e w' => ∃ (v : Value) (ss : List Int), e = .returned v ∧ ss.Perm (intKeys D0) ∧
      w'.ownsRow w.heap.size 3 1 v ss.length ((ss.mergeSort (fun x y => decide (x ≤ y))).map encZ) ∧ Below w.heap.size w w' := by
  have hbl := hown.lt
  have hseq : SeqGives Fence.wide 2 Tryz.prog 139 #[.pointer (some ⟨w.heap.size, 0, none⟩)] encZ (fun ss => ss.Perm (intKeys D0)) (Maps.size D0) (w.alloc (.cells #[.map (some b)] 118)) :=
    AnyZI.keys_gives (ρ := Tryz.keysA_ren) { Tryz.keysA with } Fence.wide _ trivial rfl (by omega) w.heap.size b nn D0 _ (by simp) (by simp) (by
      obtain ⟨es, clock, hb, Ft, hs, hD⟩ := hown
      exact ⟨es, clock, (Below.heap_alloc _ _ b hbl).trans hb, Ft, hs, hD⟩)
  have cS := AnyZI.sorted_in Tryz.sortedA Fence.wide 5 trivial trivial trivial trivial rfl (by omega) (sortsA _) (enters_of Tryz.func138 (by kernel_rfl) rfl) 139 #[.pointer (some ⟨w.heap.size, 0, none⟩)] trivial (enters_of Tryz.func139 (by kernel_rfl) rfl) _ _ (by unfold maxLen; omega) (by omega) _ hseq
  change CallsIn _ _ Tryz.prog 98 _ _ _ at cS
  refine ((callsIn_wide (n := 5)).1 cS).mono ?_
  rintro e w' ⟨v, ss, rfl, hS, hrow, _, hb⟩
  exact ⟨v, ss, rfl, hS, ownsRow_base hrow (by simp), ((Below.refl _ w).alloc (Nat.le_refl _) _).trans (hb.mono (by simp))⟩

theorem isKey (x : Int) : WideAt.IsKeyLit (.int .i64 x) := by simp [WideAt.IsKeyLit]

theorem isMap_tabD (rs : List Rw) : IsMap (tabD rs) := by
  suffices h : ∀ (l : List Rw) (D : DataW Unit), IsMap D → IsMap (l.foldl (fun D r => D.put (.int .i64 r.lock) (rowD r)) D) from h rs _ ⟨[], rfl⟩
  intro l
  induction l with
  | nil => intro D h; exact h
  | cons r l ih =>
    intro D h
    refine ih _ ?_
    obtain ⟨es, rfl⟩ := h
    exact ⟨_, rfl⟩

theorem lastOf_snoc (rs : List Rw) (r : Rw) (k : Nat) : lastOf (rs ++ [r]) k = if r.lock = (k : Int) then some r else lastOf rs k := by
  unfold lastOf
  rw [List.reverse_append, List.reverse_singleton, List.singleton_append, List.find?_cons]
  by_cases hc : r.lock = (k : Int)
  · simp [hc]
  · simp [hc]

/-- What the table has at a lock. -/
theorem tabD_at (z : DataW Unit) (k : Nat) : ∀ n (rs : List Rw), rs.length = n → (tabD rs).atKey (.int .i64 k) z = (match lastOf rs k with | some r => rowD r | none => z)
  | 0, rs, h => by
    obtain rfl := List.length_eq_zero_iff.1 h
    rfl
  | n + 1, rs, h => by
    have hne : rs ≠ [] := fun e => by rw [e] at h; cases h
    obtain ⟨l, r, rfl⟩ : ∃ l r, rs = l ++ [r] := ⟨rs.dropLast, rs.getLast hne, (List.dropLast_concat_getLast hne).symm⟩
    have ih := tabD_at z k n l (by simpa using h)
    rw [tabD_snoc, lastOf_snoc]
    by_cases hc : r.lock = (k : Int)
    · rw [if_pos hc, hc, atKey_put_same (isMap_tabD l) (isKey _)]
    · rw [if_neg hc, atKey_put_other (fun e => hc (by simpa using e.symm)), ih]

/-- Has the table a lock? -/
theorem tabD_has (x : Int) : ∀ n (rs : List Rw), rs.length = n → (has (tabD rs) (.int .i64 x) = true ↔ ∃ r ∈ rs, r.lock = x)
  | 0, rs, h => by
    obtain rfl := List.length_eq_zero_iff.1 h
    simp [tabD, has_eq]
  | n + 1, rs, h => by
    have hne : rs ≠ [] := fun e => by rw [e] at h; cases h
    obtain ⟨l, r, rfl⟩ : ∃ l r, rs = l ++ [r] := ⟨rs.dropLast, rs.getLast hne, (List.dropLast_concat_getLast hne).symm⟩
    have ih := tabD_has x n l (by simpa using h)
    rw [tabD_snoc]
    by_cases hc : r.lock = x
    · rw [hc, has_put_same (isMap_tabD l) (isKey _)]
      simp [hc]
    · rw [has_put_other (fun e => hc (by simpa using e.symm)), ih]
      simp [hc]

theorem lastOf_some (rs : List Rw) (k : Nat) : (lastOf rs k).isSome = true ↔ ∃ r ∈ rs, r.lock = (k : Int) := by
  unfold lastOf
  rw [List.find?_isSome]
  simp

/-- The locks that rows speak of, in rising order. -/
def locks (rs : List Rw) : List Nat := (List.range 4).filter fun k => (lastOf rs k).isSome

theorem tabTo_locks (rs : List Rw) : tabTo rs 4 = (locks rs).map fun k => (lastOf rs k).getD zRw := by
  unfold tabTo locks
  generalize List.range 4 = l
  induction l with
  | nil => rfl
  | cons k l ih =>
    rw [List.filterMap_cons, List.filter_cons]
    cases h : lastOf rs k with
    | none => simp [ih]
    | some r => simp [ih, h]

theorem locks_lt (rs : List Rw) : ((locks rs).map fun k : Nat => (k : Int)).Pairwise (fun a b => a < b) := by
  rw [List.pairwise_map]
  exact ((List.pairwise_lt_range (n := 4)).filter _).imp fun h => by exact_mod_cast h

theorem locks_perm {rs : List Rw} (hl : ∀ r ∈ rs, 0 ≤ r.lock ∧ r.lock ≤ 3) {w : World} {R : Value → Option (DataW Unit × List MemPlace)} {b n : Nat} (hown : w.ownsMap Tryz.prog 3 R b n (tabD rs)) :
    ((locks rs).map fun k : Nat => (k : Int)).Perm (intKeys (tabD rs)) := by
  obtain ⟨es, hD, hpw, _⟩ := hown.entries lawK
  obtain ⟨es', hD', hko⟩ := hown.keysOf
  obtain rfl : es = es' := by rw [hD] at hD'; simpa using hD'
  rw [hD]
  refine perm_intKeys hpw (fun p hp => by obtain ⟨v, hv⟩ := hko p hp; obtain ⟨x, _, hx, _⟩ := Maps.keyOf_i64 Tryz.underlying3 hv; exact ⟨x, hx⟩) ((locks_lt rs).imp fun h e => by omega) (fun x => ?_)
  rw [← hD, tabD_has x _ rs rfl]
  simp only [locks, List.mem_map, List.mem_filter, List.mem_range, lastOf_some]
  constructor
  · rintro ⟨k, ⟨_, r, hr, e⟩, rfl⟩
    exact ⟨r, hr, e⟩
  · rintro ⟨r, hr, rfl⟩
    have := hl r hr
    exact ⟨r.lock.toNat, ⟨by omega, r, hr, by omega⟩, by omega⟩

theorem keys_sorted {rs : List Rw} (hl : ∀ r ∈ rs, 0 ≤ r.lock ∧ r.lock ≤ 3) {w : World} {R : Value → Option (DataW Unit × List MemPlace)} {b n : Nat} (hown : w.ownsMap Tryz.prog 3 R b n (tabD rs)) {ss : List Int} (hp : ss.Perm (intKeys (tabD rs))) :
    ss.mergeSort (fun x y => decide (x ≤ y)) = (locks rs).map fun k : Nat => (k : Int) := by
  refine List.Perm.eq_of_pairwise (le := fun a b => a ≤ b) (fun a b _ _ h1 h2 => Int.le_antisymm h1 h2) ?_ ((locks_lt rs).imp fun h => by omega) (((List.mergeSort_perm ss _).trans hp).trans (locks_perm hl hown).symm)
  have := List.pairwise_mergeSort (le := fun x y : Int => decide (x ≤ y)) (fun a b c h1 h2 => by simp only [decide_eq_true_eq] at *; omega) (fun a b => by simp only [Bool.or_eq_true, decide_eq_true_eq]; omega) ss
  exact this.imp fun h => by simpa using h

theorem size_locks {rs : List Rw} (hl : ∀ r ∈ rs, 0 ≤ r.lock ∧ r.lock ≤ 3) {w : World} {R : Value → Option (DataW Unit × List MemPlace)} {b n : Nat} (hown : w.ownsMap Tryz.prog 3 R b n (tabD rs)) :
    Maps.size (tabD rs) = (locks rs).length := by
  have h := (locks_perm hl hown).length_eq
  obtain ⟨es, hD, _, _⟩ := hown.entries lawK
  rw [List.length_map] at h
  rw [h, hD]
  simp [intKeys, Maps.size]

theorem locks_length (rs : List Rw) : (locks rs).length ≤ 4 := by
  have := List.length_filter_le (fun k => (lastOf rs k).isSome) (List.range 4)
  simpa [locks] using this

theorem locks_get {rs : List Rw} {m : Nat} (h : m < (locks rs).length) : ∃ (k : Nat) (r : Rw), (locks rs)[m] = k ∧ lastOf rs k = some r ∧ k < 4 := by
  have hm : (locks rs)[m] ∈ locks rs := List.getElem_mem h
  generalize (locks rs)[m] = k at hm
  simp only [locks, List.mem_filter, List.mem_range] at hm
  obtain ⟨r, hr⟩ := Option.isSome_iff_exists.1 hm.2
  exact ⟨k, r, rfl, hr, hm.1⟩

theorem rowR_inv {v : Value} {r : Rw} {ps : List MemPlace} (h : rowR v = some (rowD r, ps)) : v = rwV r := by
  unfold rowR at h
  split at h
  · simp only [rowD, Option.some.injEq, Prod.mk.injEq, DataW.agg.injEq, List.cons.injEq, DataW.lit.injEq, Lit.int.injEq, true_and, and_true] at h
    obtain ⟨⟨h1, h2, h3, h4, h5, h6, h7⟩, _⟩ := h
    obtain ⟨l, p, a, o, t, u, q⟩ := r
    subst h1 h2 h3 h4 h5 h6 h7
    rfl
  · cases h

theorem zeroRow (w : World) : (zeroValue 58).run Tryz.prog w = .ok (rwV zRw) w := by kernel_rfl

/-- What the map gives at a lock that it has. -/
theorem lookup_row {rs : List Rw} {w : World} {b n : Nat} (hown : w.ownsMap Tryz.prog 3 rowR b n (tabD rs)) {k : Nat} {r : Rw} (hk : k < 4) (hr : lastOf rs k = some r) :
    (Instr.lookup 118 (.map (some b)) (.int .i64 (k : Int)) false).run Tryz.prog w = .ok (rwV r) w := by
  have hkey : keyOf Tryz.prog 3 (.int .i64 (k : Int)) = some (.int .i64 (k : Int)) := keyOf_int_mk Tryz.underlying3 (WalkArith.wf_i64 (by omega))
  obtain ⟨v, ps, hrun, hv⟩ := hown.lookup lawK Tryz.underlying118 (zeroRow w) (rowR_mk zRw) hkey
  rw [tabD_at (rowD zRw) k _ rs rfl, hr] at hv
  rw [hrun, rowR_inv hv]

theorem tab_length (rs : List Rw) : (tabTo rs 4).length = (locks rs).length := by rw [tabTo_locks, List.length_map]

theorem tab_take {rs : List Rw} {m : Nat} (h : m < (locks rs).length) {r : Rw} (hr : lastOf rs (locks rs)[m] = some r) : (tabTo rs 4).take (m + 1) = (tabTo rs 4).take m ++ [r] := by
  have h' : m < (tabTo rs 4).length := by rw [tab_length]; exact h
  rw [List.take_succ_eq_append_getElem h']
  congr 2
  simp only [tabTo_locks, List.getElem_map, hr, Option.getD_some]

/-- A slice of numbers, on some block: its length, and each cell that the walk asks for. -/
theorem ints_slice {w : World} {base : Nat} {v : Value} {n : Nat} {xs : List Int} (h : w.ownsRow base 3 1 v n (xs.map encZ)) : ∃ (p : Option Addr) (cap : Nat), v = .slice p n cap ∧ (∀ g, v.ownBlock = some g → base ≤ g ∧ g < w.heap.size) ∧ (∀ m (hm : m < xs.length), ∃ g, p = some ⟨g, 0, none⟩ ∧ base ≤ g ∧ g < w.heap.size ∧ w.cell? ⟨g, m, none⟩ = some (.int .i64 xs[m])) := by
  have hlt := h.lt
  have h1 := h.1
  rcases h.2 with ⟨rfl, rfl⟩ | ⟨g, cap, cur, rfl, hb, hg, hn, hc, hcs, ht⟩
  · refine ⟨none, 0, rfl, hlt, fun m hm => ?_⟩
    simp at h1
    rw [h1] at hm
    simp at hm
  · refine ⟨some ⟨g, 0, none⟩, cap, rfl, hlt, fun m hm => ⟨g, rfl, (hlt g rfl).1, (hlt g rfl).2, ?_⟩⟩
    have hm' : m < n * 1 := by simp at h1; omega
    rw [h.cellAt m hm']
    simp [hm, encZ]

set_option maxRecDepth 100000 in
set_option maxHeartbeats 2000000 in
theorem tableRows_any (b nn : Nat) (rs : List Rw) (w : World) (hown : w.ownsMap Tryz.prog 3 rowR b nn (tabD rs)) (hl : ∀ r ∈ rs, 0 ≤ r.lock ∧ r.lock ≤ 3) :
    Calls Tryz.prog 62 #[.map (some b)] w fun e w' => ∃ v, e = .returned v ∧ w'.ownsRow w.heap.size 58 7 v (tabTo rs 4).length (cellsOf (tabTo rs 4)) ∧ Below w.heap.size w w' := by
  obtain ⟨i0, hi, hz0, hz1, hz2⟩ := info_parts info_row
  have hsz := size_locks hl hown
  have hl4 := locks_length rs
  have HT : Hid ((tabTo rs 4).length = (locks rs).length) := tab_length rs
  generalize hN : (locks rs).length = N at hsz hl4
  have HN : Hid ((locks rs).length = N) := hN
  have hbl := hown.lt
  clear hN
  go_enter Tryz.func62, Tryz.ntmps62
  go_wp2_with (first
    | (at_len; refine wpList_len_own _ rfl _ 118 rfl 3 58 Tryz.underlying118 rowR b nn (tabD rs) rfl hown ?_; rw [hsz])
    | (at_make; refine wpList_make_own _ rfl _ _ 47 rfl w.heap.size 58 i0 _ 7 Tryz.underlying47 hi hz0 hz1 _ _ _ N rfl rfl rfl (by rw [hz2]; omega) (by unfold maxLen; omega) (Nat.le_refl _) ?_; intro w1 hr1 hg1))
  have hmap1 : w1.ownsMap Tryz.prog 3 rowR b nn (tabD rs) := ownsMap_of_heap hown (hg1.block b hbl (by simp))
  have hB1 : Below w.heap.size w w1 := (Below.refl w.heap.size w).grown hg1 (Nat.le_refl _) (fun j hj => by cases hj)
  have hlt1 : w.heap.size < w1.heap.size := (hr1.lt _ rfl).2
  refine (keys_any (some b) w1).mono ?_
  rintro e w2 ⟨rfl, rfl⟩
  go_wp2_with fail
  refine (sorted_any b nn (tabD rs) rowR w1 hmap1 (by rw [hsz]; omega)).mono ?_
  rintro e w3 ⟨v3, ss, rfl, hp, hk3, hb3⟩
  rw [keys_sorted hl hmap1 hp] at hk3
  have hsl : ss.length = N := by
    have := hk3.1
    simp at this
    rw [← this]; exact HN.out
  rw [hsl] at hk3
  obtain ⟨p, cap, rfl, hvb, hcell⟩ := ints_slice hk3
  have hB3 : Below w.heap.size w w3 := hB1.trans (hb3.mono (by omega))
  have hown3 : w3.ownsRow w.heap.size 58 7 (.slice (some ⟨w.heap.size, 0, none⟩) 0 N) 0 [] := ownsRow_of_below hr1 hb3
  have hmap3 : w3.ownsMap Tryz.prog 3 rowR b nn (tabD rs) := ownsMap_of_heap hown (hB3.block b hbl)
  clear hb3 hB1 hmap1 hr1 hg1 hp hsl
  have HC : Hid (∀ m (hm : m < (locks rs).length), ∃ g, p = some ⟨g, 0, none⟩ ∧ w1.heap.size ≤ g ∧ g < w3.heap.size ∧ w3.cell? ⟨g, m, none⟩ = some (.int .i64 ((locks rs)[m] : Nat))) := by
    intro m hm
    obtain ⟨g, h1, h2, h3, h4⟩ := hcell m (by simpa using hm)
    exact ⟨g, h1, h2, h3, by simpa using h4⟩
  clear hcell hk3 hvb
  go_wp2
  go_loopw [3, 13] (fun v i wr => ∃ (m : Nat), m ≤ N ∧ i = .int .i64 m ∧ wr.ownsRow w.heap.size 58 7 v m (cellsOf ((tabTo rs 4).take m)) ∧ (v.ownBlock = some w.heap.size ∨ ∀ j, v.ownBlock = some j → w3.heap.size ≤ j) ∧ w3.grownBy wr (some w.heap.size) ∧ Below w.heap.size w wr) (fun _ i _ => N - (intOf i).toNat)
  case atStart => exact ⟨0, by omega, rfl, hown3, Or.inl rfl, World.grownBy.refl _ _, hB3⟩
  case round =>
    obtain ⟨m, hm, rfl, hown4, hvb, hg4, hB4⟩ := hrel
    have hBs := hB4.size
    by_cases hlt : m < N
    · have hm' : m < (locks rs).length := by rw [HN.out]; exact hlt
      obtain ⟨g, rfl, hgb, hgl, hc⟩ := HC.out m hm'
      obtain ⟨k, R, hk, hlr, hk4⟩ := locks_get hm'
      have HTK : Hid ((tabTo rs 4).take (m + 1) = (tabTo rs 4).take m ++ [R]) := tab_take hm' (by rw [hk]; exact hlr)
      rw [hk] at hc
      have hc4 : wr.cell? ⟨g, m, none⟩ = some (.int .i64 (k : Int)) := hg4.cell hc (by simp; omega)
      have hmap4 : wr.ownsMap Tryz.prog 3 rowR b nn (tabD rs) := ownsMap_of_heap hown (hB4.block b hbl)
      have hlook := lookup_row hmap4 hk4 hlr
      obtain ⟨l, pr, a, o, t, u, sq⟩ := R
      have hmi : (m : Int) < (N : Int) := by omega
      clear hc hk hlr hmap4
      go_wp2_with (at_builtin; refine wpList_append_own_at _ rfl _ _ 47 rfl w.heap.size 58 i0 _ 7 56 Tryz.underlying47 hi hz0 hz1 hz2 rfl (by decide) _ _ _ rfl (hown4.alloc _) ⟨wr.heap.size, 0, none⟩ 1 1 (rwL ⟨l, pr, a, o, t, u, sq⟩) rfl rfl ?qa ?qb ?qc ?qd ?qe ?_)
      case qa => exact cells_of_list _ _ _
      case qb => exact rwL_oneCell _
      case qc => unfold maxLen; omega
      case qd => omega
      case qe => simp; omega
      intro v5 w5 hown5 hg5 _ hat5
      have hB5 : Below w.heap.size w w5 := (hB4.alloc hBs _).grown hg5 (by simp; omega) (fun j hj => (hown4.lt j hj).1)
      have hvb5 : v5.ownBlock = some w.heap.size ∨ ∀ j, v5.ownBlock = some j → w3.heap.size ≤ j := by
        rcases hat5 with e | e
        · rw [e]; exact hvb
        · right
          intro j hj
          rw [e] at hj
          have := hg4.size
          simp at hj
          omega
      have hg35 : w3.grownBy w5 (some w.heap.size) := by
        refine (hg4.andThen (World.grownBy_alloc wr _ none) (fun j hj => by cases hj)).andThen hg5 (fun j hj => ?_)
        rcases hvb with e | e
        · right; rw [← hj, e]
        · exact Or.inl (e j hj)
      clear hg5 hg4 hown4 hB4 hat5 hlook hc4
      go_wp2
      go_roundw
      case rel => exact ⟨m + 1, by omega, by go_num, by rw [HTK.out, cellsOf_snoc]; exact hown5, hvb5, hg35, hB5⟩
      case measure => simp [intOf]; omega
    · have hmN : Hid (m = N) := (by omega : m = N)
      have hmi : ¬ (m : Int) < (N : Int) := by omega
      go_wp2
      go_ret
      have e : (tabTo rs 4).take m = tabTo rs 4 := List.take_of_length_le (by rw [HT.out, HN.out, hmN.out]; omega)
      rw [e] at hown4
      exact ⟨_, rfl, by rw [HT.out, HN.out, ← hmN.out]; exact hown4, hB4⟩

end Go.Proofs.YtbbdgokdfhdpiaaGreatDoor
