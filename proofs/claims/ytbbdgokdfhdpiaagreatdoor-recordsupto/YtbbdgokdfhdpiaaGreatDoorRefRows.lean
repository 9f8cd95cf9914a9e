/-
  The walk of the reference's rows: the rows of the records that a text begins with.
-/
import Derived.Test.YtbbdgokdfhdpiaaGreatDoorRefRec
import Derived.Test.YtbbdgokdfhdpiaaGreatDoorRefRow
import Derived.Test.YtbbdgokdfhdpiaaGreatDoorLawSame
import Derived.Maps.AppendAt
namespace Go.Proofs.YtbbdgokdfhdpiaaGreatDoor
open Go.RowKit

/-- Are these 25 bytes the record of the row that they tell? -/
def recB (M : List Int) : Bool := decide (recS (rowL M) = M)

/-- The rows of the records at the front, so many at most. -/
def rowsN : Nat → List Int → List Rw
  | 0, _ => []
  | f + 1, L => if 25 ≤ L.length ∧ recB (L.take 25) = true then rowL (L.take 25) :: rowsN f (L.drop 25) else []

/-- The rows of the records at a text's front. -/
def rowsO (L : List Int) : List Rw := rowsN L.length L

theorem rowsN_stop (f : Nat) (L : List Int) (h : ¬ (25 ≤ L.length ∧ recB (L.take 25) = true)) : rowsN f L = [] := by
  cases f with
  | zero => rfl
  | succ f => simp only [rowsN]; rw [if_neg h]

theorem rowsN_step (f : Nat) (L : List Int) (h : 25 ≤ L.length ∧ recB (L.take 25) = true) : rowsN (f + 1) L = rowL (L.take 25) :: rowsN f (L.drop 25) := by
  simp only [rowsN]; rw [if_pos h]

theorem recS_byte (r : Rw) : ∀ x ∈ recS r, 0 ≤ x ∧ x < 256 := by
  unfold recS
  split
  · exact recL_byte r
  · simp

/-- The comparison of a record with a part of a text. -/
theorem rec_beq (r : Rw) (s : ByteArray) : ((strOfNums (recS r)).toList == s.toList) = decide (recS r = numsOf s) := by
  rw [ByteArray.toList_eq, ByteArray.toList_eq, Bool.eq_iff_iff, beq_iff_eq, decide_eq_true_eq]
  constructor
  · intro h
    have e : strOfNums (recS r) = s := by
      apply ByteArray.ext
      exact Array.toList_inj.1 h
    rw [← e, numsOf_str (recS_byte r)]
  · intro h
    rw [h]
    simp only [strOfNums, numsOf, List.map_map]
    have e : ((fun n : Int => UInt8.ofNat n.toNat) ∘ fun b : UInt8 => (b.toNat : Int)) = id := by
      funext b
      simp
    rw [e, List.map_id]

theorem info_row : (Tryz.prog.info? 58).map (fun i => (i.zero, i.size, i.bytes)) = some (some (.agg #[.int .i64 0, .int .i64 0, .int .i64 0, .int .i64 0, .int .i64 0, .int .i64 0, .int .i64 0]), 7, 56) := by kernel_rfl

theorem rwL_oneCell (r : Rw) : ∀ x ∈ rwL r, x.oneCell' = true := by
  intro x hx
  simp only [rwL, List.mem_cons, List.not_mem_nil, or_false] at hx
  rcases hx with rfl | rfl | rfl | rfl | rfl | rfl | rfl <;> rfl

theorem cells_of_list (w : World) (xs : List Value) (t : TypeId) : ∀ j u, xs[j]? = some u → (w.alloc (.cells xs.toArray t)).cell? ((⟨w.heap.size, 0, none⟩ : Addr).add j) = some u := by
  intro j u h
  have e : (⟨w.heap.size, 0, none⟩ : Addr).add j = ⟨w.heap.size, j, none⟩ := by unfold Addr.add; split <;> simp_all
  rw [e]
  simpa using h

theorem ownsRow_of_below {w w' : World} {base : Nat} {e : TypeId} {size : Nat} {v : Value} {n : Nat} {xs : List Value} (h : w.ownsRow base e size v n xs) (hb : Below w.heap.size w w') : w'.ownsRow base e size v n xs := by
  have hlt := h.lt
  obtain ⟨h1, h2⟩ := h
  refine ⟨h1, ?_⟩
  rcases h2 with hn | ⟨g, cap, cur, rfl, hg, hc, rest⟩
  · exact Or.inl hn
  · exact Or.inr ⟨g, cap, cur, rfl, hg, by rw [hb.block g (hlt g rfl).2]; exact hc, rest⟩

set_option maxRecDepth 100000 in
set_option maxHeartbeats 2000000 in
theorem refRows_any (s : ByteArray) (w : World) (hs : s.size ≤ 1000000000000) :
    Calls Tryz.prog 143 #[.string s] w fun e w' => ∃ v, e = .returned v ∧ w'.ownsRow w.heap.size 58 7 v (rowsO (numsOf s)).length (cellsOf (rowsO (numsOf s))) ∧ Below w.heap.size w w' := by
  obtain ⟨i0, hi, hz0, hz1, hz2⟩ := info_parts info_row
  have HL : Hid ((numsOf s).length = s.size) := numsOf_length s
  go_enter Tryz.func143, Tryz.ntmps143
  go_wp2
  go_loopw [3, 4] (fun v i wr => ∃ (k p : Nat) (rs : List Rw), p = 25 * k ∧ p ≤ s.size ∧ i = .int .i64 p ∧ rs.length = k ∧ rowsO (numsOf s) = rs ++ rowsN (s.size - k) ((numsOf s).drop p) ∧ wr.ownsRow w.heap.size 58 7 v k (cellsOf rs) ∧ Below w.heap.size w wr) (fun _ i _ => s.size - (intOf i).toNat)
  case atStart => exact ⟨0, 0, [], rfl, by omega, rfl, rfl, by simp only [rowsO, List.nil_append, List.drop_zero, Nat.sub_zero]; rw [HL.out], World.ownsRow_nil _ _ _ _, Below.refl _ _⟩
  case round =>
    obtain ⟨k, p, rs, hpk, hp, rfl, hrl, hro, hown, hB⟩ := hrel
    have HP : Hid (p = 25 * k) := hpk
    have HRL : Hid (rs.length = k) := hrl
    have HRO : Hid (rowsO (numsOf s) = rs ++ rowsN (s.size - k) ((numsOf s).drop p)) := hro
    clear hpk hrl hro
    have hBs := hB.size
    by_cases h25 : p + 25 ≤ s.size
    · have hex := numsOf_extract s p (p + 25)
      rw [show p + 25 - p = 25 by omega] at hex
      have hbq := fun r => rec_beq r (s.extract p (p + 25))
      have hrow := fun W => refRow_any (s.extract p (p + 25)) W (by rw [ByteArray.size_extract]; omega)
      rw [hex] at hrow
      simp only [hex] at hbq
      have hb := hbq (rowL (((numsOf s).drop p).take 25))
      generalize hR : rowL (((numsOf s).drop p).take 25) = R at hrow hb
      have HR : Hid (rowL (((numsOf s).drop p).take 25) = R) := hR
      have hqd : decide (recS R = ((numsOf s).drop p).take 25) = recB (((numsOf s).drop p).take 25) := by rw [recB, hR]
      rw [hqd] at hb
      generalize hq : recB (((numsOf s).drop p).take 25) = q at hb
      have HQ : Hid (recB (((numsOf s).drop p).take 25) = q) := hq
      have hrec := fun W => refRecord_any R W
      clear hex hbq hR hqd hq
      obtain ⟨l, pr, a, o, t, u, sq⟩ := R
      go_wp2_with fail
      refine (hrow wr).mono ?_
      rintro e w1 ⟨rfl, hb1⟩
      have hB1 : Below w.heap.size w w1 := hB.trans (hb1.mono hBs)
      have hown1 := ownsRow_of_below hown hb1
      have hs1 : w.heap.size ≤ w1.heap.size := hB1.size
      clear hrow hb1 hown hB hBs
      go_wp2_with fail
      refine (hrec _).mono ?_
      rintro e w2 ⟨rfl, hb2⟩
      have hown2 := ownsRow_of_below (hown1.alloc (.cells #[.int .i64 l, .int .i64 pr, .int .i64 a, .int .i64 o, .int .i64 t, .int .i64 u, .int .i64 sq] 58)) hb2
      have hB2 : Below w.heap.size w w2 := (hB1.alloc hs1 _).trans (hb2.mono (by simp; omega))
      have hs2 : w.heap.size ≤ w2.heap.size := hB2.size
      have hcs : ∀ j x, ([.int .i64 l, .int .i64 pr, .int .i64 a, .int .i64 o, .int .i64 t, .int .i64 u, .int .i64 sq] : List Value)[j]? = some x → w2.cell? ⟨w1.heap.size, j, none⟩ = some x := by
        intro j x hj
        rw [hb2.cell (p := ⟨w1.heap.size, j, none⟩) (by simp)]
        simpa using hj
      have c0 : w2.cell? ⟨w1.heap.size, 0, none⟩ = some (.int .i64 l) := hcs 0 _ rfl
      have c1 : w2.cell? ⟨w1.heap.size, 1, none⟩ = some (.int .i64 pr) := hcs 1 _ rfl
      have c2 : w2.cell? ⟨w1.heap.size, 2, none⟩ = some (.int .i64 a) := hcs 2 _ rfl
      have c3 : w2.cell? ⟨w1.heap.size, 3, none⟩ = some (.int .i64 o) := hcs 3 _ rfl
      have c4 : w2.cell? ⟨w1.heap.size, 4, none⟩ = some (.int .i64 t) := hcs 4 _ rfl
      have c5 : w2.cell? ⟨w1.heap.size, 5, none⟩ = some (.int .i64 u) := hcs 5 _ rfl
      have c6 : w2.cell? ⟨w1.heap.size, 6, none⟩ = some (.int .i64 sq) := hcs 6 _ rfl
      clear hrec hb2 hown1 hB1 hs1 hcs
      cases q
      · go_wp2
        go_ret
        have hst : rowsN (s.size - k) ((numsOf s).drop p) = [] := rowsN_stop _ _ (by rw [HQ.out]; simp)
        have hro := HRO.out
        rw [hst, List.append_nil] at hro
        exact ⟨_, rfl, by rw [hro, HRL.out]; exact hown2, hB2⟩
      · have hkb : k + 1 ≤ 1000000000000 := by have := HP.out; omega
        go_wp2_with (at_builtin; refine wpList_append_own_at _ rfl _ _ 47 rfl w.heap.size 58 i0 _ 7 56 Tryz.underlying47 hi hz0 hz1 hz2 rfl (by decide) _ _ _ rfl (hown2.alloc _) ⟨w2.heap.size, 0, none⟩ 1 1 (rwL ⟨l, pr, a, o, t, u, sq⟩) rfl rfl ?qa ?qb ?qc ?qd ?qe ?_)
        case qa => exact cells_of_list _ _ _
        case qb => exact rwL_oneCell _
        case qc => unfold maxLen; omega
        case qd => omega
        case qe => simp; omega
        intro v3 w3 hown3 hg3 _ _
        have hB3 : Below w.heap.size w w3 := (hB2.alloc hs2 _).grown hg3 (by simp; omega) (fun j hj => (hown2.lt j hj).1)
        clear hg3 hown2 hB2 hs2 c0 c1 c2 c3 c4 c5 c6
        go_wp2
        go_roundw
        case rel =>
          refine ⟨k + 1, p + 25, rs ++ [⟨l, pr, a, o, t, u, sq⟩], by rw [HP.out]; omega, by omega, by go_num, by simp [HRL.out], ?_, by rw [cellsOf_snoc]; exact hown3, hB3⟩
          have hp25 := HP.out
          have hst := rowsN_step (s.size - (k + 1)) ((numsOf s).drop p) ⟨by rw [List.length_drop, HL.out]; omega, HQ.out⟩
          rw [show s.size - (k + 1) + 1 = s.size - k by omega, HR.out, List.drop_drop] at hst
          rw [HRO.out, hst]
          simp
        case measure => simp [intOf]; omega
    · go_wp2
      go_ret
      have hst : rowsN (s.size - k) ((numsOf s).drop p) = [] := rowsN_stop _ _ (by rw [List.length_drop, HL.out]; omega)
      have hro := HRO.out
      rw [hst, List.append_nil] at hro
      exact ⟨_, rfl, by rw [hro, HRL.out]; exact hown, hB⟩

end Go.Proofs.YtbbdgokdfhdpiaaGreatDoor
