/-
  The walks of the reference's small functions on numbers and bytes: written, low, high.
-/
import Derived.Test.YtbbdgokdfhdpiaaGreatDoorProg
import Derived.Test.YtbbdgokdfhdpiaaGreatDoorRecMath
import Derived.WalkKit
import Derived.WalkSpells
import Derived.WalkLawsBesides
import Derived.LoopTactic
import Derived.Deep.Light
namespace Go.Proofs.YtbbdgokdfhdpiaaGreatDoor
open Go.RowKit

set_option maxHeartbeats 400000 in
theorem written_any (n : Int) (w : World) :
    Calls Tryz.prog 101 #[.int .i64 n] w fun e w' => e = .returned (.bool (wrB n)) ∧ w' = w := by
  by_cases h1 : 0 ≤ n <;> by_cases h2 : n ≤ 2147483647 <;>
  · go_enter Tryz.func101, Tryz.ntmps101
    go_wp2
    go_ret
    exact ⟨by simp [wrB, h1, h2], rfl⟩

set_option maxRecDepth 100000 in
set_option maxHeartbeats 400000 in
theorem low_any (v : Int) (size : Nat) (w : World) (h0 : 0 ≤ v) (h1 : v ≤ 2147483647) (hs : size ≤ 8) :
    Calls Tryz.prog 102 #[.int .i64 v, .int .i64 size] w fun e w' => e = .returned (.string (strOfNums (lowL v size))) ∧ Below w.heap.size w w' := by
  go_enter Tryz.func102, Tryz.ntmps102
  go_wp2
  go_loopw [0, 5, 6] (fun x t i wr => ∃ (u : Int) (k : Nat) (done : List Int) (S : ByteArray), 0 ≤ u ∧ u ≤ 2147483647 ∧ k ≤ size ∧ x = .int .i64 u ∧ t = .string S ∧ S = strOfNums done ∧ done.length = k ∧ i = .int .i64 k ∧ lowL v size = done ++ lowL u (size - k) ∧ Below w.heap.size w wr) (fun _ _ i _ => size - (intOf i).toNat)
  case atStart => exact ⟨v, 0, [], _, h0, h1, by omega, rfl, rfl, rfl, rfl, rfl, by simp, Below.refl _ _⟩
  case round =>
    obtain ⟨u, k, done, S, hu0, hu1, hk, rfl, rfl, hS, hdl, rfl, hl, hB⟩ := hrel
    have HS : Hid (S = strOfNums done) := hS
    have hsz : ∀ x, S.size + (strOfNums [x]).size ≤ 9 := fun x => by rw [hS, strOfNums_size, strOfNums_size]; simp; omega
    clear hS
    have HL : Hid (lowL v size = done ++ lowL u (size - k)) := hl
    clear hl
    by_cases hlt : k < size
    · have kc : (convert 218 9 (.slice (some ⟨wr.heap.size, 0, none⟩) 1 1)).run Tryz.prog (wr.alloc (.cells #[.int .u8 (u % 256)] 5)) = .ok (.string (strOfNums [u % 256])) (wr.alloc (.cells #[.int .u8 (u % 256)] 5)) :=
        run_convert_bytes_arg _ 218 5 Tryz.underlying218 Tryz.underlying5 wr.heap.size 0 1 1 [u % 256] rfl (fun i hi => by
          obtain rfl : i = 0 := by omega
          simp) 9 Tryz.underlying9
      have hsu := hsz (u % 256)
      clear hsz
      go_wp2
      go_roundw
      case rel =>
        refine ⟨u / 256, k + 1, done ++ [u % 256], S ++ strOfNums [u % 256], by omega, by omega, by omega, by go_num, rfl, ?_, by simp [hdl], by go_num, ?_, hB.alloc hB.size _⟩
        · rw [HS.out]; exact strOfNums_append _ _
        · rw [HL.out, show size - k = (size - (k + 1)) + 1 by omega]; simp [lowL]
      case measure => simp [intOf]; omega
    · go_wp2
      go_ret
      have : size - k = 0 := by omega
      have hl := HL.out
      rw [this] at hl
      exact ⟨by rw [hl, HS.out]; simp [lowL], hB⟩

/-- The number whose bytes these are, the lowest first. -/
def highL : List Int → Int
  | [] => 0
  | b :: bs => b + 256 * highL bs

theorem highL_range : ∀ (bs : List Int), (∀ x ∈ bs, 0 ≤ x ∧ x < 256) → 0 ≤ highL bs ∧ highL bs < 256 ^ bs.length
  | [], _ => by simp [highL]
  | b :: bs, h => by
    have h1 := highL_range bs (fun x hx => h x (List.mem_cons_of_mem _ hx))
    have h2 := h b (List.mem_cons_self ..)
    simp only [highL, List.length_cons, Int.pow_succ]
    omega

theorem highL_drop {bs : List Int} {k : Nat} (h : k < bs.length) : highL (bs.drop k) = bs.getD k 0 + 256 * highL (bs.drop (k + 1)) := by
  rw [List.drop_eq_getElem_cons h, List.getD_eq_getElem?_getD, List.getElem?_eq_getElem h]
  rfl

/-- The bytes of a text, as numbers. -/
def numsOf (s : ByteArray) : List Int := s.data.toList.map fun b => (b.toNat : Int)
theorem numsOf_length (s : ByteArray) : (numsOf s).length = s.size := by unfold numsOf; rw [List.length_map]; rfl
theorem numsOf_byte (s : ByteArray) : ∀ x ∈ numsOf s, 0 ≤ x ∧ x < 256 := by
  intro x hx
  simp only [numsOf, List.mem_map] at hx
  obtain ⟨b, _, rfl⟩ := hx
  have := b.toNat_lt
  omega
theorem numsOf_get (s : ByteArray) (k : Nat) (h : k < s.size) : (numsOf s).getD k 0 = (s[k].toNat : Int) := by
  have h' : k < s.data.toList.length := h
  rw [numsOf, List.getD_eq_getElem?_getD, List.getElem?_map, List.getElem?_eq_getElem h']
  rfl

theorem numsOf_str {xs : List Int} (hx : ∀ x ∈ xs, 0 ≤ x ∧ x < 256) : numsOf (strOfNums xs) = xs := by
  apply List.ext_getElem (by rw [numsOf_length, strOfNums_size])
  intro k h1 h2
  have e := strOfNums_get xs k h2 hx
  have h3 : k < (strOfNums xs).data.toList.length := by rw [numsOf_length] at h1; exact h1
  rw [List.getD_eq_getElem?_getD, List.getElem?_eq_getElem h3, List.getD_eq_getElem?_getD, List.getElem?_eq_getElem h2] at e
  simp only [numsOf, List.getElem_map]
  exact e

set_option maxRecDepth 100000 in
set_option maxHeartbeats 400000 in
theorem high_any (s : ByteArray) (w : World) (hs : s.size ≤ 4) :
    Calls Tryz.prog 214 #[.string s] w fun e w' => e = .returned (.int .i64 (highL (numsOf s))) ∧ w' = w := by
  have hb := numsOf_byte s
  have hn := numsOf_length s
  have HB : Hid (∀ x ∈ numsOf s, 0 ≤ x ∧ x < 256) := hb
  have HN : Hid ((numsOf s).length = s.size) := hn
  clear hb hn
  go_enter Tryz.func214, Tryz.ntmps214
  go_wp2
  go_loop [3, 4] (fun v i => ∃ (k : Nat) (u : Int), k ≤ s.size ∧ i = .int .i64 ((k : Int) - 1) ∧ v = .int .i64 u ∧ u = highL ((numsOf s).drop k)) (fun _ i => (intOf i + 1).toNat)
  case atStart => exact ⟨s.size, 0, by omega, by go_num, rfl, by rw [List.drop_eq_nil_of_le (by rw [HN.out]; omega)]; rfl⟩
  case round =>
    obtain ⟨k, u, hk, rfl, rfl, hu⟩ := hrel
    have HU : Hid (u = highL ((numsOf s).drop k)) := hu
    clear hu
    have hr := highL_range ((numsOf s).drop k) (fun x hx => HB.out x (List.mem_of_mem_drop hx))
    rw [← HU.out] at hr
    have hlen : ((numsOf s).drop k).length ≤ 4 := by rw [List.length_drop, HN.out]; omega
    have h256 : (256 : Int) ^ ((numsOf s).drop k).length ≤ 256 ^ 4 := by
      have := Nat.pow_le_pow_right (n := 256) (by omega) hlen
      exact_mod_cast this
    have hr0 := hr.1
    have hr1 : u < 4294967296 := by omega
    clear hr hlen h256
    by_cases hlt : 0 < k
    · obtain ⟨j, rfl⟩ : ∃ j, k = j + 1 := ⟨k - 1, by omega⟩
      have hj : j < s.size := by omega
      have hg := numsOf_get s j hj
      have hd := highL_drop (bs := numsOf s) (k := j) (by rw [HN.out]; exact hj)
      have hbv : (0 : Int) ≤ (s[j].toNat : Int) ∧ (s[j].toNat : Int) < 256 := ⟨by omega, by have := s[j].toNat_lt; omega⟩
      rw [hg, ← HU.out] at hd
      have HD : Hid (highL (List.drop j (numsOf s)) = (s[j].toNat : Int) + 256 * u) := hd
      clear hd hg
      have hr2 : (s[j].toNat : Int) + 256 * u < 9223372036854775807 := by omega
      go_wp2
      go_round
      case rel => exact ⟨j, _, by omega, rfl, rfl, by rw [HD.out]; omega⟩
      case measure => simp [intOf]
    · obtain rfl : k = 0 := by omega
      go_wp2
      go_ret
      exact ⟨by rw [HU.out]; simp, rfl⟩

end Go.Proofs.YtbbdgokdfhdpiaaGreatDoor
