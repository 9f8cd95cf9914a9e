/-
  The walk of a script of which the steps of the kinds 2 and 3 are played.
-/
import Derived.Test.YtbbdgokdfhdpiaaGreatDoorLawStep
import Derived.Test.YtbbdgokdfhdpiaaGreatDoorLawLooks
namespace Go.Proofs.YtbbdgokdfhdpiaaGreatDoor
open Go.RowKit

/-- What a script has left after k steps. -/
def PlayTo (w wr : World) (k : Nat) : Prop :=
  ∃ next rv mv ls, next ≤ k ∧ ls.length ≤ 4 * k ∧ (∀ q ∈ ls, q.2.1 ≤ 7) ∧ StoreAt wr w.heap.size next rv mv ls ∧ Below w.heap.size w wr

theorem PlayTo.step {w wr w' : World} {k next : Nat} {ls : List (Value × Nat × Int)} (hn : next ≤ k) (hl : ls.length ≤ 4 * k) (hq : ∀ q ∈ ls, q.2.1 ≤ 7) (hB : Below w.heap.size w wr) (h : StepTo wr w.heap.size next ls w') : PlayTo w w' (k + 1) := by
  obtain ⟨next', rv', mv', ls', h1, h2, h3, h4, h5⟩ := h
  exact ⟨next', rv', mv', ls', by omega, by omega, fun q hq' => (h3 q hq').elim (hq q) id, h4, hB.trans h5⟩

theorem PlayTo.next {w wr : World} {k : Nat} (h : PlayTo w wr k) : PlayTo w wr (k + 1) := by
  obtain ⟨next, rv, mv, ls, h1, h2, h3⟩ := h
  exact ⟨next, rv, mv, ls, by omega, by omega, h3⟩

theorem playTo_start (w : World) : PlayTo w (w.alloc W0) 0 := by
  refine ⟨0, .slice none 0 0, .slice none 0 0, [], Nat.le_refl _, Nat.le_refl _, (fun q hq => by cases hq), ⟨by simp, ?_, ?_, ?_, (fun g h => by cases h), (fun q hq => by cases hq), (fun q hq => by cases hq)⟩, (Below.refl _ w).alloc (Nat.le_refl _) _⟩
  · rw [heap_alloc_new]; rfl
  · exact World.ownsRow_nil _ _ _ _
  · exact World.ownsRow_nil _ _ _ _

theorem PlayTo.looks {w wr : World} {k : Nat} (h : PlayTo w wr k) (hk : k ≤ 100000000000) :
    Calls Tryz.prog 32 #[.pointer (some ⟨w.heap.size, 0, none⟩)] wr fun e w' => e = .returned (.bool true) ∧ Below w.heap.size w w' := by
  obtain ⟨next, rv, mv, ls, h1, h2, h3, h4, h5⟩ := h
  exact (looks_any wr w.heap.size next rv mv ls h4 (by omega) (fun q hq => by have := h3 q hq; omega)).mono fun e w' ⟨he, hb⟩ => ⟨he, h5.trans (hb.mono h5.size)⟩

theorem PlayTo.two {w wr : World} {k : Nat} (h : PlayTo w wr k) (hk : k ≤ 100000000000) (n : Nat → Int) (s : ByteArray) (hs : s.size ≤ 1000000000000) (h0 : n 0 = 2 ∨ n 0 = 3) :
    Calls Tryz.prog 30 #[.pointer (some ⟨w.heap.size, 0, none⟩), .agg (opL n s).toArray] wr fun e w' => e = .returned (.bool true) ∧ PlayTo w w' (k + 1) := by
  obtain ⟨next, rv, mv, ls, h1, h2, h3, h4, h5⟩ := h
  exact (step_two wr w.heap.size next rv mv ls h4 (by omega) (by omega) n s hs h0).mono fun e w' ⟨he, ht⟩ => ⟨he, PlayTo.step h1 h2 h3 h5 ht⟩

theorem PlayTo.cell {w wr : World} {k : Nat} (h : PlayTo w wr k) : wr.cell? ⟨w.heap.size, 0, none⟩ = some (.slice none 0 0) := by
  obtain ⟨next, rv, mv, ls, h1, h2, h3, h4, h5⟩ := h
  rw [cell_of_row wr w.heap.size 0 _ _ _ h4.cells]; rfl

theorem PlayTo.below {w wr : World} {k : Nat} (h : PlayTo w wr k) : Below w.heap.size w wr := by
  obtain ⟨next, rv, mv, ls, h1, h2, h3, h4, h5⟩ := h
  exact h5

set_option maxRecDepth 100000 in
set_option maxHeartbeats 2000000 in
theorem plays_two (b off len cap : Nat) (n : Nat → Nat → Int) (s : Nat → ByteArray) (w : World) (hb : b < w.heap.size) (hm : len ≤ 100000000000) (hops : OpsAt w ⟨b, off, none⟩ len n s) (hss : ∀ i, i < len → (s i).size ≤ 1000000000000) :
    Calls Tryz.prog 12 #[.slice (some ⟨b, off, none⟩) len cap, .int .i64 2, .int .i64 3] w fun e w' => e = .returned (.bool true) ∧ Below w.heap.size w w' := by
  have HP : Hid (OpsAt w ⟨b, off, none⟩ len n s) := hops
  have HZ : Hid (∀ i, i < len → (s i).size ≤ 1000000000000) := hss
  have P0 : Hid (PlayTo w (w.alloc W0) 0) := playTo_start w
  clear hops hss
  go_enter Tryz.func12, Tryz.ntmps12
  go_wp2
  go_loopw [9] (fun i wr => ∃ k : Nat, k ≤ len ∧ i = .int .i64 k ∧ Hid (PlayTo w wr k)) (fun i _ => len - (intOf i).toNat)
  case atStart => exact ⟨0, Nat.zero_le _, rfl, P0⟩
  case round =>
    clear P0
    obtain ⟨k, hk, rfl, HK⟩ := hrel
    by_cases hlt : k < len
    · obtain ⟨e0, eA⟩ := HP.out.at_ (wr := wr) (fun o => HK.out.below.cell (p := ⟨b, o, none⟩) hb) hlt
      have E : Hid (∀ j v, (opL (n k) (s k))[j]? = some v → wr.cell? ((⟨b, off + k * 21, none⟩ : Addr).add j) = some v) := eA
      have hkl : (k : Int) < (len : Int) := by omega
      clear eA
      by_cases h1 : 2 ≤ n k 0
      · by_cases h2 : n k 0 ≤ 3
        · have H3 : Hid (n k 0 = 2 ∨ n k 0 = 3) := (by omega : n k 0 = 2 ∨ n k 0 = 3)
          have HC := hidL (HK.out.two (by omega) (n k) (s k) (HZ.out k hlt) H3.out)
          clear H3
          go_wp2_with (first
            | (go_at_call 30; refine HC.out.mono ?_; rintro e w1 ⟨rfl, hb1⟩; have HB1 := hidL hb1; clear hb1)
            | (refine wpList_load_at rfl 83 (.tmp 46) rfl ⟨b, off + k * 21, none⟩ rfl (opL (n k) (s k)) _ E.out Tryz.underlying83 rfl (by kernel_rfl) ?_))
          go_roundw
          case rel => exact ⟨k + 1, by omega, by go_num, HB1⟩
          case measure => simp [intOf]; omega
        · go_wp2
          go_roundw
          case rel => exact ⟨k + 1, by omega, by go_num, hidL HK.out.next⟩
          case measure => simp [intOf]; omega
      · go_wp2
        go_roundw
        case rel => exact ⟨k + 1, by omega, by go_num, hidL HK.out.next⟩
        case measure => simp [intOf]; omega
    · have z0 := HK.out.cell
      have HL := hidL (HK.out.looks (by omega))
      have hkl : ¬ (k : Int) < (len : Int) := by omega
      go_wp2_with (first
        | (go_at_call 31; refine (ends_none _ _ z0).mono ?_; rintro e w1 ⟨rfl, rfl⟩)
        | (go_at_call 32; refine HL.out.mono ?_; rintro e w1 ⟨rfl, hb⟩))
      go_ret
      exact ⟨rfl, hb⟩

set_option maxRecDepth 100000 in
set_option maxHeartbeats 2000000 in
theorem plays_two_empty (p : Option Addr) (cap : Nat) (w : World) :
    Calls Tryz.prog 12 #[.slice p 0 cap, .int .i64 2, .int .i64 3] w fun e w' => e = .returned (.bool true) ∧ Below w.heap.size w w' := by
  have P0 : Hid (PlayTo w (w.alloc W0) 0) := playTo_start w
  go_enter Tryz.func12, Tryz.ntmps12
  go_wp2
  go_loopw [9] (fun i wr => i = .int .i64 0 ∧ Hid (PlayTo w wr 0)) (fun _ _ => 0)
  case atStart => exact ⟨rfl, P0⟩
  case round =>
    clear P0
    obtain ⟨rfl, HK⟩ := hrel
    have z0 := HK.out.cell
    have HL := hidL (HK.out.looks (by omega))
    go_wp2_with (first
      | (go_at_call 31; refine (ends_none _ _ z0).mono ?_; rintro e w1 ⟨rfl, rfl⟩)
      | (go_at_call 32; refine HL.out.mono ?_; rintro e w1 ⟨rfl, hb⟩))
    go_ret
    exact ⟨rfl, hb⟩

end Go.Proofs.YtbbdgokdfhdpiaaGreatDoor
