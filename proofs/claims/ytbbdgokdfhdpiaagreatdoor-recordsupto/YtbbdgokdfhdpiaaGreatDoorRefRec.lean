/-
  The walk of the reference's Record: it answers the record's bytes, or nothing.
-/
import Derived.Test.YtbbdgokdfhdpiaaGreatDoorRefLow
import Derived.Lib.QuietBelow
import Derived.BigQuiet
import Derived.Deep.RegionWith
namespace Go.Proofs.YtbbdgokdfhdpiaaGreatDoor
open Go.RowKit Go.Sort

theorem lowL_strsize (v : Int) (k : Nat) : (strOfNums (lowL v k)).size = k := by rw [strOfNums_size, lowL_length]

theorem bodyS (r : Rw) : (⟨#[82]⟩ : ByteArray) ++ strOfNums (lowL r.lock 1) ++ strOfNums (lowL r.prom 4) ++ strOfNums (lowL r.acc 4) ++ strOfNums (lowL r.own 1) ++ strOfNums (lowL r.tok 4) ++ strOfNums (lowL r.ttl 4) ++ strOfNums (lowL r.seq 4) = strOfNums (bodyL r) := by
  have e : (⟨#[82]⟩ : ByteArray) = strOfNums [82] := by rfl
  rw [e]
  simp only [strOfNums_append, bodyL]

set_option maxRecDepth 100000 in
set_option maxHeartbeats 2000000 in
theorem refRecord_no (r : Rw) (w : World) (hno : okB r = false) :
    Calls Tryz.prog 70 #[rwV r] w fun e w' => e = .returned (.string (strOfNums [])) ∧ Below w.heap.size w w' := by
  obtain ⟨l, p, a, o, t, u, q⟩ := r
  have B : ∀ o, Below w.heap.size w (w.alloc o) := fun o => (Below.refl _ _).alloc (Nat.le_refl _) o
  have HN : Hid (okB ⟨l, p, a, o, t, u, q⟩ = false) := hno
  clear hno
  go_enter Tryz.func70, Tryz.ntmps70
  go_wp2_with (first
    | (go_at_call 101; refine (written_any _ _).mono ?_; rintro e w' ⟨rfl, rfl⟩))
  all_goals first
    | (go_ret; exact ⟨rfl, B _⟩)
    | (exfalso; have hno := HN.out; simp_all [okB])

theorem wrB_iff (n : Int) : wrB n = true ↔ 0 ≤ n ∧ n ≤ 2147483647 := by simp [wrB]

set_option maxRecDepth 1000000 in
set_option maxHeartbeats 1000000 in
theorem refRecord_yes (r : Rw) (w : World) (hok : okB r = true) :
    Calls Tryz.prog 70 #[rwV r] w fun e w' => e = .returned (.string (strOfNums (recL r))) ∧ Below w.heap.size w w' := by
  have hbody := bodyS r
  obtain ⟨l, p, a, o, t, u, q⟩ := r
  simp only [okB, Bool.and_eq_true, decide_eq_true_eq] at hok
  obtain ⟨⟨⟨⟨⟨⟨⟨⟨hp, ha⟩, ht⟩, hu⟩, hq⟩, hl0⟩, hl1⟩, ho0⟩, ho1⟩ := hok
  have bp := (wrB_iff p).1 hp
  have ba := (wrB_iff a).1 ha
  have bt := (wrB_iff t).1 ht
  have bu := (wrB_iff u).1 hu
  have bq := (wrB_iff q).1 hq
  have HBd : Hid ((⟨#[82]⟩ : ByteArray) ++ strOfNums (lowL l 1) ++ strOfNums (lowL p 4) ++ strOfNums (lowL a 4) ++ strOfNums (lowL o 1) ++ strOfNums (lowL t 4) ++ strOfNums (lowL u 4) ++ strOfNums (lowL q 4) = strOfNums (bodyL ⟨l, p, a, o, t, u, q⟩)) := hbody
  clear hbody
  generalize hW : w.alloc (.cells #[.int .i64 l, .int .i64 p, .int .i64 a, .int .i64 o, .int .i64 t, .int .i64 u, .int .i64 q] 58) = W
  have c : ∀ j v, (#[Value.int .i64 l, .int .i64 p, .int .i64 a, .int .i64 o, .int .i64 t, .int .i64 u, .int .i64 q] : Array Value)[j]? = some v → W.cell? ⟨w.heap.size, j, none⟩ = some v := by
    intro j v hj
    rw [← hW]
    simpa using hj
  have hBW : Below w.heap.size w W := by rw [← hW]; exact (Below.refl _ _).alloc (Nat.le_refl _) _
  have k0 := cell_regrown (c 0 _ rfl)
  have k1 := cell_regrown (c 1 _ rfl)
  have k2 := cell_regrown (c 2 _ rfl)
  have k3 := cell_regrown (c 3 _ rfl)
  have k4 := cell_regrown (c 4 _ rfl)
  have k5 := cell_regrown (c 5 _ rfl)
  have k6 := cell_regrown (c 6 _ rfl)
  have HW : Hid (w.alloc (.cells #[.int .i64 l, .int .i64 p, .int .i64 a, .int .i64 o, .int .i64 t, .int .i64 u, .int .i64 q] 58) = W) := hW
  have kl : ∀ (v : Int) (k : Nat), 0 ≤ v ∧ v ≤ 2147483647 → k ≤ 4 → ∀ d os, Calls Tryz.prog 102 #[.int .i64 v, .int .i64 k] (grow (redrawn W d) os) fun e w'' => e = .returned (.string (strOfNums (lowL v k))) ∧ ∃ p : Regrown, w'' = grow (redrawn W p.d) p.os :=
    fun v k h1 h2 d os => Calls.regrown_of (low_any v k _ h1.1 h1.2 (by omega))
  have bl : 0 ≤ l ∧ l ≤ 2147483647 := ⟨hl0, by omega⟩
  have bo : 0 ≤ o ∧ o ≤ 2147483647 := ⟨ho0, by omega⟩
  have KL : Hid (∀ d os, Calls Tryz.prog 102 #[.int .i64 l, .int .i64 1] (grow (redrawn W d) os) fun e w'' => e = .returned (.string (strOfNums (lowL l 1))) ∧ ∃ p : Regrown, w'' = grow (redrawn W p.d) p.os) := kl l 1 bl (by omega)
  have KP : Hid (∀ d os, Calls Tryz.prog 102 #[.int .i64 p, .int .i64 4] (grow (redrawn W d) os) fun e w'' => e = .returned (.string (strOfNums (lowL p 4))) ∧ ∃ p : Regrown, w'' = grow (redrawn W p.d) p.os) := kl p 4 bp (by omega)
  have KA : Hid (∀ d os, Calls Tryz.prog 102 #[.int .i64 a, .int .i64 4] (grow (redrawn W d) os) fun e w'' => e = .returned (.string (strOfNums (lowL a 4))) ∧ ∃ p : Regrown, w'' = grow (redrawn W p.d) p.os) := kl a 4 ba (by omega)
  have KO : Hid (∀ d os, Calls Tryz.prog 102 #[.int .i64 o, .int .i64 1] (grow (redrawn W d) os) fun e w'' => e = .returned (.string (strOfNums (lowL o 1))) ∧ ∃ p : Regrown, w'' = grow (redrawn W p.d) p.os) := kl o 1 bo (by omega)
  have KT : Hid (∀ d os, Calls Tryz.prog 102 #[.int .i64 t, .int .i64 4] (grow (redrawn W d) os) fun e w'' => e = .returned (.string (strOfNums (lowL t 4))) ∧ ∃ p : Regrown, w'' = grow (redrawn W p.d) p.os) := kl t 4 bt (by omega)
  have KU : Hid (∀ d os, Calls Tryz.prog 102 #[.int .i64 u, .int .i64 4] (grow (redrawn W d) os) fun e w'' => e = .returned (.string (strOfNums (lowL u 4))) ∧ ∃ p : Regrown, w'' = grow (redrawn W p.d) p.os) := kl u 4 bu (by omega)
  have KQ : Hid (∀ d os, Calls Tryz.prog 102 #[.int .i64 q, .int .i64 4] (grow (redrawn W d) os) fun e w'' => e = .returned (.string (strOfNums (lowL q 4))) ∧ ∃ p : Regrown, w'' = grow (redrawn W p.d) p.os) := kl q 4 bq (by omega)
  have z := lowL_strsize
  clear kl c bl bo bp ba bt bu bq hW
  go_enter Tryz.func70, Tryz.ntmps70
  go_wp2_with (first
    | (go_at_call 101; refine (written_any _ _).mono ?_; rintro e w' ⟨rfl, rfl⟩))
  rw [HW.out]
  refine wp_region_quiet_below (by kernel_rfl) (by kernel_rfl) ?_
  repeat (quiet_step (first | (go_at_call_of 102 (l); exact KL.out _ _) | (go_at_call_of 102 (p); exact KP.out _ _) | (go_at_call_of 102 (a); exact KA.out _ _) | (go_at_call_of 102 (o); exact KO.out _ _) | (go_at_call_of 102 (t); exact KT.out _ _) | (go_at_call_of 102 (u); exact KU.out _ _) | (go_at_call_of 102 (q); exact KQ.out _ _)))
  refine wpQuiet_nil ?_
  intro _ hw'
  obtain ⟨⟨dq, osq⟩, hw''⟩ := hw'
  subst hw''
  have hBx : Below w.heap.size w (grow (redrawn W dq) osq) := hBW.trans ((below_regrown W dq osq).mono hBW.size)
  clear KL KP KA KO KT KU KQ HW hBW k0 k1 k2 k3 k4 k5 k6
  generalize grow (redrawn W dq) osq = Wx at hBx ⊢
  go_wp2
  rw [HBd.out]
  have hs23 : (strOfNums (bodyL ⟨l, p, a, o, t, u, q⟩)).size = 23 := by rw [strOfNums_size, bodyL_length]
  have hn23 := numsOf_str (bodyL_byte ⟨l, p, a, o, t, u, q⟩)
  have hb23 := bodyL_byte ⟨l, p, a, o, t, u, q⟩
  have hl23 := bodyL_length ⟨l, p, a, o, t, u, q⟩
  have hrec : strOfNums (recL ⟨l, p, a, o, t, u, q⟩) = strOfNums (bodyL ⟨l, p, a, o, t, u, q⟩) ++ strOfNums (lowL (sumL (bodyL ⟨l, p, a, o, t, u, q⟩) 0 0) 2) := (strOfNums_append _ _).symm
  have HR : Hid (strOfNums (recL ⟨l, p, a, o, t, u, q⟩) = strOfNums (bodyL ⟨l, p, a, o, t, u, q⟩) ++ strOfNums (lowL (sumL (bodyL ⟨l, p, a, o, t, u, q⟩) 0 0) 2)) := hrec
  clear HBd hrec hl0 hl1 ho0 ho1 hp ha ht hu hq z
  generalize hS : strOfNums (bodyL ⟨l, p, a, o, t, u, q⟩) = S at hs23 hn23 HR ⊢
  generalize hL : bodyL ⟨l, p, a, o, t, u, q⟩ = L at hn23 hb23 hl23 HR hS
  have HN : Hid (numsOf S = L) := hn23
  have HB : Hid (∀ x ∈ L, 0 ≤ x ∧ x < 256) := hb23
  have HLn : Hid (L.length = 23) := hl23
  have hle : S.size ≤ 23 := by omega
  have hge : 23 ≤ S.size := by omega
  clear hS hL hn23 hb23 hl23 hs23
  go_loopw [5, 6] (fun n i wr => ∃ (k : Nat) (m : Int), k ≤ 23 ∧ i = .int .i64 k ∧ n = .int .i64 m ∧ m = sumL (L.take k) 0 0 ∧ 0 ≤ m ∧ m < 65536 ∧ Below w.heap.size w wr) (fun _ i _ => 23 - (intOf i).toNat)
  case atStart => exact ⟨0, 0, by omega, rfl, rfl, by simp [sumL], by omega, by omega, hBx⟩
  case round =>
    obtain ⟨k, m, hk, rfl, rfl, hm, hm0, hm1, hB⟩ := hrel
    have HM : Hid (m = sumL (L.take k) 0 0) := hm
    clear hm
    by_cases hlt : k < S.size
    · have hg := numsOf_get S k hlt
      rw [HN.out] at hg
      have hst := sumL_take (bs := L) (k := k) (by rw [HLn.out]; omega) 0 0
      rw [hg, ← HM.out] at hst
      have hbv : (0 : Int) ≤ (S[k].toNat : Int) ∧ (S[k].toNat : Int) < 256 := ⟨by omega, by have := S[k].toNat_lt; omega⟩
      have HST : Hid (sumL (L.take (k + 1)) 0 0 = (m + ((0 + k : Nat) + 1) * (S[k].toNat : Int)) % 65536) := hst
      have hkk : k < 23 := by omega
      have hmul : ((k : Int) + 1) * (S[k].toNat : Int) ≤ 23 * 256 := by
        apply Int.mul_le_mul <;> omega
      have hmul0 : 0 ≤ ((k : Int) + 1) * (S[k].toNat : Int) := Int.mul_nonneg (by omega) hbv.1
      clear hg hst
      go_wp2
      go_roundw
      case rel =>
        exact ⟨k + 1, _, by omega, by go_num, rfl, by rw [HST.out, Nat.zero_add], Int.emod_nonneg _ (by omega), Int.emod_lt_of_pos _ (by omega), hB⟩
      case measure => simp [intOf]; omega
    · have hk23 : k = 23 := by omega
      have hz := lowL_strsize m 2
      have HMM : Hid (m = sumL L 0 0) := by
        have h := HM.out
        rw [List.take_of_length_le (by rw [HLn.out]; omega)] at h
        exact h
      clear HM hk23
      go_wp2_with (go_at_call 102; refine (low_any m 2 _ hm0 (by omega) (by omega)).mono ?_; rintro e w1 ⟨rfl, hb1⟩)
      go_ret
      exact ⟨by rw [HR.out, ← HMM.out]; rfl, hB.trans (hb1.mono hB.size)⟩

theorem refRecord_any (r : Rw) (w : World) :
    Calls Tryz.prog 70 #[rwV r] w fun e w' => e = .returned (.string (strOfNums (recS r))) ∧ Below w.heap.size w w' := by
  unfold recS
  by_cases h : okB r = true
  · rw [if_pos h]; exact refRecord_yes r w h
  · rw [if_neg h]; exact refRecord_no r w (by simpa using h)

end Go.Proofs.YtbbdgokdfhdpiaaGreatDoor
