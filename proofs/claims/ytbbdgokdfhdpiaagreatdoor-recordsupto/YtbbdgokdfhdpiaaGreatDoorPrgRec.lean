/-
  The walks of the program's Record: it answers the record's bytes, or nothing.
-/
import Derived.Test.YtbbdgokdfhdpiaaGreatDoorRefLow
import Derived.Test.YtbbdgokdfhdpiaaGreatDoorLoads
namespace Go.Proofs.YtbbdgokdfhdpiaaGreatDoor
open Go.RowKit

def mn (x y : Int) : Int := if y < x then y else x
def mx (x y : Int) : Int := if x < y then y else x
def mn5 (a b c d e : Int) : Int := mn (mn (mn (mn a b) c) d) e
def mx5 (a b c d e : Int) : Int := mx (mx (mx (mx a b) c) d) e
theorem mn_le (z x y : Int) : z ≤ mn x y ↔ z ≤ x ∧ z ≤ y := by unfold mn; split <;> omega
theorem mx_le (z x y : Int) : mx x y ≤ z ↔ x ≤ z ∧ y ≤ z := by unfold mx; split <;> omega
theorem mn5_le (z a b c d e : Int) : z ≤ mn5 a b c d e ↔ z ≤ a ∧ z ≤ b ∧ z ≤ c ∧ z ≤ d ∧ z ≤ e := by simp only [mn5, mn_le, and_assoc]
theorem mx5_le (z a b c d e : Int) : mx5 a b c d e ≤ z ↔ a ≤ z ∧ b ≤ z ∧ c ≤ z ∧ d ≤ z ∧ e ≤ z := by simp only [mx5, mx_le, and_assoc]

theorem run_min5 {P : Program} (ts : Array TypeId) (t : TypeId) (k : IntKind) (a b c d e : Int) (w : World) : (Builtin.min_ ts t #[.int k a, .int k b, .int k c, .int k d, .int k e]).run P w = .ok (.int k (mn5 a b c d e)) w := by
  simp [Builtin.min_, Builtin.min2, mn5, mn]
  rfl
theorem run_max5 {P : Program} (ts : Array TypeId) (t : TypeId) (k : IntKind) (a b c d e : Int) (w : World) : (Builtin.max_ ts t #[.int k a, .int k b, .int k c, .int k d, .int k e]).run P w = .ok (.int k (mx5 a b c d e)) w := by
  simp [Builtin.max_, Builtin.max2, mx5, mx]
  rfl

theorem okB_iff (r : Rw) : okB r = true ↔ (0 ≤ r.lock ∧ r.lock < 4) ∧ (0 ≤ r.own ∧ r.own ≤ 4) ∧ 0 ≤ mn5 r.prom r.acc r.tok r.ttl r.seq ∧ mx5 r.prom r.acc r.tok r.ttl r.seq ≤ 2147483647 := by
  rw [mn5_le, mx5_le]
  simp only [okB, wrB, Bool.and_eq_true, decide_eq_true_eq]
  constructor
  · intro h; omega
  · intro h; omega

theorem ret_bool {a b : Bool} (h : a = b) : Ending.returned (.bool a) = .returned (.bool b) := by rw [h]

set_option maxRecDepth 100000 in
set_option maxHeartbeats 1000000 in
theorem writable_any (r : Rw) (w : World) :
    Calls Tryz.prog 140 #[rwV r] w fun e w' => e = .returned (.bool (okB r)) ∧ Below w.heap.size w w' := by
  have hi := okB_iff r
  obtain ⟨l, p, a, o, t, u, q⟩ := r
  have HI : Hid (okB ⟨l, p, a, o, t, u, q⟩ = true ↔ (0 ≤ l ∧ l < 4) ∧ (0 ≤ o ∧ o ≤ 4) ∧ 0 ≤ mn5 p a t u q ∧ mx5 p a t u q ≤ 2147483647) := hi
  clear hi
  have hmin := fun (ts : Array TypeId) (ty : TypeId) (W : World) => run_min5 (P := Tryz.prog) ts ty .i64 p a t u q W
  have hmax := fun (ts : Array TypeId) (ty : TypeId) (W : World) => run_max5 (P := Tryz.prog) ts ty .i64 p a t u q W
  have B : ∀ x y, Below w.heap.size w ((w.alloc x).alloc y) := fun x y => ((Below.refl _ _).alloc (Nat.le_refl _) x).alloc (by simp) y
  have yes : (0 ≤ l ∧ l < 4) ∧ (0 ≤ o ∧ o ≤ 4) ∧ 0 ≤ mn5 p a t u q ∧ mx5 p a t u q ≤ 2147483647 → okB ⟨l, p, a, o, t, u, q⟩ = true := HI.out.2
  have no : ¬ ((0 ≤ l ∧ l < 4) ∧ (0 ≤ o ∧ o ≤ 4) ∧ 0 ≤ mn5 p a t u q ∧ mx5 p a t u q ≤ 2147483647) → okB ⟨l, p, a, o, t, u, q⟩ = false := fun h => by
    cases hc : okB ⟨l, p, a, o, t, u, q⟩ with
    | false => rfl
    | true => exact absurd (HI.out.1 hc) h
  have YES : Hid ((0 ≤ l ∧ l < 4) ∧ (0 ≤ o ∧ o ≤ 4) ∧ 0 ≤ mn5 p a t u q ∧ mx5 p a t u q ≤ 2147483647 → okB ⟨l, p, a, o, t, u, q⟩ = true) := yes
  have NO : Hid (¬ ((0 ≤ l ∧ l < 4) ∧ (0 ≤ o ∧ o ≤ 4) ∧ 0 ≤ mn5 p a t u q ∧ mx5 p a t u q ≤ 2147483647) → okB ⟨l, p, a, o, t, u, q⟩ = false) := no
  clear yes no HI
  go_enter Tryz.func140, Tryz.ntmps140
  go_wp2
  all_goals
    go_ret
    refine ⟨?_, B _ _⟩
    first
      | (rw [YES.out (by omega)]; try rfl)
      | (rw [NO.out (by omega)]; try rfl)
      | (by_cases hmx : mx5 p a t u q ≤ 2147483647
         · rw [YES.out (by omega)]; exact ret_bool (decide_eq_true hmx)
         · rw [NO.out (by omega)]; exact ret_bool (decide_eq_false hmx))

theorem info_u8 : (Tryz.prog.info? 5).map (fun i => (i.zero, i.size, i.bytes)) = some (some (.int .u8 0), 1, 1) := by kernel_rfl

theorem lowL_four (n : Int) (h0 : 0 ≤ n) (h1 : n ≤ 2147483647) : lowL n 4 = [n % 256, n / 256 % 256, n / 65536 % 256, n / 16777216] := by
  simp only [lowL]
  rw [show n / 256 / 256 = n / 65536 by omega, show n / 65536 / 256 = n / 16777216 by omega, show n / 16777216 % 256 = n / 16777216 by omega]

/-- What a new block of four cells holds. -/
theorem cells_new (w : World) (xs : List Value) (t : TypeId) : ∀ j u, xs[j]? = some u → (w.alloc (.cells xs.toArray t)).cell? ((⟨w.heap.size, 0, none⟩ : Addr).add j) = some u := by
  intro j u h
  have e : (⟨w.heap.size, 0, none⟩ : Addr).add j = ⟨w.heap.size, j, none⟩ := by unfold Addr.add; split <;> simp_all
  rw [e]
  simpa using h

set_option maxRecDepth 100000 in
set_option maxHeartbeats 1000000 in
theorem appendNumber_any (base : Nat) (v : Value) (k : Nat) (xs : List Value) (n : Int) (w : World) (hown : w.ownsRow base 5 1 v k xs) (hk : k ≤ 1000) (h0 : 0 ≤ n) (h1 : n ≤ 2147483647) (hbase : base ≤ w.heap.size) :
    Calls Tryz.prog 141 #[v, .int .i64 n] w fun e w' => ∃ v', e = .returned v' ∧ w'.ownsRow base 5 1 v' (k + 4) (xs ++ (lowL n 4).map (Value.int .u8)) ∧ Below base w w' := by
  obtain ⟨i0, hi, hz0, hz1, hz2⟩ := info_parts info_u8
  have HL : Hid (lowL n 4 = [n % 256, n / 256 % 256, n / 65536 % 256, n / 16777216]) := lowL_four n h0 h1
  go_enter Tryz.func141, Tryz.ntmps141
  go_wp2_with (at_builtin; refine wpList_append_own_at _ rfl _ _ 218 rfl base 5 i0 (.int .u8 0) 1 1 Tryz.underlying218 hi hz0 hz1 hz2 rfl (by decide) _ _ _ rfl (hown.alloc _) ⟨w.heap.size, 0, none⟩ 4 4 [.int .u8 (n % 256), .int .u8 (n / 256 % 256), .int .u8 (n / 65536 % 256), .int .u8 (n / 16777216)] rfl rfl ?c1 ?c2 ?c3 ?c4 ?c5 ?_)
  case c1 => exact cells_new _ _ _
  case c2 => intro x hx; simp at hx; rcases hx with rfl | rfl | rfl | rfl <;> rfl
  case c3 => unfold maxLen; omega
  case c4 => omega
  case c5 => simp; omega
  intro v' w1 hown' hgrow _ _
  go_wp2
  go_ret
  exact ⟨v', rfl, by rw [HL.out]; exact hown', ((Below.refl _ _).alloc hbase _).grown hgrow (by simp; omega) (fun j hj => (hown.lt j hj).1)⟩

end Go.Proofs.YtbbdgokdfhdpiaaGreatDoor
