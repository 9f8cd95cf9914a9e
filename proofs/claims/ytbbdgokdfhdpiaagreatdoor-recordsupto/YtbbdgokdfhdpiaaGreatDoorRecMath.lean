/-
  The plain layer of records, no program in sight: the bytes of a number, the bytes of a row, their sum.
-/
import Derived.WalkKit
import Derived.Laws.BytesArg
namespace Go.Proofs.YtbbdgokdfhdpiaaGreatDoor
open Go.RowKit

/-- A row: seven numbers. -/
structure Rw where
  lock : Int
  prom : Int
  acc : Int
  own : Int
  tok : Int
  ttl : Int
  seq : Int

/-- May a number be written? -/
def wrB (n : Int) : Bool := decide (0 ≤ n) && decide (n ≤ 2147483647)

/-- May a row be written? -/
def okB (r : Rw) : Bool := wrB r.prom && wrB r.acc && wrB r.tok && wrB r.ttl && wrB r.seq && decide (0 ≤ r.lock) && decide (r.lock ≤ 3) && decide (0 ≤ r.own) && decide (r.own ≤ 4)

/-- The lowest bytes of a number, the lowest first. -/
def lowL (v : Int) : Nat → List Int
  | 0 => []
  | k + 1 => v % 256 :: lowL (v / 256) k

theorem lowL_length : ∀ (k : Nat) (v : Int), (lowL v k).length = k
  | 0, _ => rfl
  | k + 1, v => by simp [lowL, lowL_length k]

theorem lowL_byte : ∀ (k : Nat) (v : Int), ∀ x ∈ lowL v k, 0 ≤ x ∧ x < 256
  | 0, _ => by simp [lowL]
  | k + 1, v => by
    intro x hx
    simp only [lowL, List.mem_cons] at hx
    rcases hx with rfl | hx
    · omega
    · exact lowL_byte k _ x hx

/-- The 23 bytes of a row ahead of the sum. -/
def bodyL (r : Rw) : List Int := [82] ++ lowL r.lock 1 ++ lowL r.prom 4 ++ lowL r.acc 4 ++ lowL r.own 1 ++ lowL r.tok 4 ++ lowL r.ttl 4 ++ lowL r.seq 4

theorem bodyL_length (r : Rw) : (bodyL r).length = 23 := by simp [bodyL, lowL_length]
theorem bodyL_byte (r : Rw) : ∀ x ∈ bodyL r, 0 ≤ x ∧ x < 256 := by
  intro x hx
  simp only [bodyL, List.mem_append, List.mem_singleton] at hx
  rcases hx with ((((((rfl | h) | h) | h) | h) | h) | h) | h
  · omega
  all_goals exact lowL_byte _ _ x h

/-- The sum of bytes, each times its place, from place i + 1 on, upon n. -/
def sumL : List Int → Nat → Int → Int
  | [], _, n => n
  | b :: bs, i, n => sumL bs (i + 1) ((n + (i + 1) * b) % 65536)

theorem sumL_range : ∀ (bs : List Int) (i : Nat) (n : Int), 0 ≤ n → n < 65536 → 0 ≤ sumL bs i n ∧ sumL bs i n < 65536
  | [], _, n, h0, h1 => ⟨h0, h1⟩
  | b :: bs, i, n, _, _ => sumL_range bs (i + 1) _ (Int.emod_nonneg _ (by omega)) (Int.emod_lt_of_pos _ (by omega))

/-- One byte more. -/
theorem sumL_snoc (b : Int) : ∀ (bs : List Int) (i : Nat) (n : Int), sumL (bs ++ [b]) i n = (sumL bs i n + ((i + bs.length : Nat) + 1) * b) % 65536
  | [], i, n => by simp [sumL]
  | x :: xs, i, n => by
    simp only [List.cons_append, sumL, sumL_snoc b xs (i + 1) _, List.length_cons]
    congr 3
    omega

theorem sumL_take {bs : List Int} {k : Nat} (h : k < bs.length) (i : Nat) (n : Int) : sumL (bs.take (k + 1)) i n = (sumL (bs.take k) i n + ((i + k : Nat) + 1) * bs.getD k 0) % 65536 := by
  rw [List.take_succ_eq_append_getElem h, sumL_snoc, List.length_take, Nat.min_eq_left (Nat.le_of_lt h)]
  simp [List.getD, h]

/-- The record's 25 bytes. -/
def recL (r : Rw) : List Int := bodyL r ++ lowL (sumL (bodyL r) 0 0) 2

theorem recL_length (r : Rw) : (recL r).length = 25 := by simp [recL, bodyL_length, lowL_length]
theorem recL_byte (r : Rw) : ∀ x ∈ recL r, 0 ≤ x ∧ x < 256 := by
  intro x hx
  simp only [recL, List.mem_append] at hx
  rcases hx with h | h
  · exact bodyL_byte r x h
  · exact lowL_byte _ _ x h

/-- The record of a row, or nothing. -/
def recS (r : Rw) : List Int := if okB r = true then recL r else []

abbrev rwL (r : Rw) : List Value := [.int .i64 r.lock, .int .i64 r.prom, .int .i64 r.acc, .int .i64 r.own, .int .i64 r.tok, .int .i64 r.ttl, .int .i64 r.seq]
abbrev rwV (r : Rw) : Value := .agg #[.int .i64 r.lock, .int .i64 r.prom, .int .i64 r.acc, .int .i64 r.own, .int .i64 r.tok, .int .i64 r.ttl, .int .i64 r.seq]

theorem strOfNums_size (xs : List Int) : (strOfNums xs).size = xs.length := by simp [strOfNums, ByteArray.size]
theorem strOfNums_append (xs ys : List Int) : strOfNums xs ++ strOfNums ys = strOfNums (xs ++ ys) := by
  apply ByteArray.ext
  simp [strOfNums]

theorem strOfNums_get (xs : List Int) (k : Nat) (h : k < xs.length) (hb : ∀ x ∈ xs, 0 ≤ x ∧ x < 256) : (((strOfNums xs).data.toList.getD k 0).toNat : Int) = xs.getD k 0 := by
  have h2 := hb _ (List.getElem_mem h)
  have e : ((strOfNums xs).data.toList.getD k 0) = UInt8.ofNat (xs[k]).toNat := by simp [strOfNums, List.getD, h]
  rw [e]
  simp [List.getD, h]
  omega

theorem strOfNums_inj {xs ys : List Int} (hx : ∀ x ∈ xs, 0 ≤ x ∧ x < 256) (hy : ∀ x ∈ ys, 0 ≤ x ∧ x < 256) (h : strOfNums xs = strOfNums ys) : xs = ys := by
  have hl : xs.length = ys.length := by rw [← strOfNums_size, ← strOfNums_size, h]
  apply List.ext_getElem hl
  intro k h1 h2
  have e1 := strOfNums_get xs k h1 hx
  have e2 := strOfNums_get ys k h2 hy
  rw [h] at e1
  rw [e1] at e2
  simpa [List.getD, h1, h2] using e2

end Go.Proofs.YtbbdgokdfhdpiaaGreatDoor
