/-
  What a bound on the bulk of a script gives: how many steps there are, how long their texts.
-/
import Derived.Test.YtbbdgokdfhdpiaaGreatDoorOpsOpen
import Derived.Test.YtbbdgokdfhdpiaaGreatDoorRows
namespace Go.Proofs.YtbbdgokdfhdpiaaGreatDoor

theorem bulk_pos {H : Type} (d : DataW H) : 0 < Rows.uptoBulk d := by
  cases d with
  | lit l => cases l <;> simp only [Rows.uptoBulk] <;> omega
  | _ => simp only [Rows.uptoBulk]; omega

theorem bulk_mem {H : Type} {d : DataW H} : ∀ {l : List (DataW H)}, d ∈ l → Rows.uptoBulk d ≤ Rows.uptoBulkAll l
  | [], h => by cases h
  | x :: r, h => by
    simp only [Rows.uptoBulkAll]
    rcases List.mem_cons.1 h with e | e
    · subst e; omega
    · have := bulk_mem e; omega

theorem bulk_count {H : Type} : ∀ l : List (DataW H), l.length ≤ Rows.uptoBulkAll l
  | [] => Nat.zero_le _
  | x :: r => by
    have h1 := bulk_pos x
    have h2 := bulk_count r
    simp only [Rows.uptoBulkAll, List.length_cons]
    omega

/-- A script of bounded bulk: so many steps, each of so long a text. -/
theorem script_small {H : Type} {len : Nat} {D : Nat → DataW H} {E : List (DataW H)} {s : Nat → ByteArray} (hk : Rows.uptoSmall H ([DataW.slice ((List.range len).map D) E] ++ []) = true)
    (hs : ∀ i, i < len → ∃ ds : List (DataW H), D i = .agg ds ∧ ds[4]? = some (.lit (.string (s i).data.toList))) :
    len ≤ 1048576 ∧ ∀ i, i < len → (s i).size ≤ 1048576 := by
  have h := of_decide_eq_true hk
  simp only [List.append_nil, Rows.uptoBulkAll, Rows.uptoBulk] at h
  refine ⟨?_, fun i hi => ?_⟩
  · have := bulk_count ((List.range len).map D)
    simp only [List.length_map, List.length_range] at this
    omega
  · obtain ⟨ds, h1, h2⟩ := hs i hi
    have a := bulk_mem (d := D i) (l := (List.range len).map D) (List.mem_map.2 ⟨i, List.mem_range.2 hi, rfl⟩)
    rw [h1] at a
    simp only [Rows.uptoBulk] at a
    have b := bulk_mem (List.mem_of_getElem? h2)
    simp only [Rows.uptoBulk, Array.length_toList] at b
    have : (s i).size = (s i).data.size := rfl
    omega

end Go.Proofs.YtbbdgokdfhdpiaaGreatDoor
