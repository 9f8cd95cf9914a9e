/-
  The law's store behind a list's writing: what is pure of it.
-/
import Derived.Test.YtbbdgokdfhdpiaaGreatDoorLawWorld
namespace Go.Proofs.YtbbdgokdfhdpiaaGreatDoor
open Go.RowKit

theorem below_grown {B : Nat} {w w' : World} {row : Option Nat} (h : w.grownBy w' row) (hr : ∀ g, row = some g → B ≤ g) (hB : B ≤ w.heap.size) : Below B w w' :=
  ⟨h.os, h.tape, h.output, h.size, fun k hk => h.block k (Nat.lt_of_lt_of_le hk hB) (fun e => absurd hk (Nat.not_lt.2 (hr k e.symm)))⟩

theorem grown_set' (W : World) (g o : Nat) (v : Value) : W.grownBy (W.setCell ⟨g, o, none⟩ v) (some g) :=
  ⟨rfl, rfl, rfl, by simp, fun k _ hk => heap_setCell_other W ⟨g, o, none⟩ k v (fun e => hk (by simp [e]))⟩

theorem own_fin {W wc wd we wf : World} {g0 next : Nat} {v rv mv vr vm : Value} {ls nw : List (Value × Nat × Int)} (hS : StoreAt W g0 next rv mv ls)
    (hWc : ∀ k, k < W.heap.size → k ≠ g0 → some k ≠ v.ownBlock → wc.heap[k]? = W.heap[k]?) (hsz : W.heap.size ≤ wc.heap.size)
    (hvl : ∀ q ∈ ls, ∀ g, q.1.ownBlock = some g → v.ownBlock ≠ some g)
    (hm : ∀ q ∈ nw, Marked wc (g0 + 1) q.1 q.2.1 q.2.2) (hnb : ∀ q ∈ nw, ∀ g, q.1.ownBlock = some g → rv.ownBlock ≠ some g ∧ mv.ownBlock ≠ some g)
    (hcd : wc.grownBy wd rv.ownBlock) (hrowd : wd.ownsRow (g0 + 1) 47 1 vr (ls ++ nw).length ((ls ++ nw).map fun q => q.1)) (hatd : vr.ownBlock = rv.ownBlock ∨ vr.ownBlock = some (wc.heap.size + 1))
    (hde : wd.grownBy we (some g0))
    (hef : we.grownBy wf mv.ownBlock) (hownf : wf.ownsRow (g0 + 1) 3 1 vm (ls ++ nw).length ((ls ++ nw).map fun q => .int .i64 q.2.2)) (hatm : vm.ownBlock = mv.ownBlock ∨ vm.ownBlock = some (we.heap.size + 1))
    (hb : wf.heap[g0]? = some (.cells #[.slice none 0 0, vr, mv, .slice none 0 0, .slice none 0 0, .slice none 0 0, .slice none 0 0, .int .i64 (next + 1)] 80 (0, 0))) :
    StoreAt (wf.setCell ⟨g0, 2, none⟩ vm) g0 (next + 1) vr vm (ls ++ nw) := by
  have hlt := hS.lt
  have hdz := hde.size
  have hfz := hef.size
  have hcz := hcd.size
  have rlt : ∀ g, rv.ownBlock = some g → g0 + 1 ≤ g ∧ g < W.heap.size := fun g h => hS.rows.lt g h
  have mlt : ∀ g, mv.ownBlock = some g → g0 + 1 ≤ g ∧ g < W.heap.size := fun g h => hS.marks.lt g h
  have hap : ∀ g, vr.ownBlock = some g → vm.ownBlock ≠ some g := by
    intro g hg hg'
    rcases hatd with h | h <;> rcases hatm with h' | h'
    · exact hS.apart g (h.symm.trans hg) (h'.symm.trans hg')
    · rw [h] at hg; rw [h'] at hg'; have := rlt g hg; injection hg' with e; omega
    · rw [h] at hg; rw [h'] at hg'; have := mlt g hg'; injection hg with e; omega
    · have := (hrowd.lt g hg).2; rw [h] at hg; rw [h'] at hg'; injection hg with e; injection hg' with e'; omega
  have path : ∀ g, g0 + 1 ≤ g → g < wc.heap.size → rv.ownBlock ≠ some g → mv.ownBlock ≠ some g → (wf.setCell ⟨g0, 2, none⟩ vm).heap[g]? = wc.heap[g]? := by
    intro g h1 h2 h3 h4
    rw [heap_setCell_other _ _ _ _ (show g ≠ g0 by omega), hef.block g (by omega) (fun e => h4 e.symm), hde.block g (by omega) (by simp; omega), hcd.block g h2 (fun e => h3 e.symm)]
  have vrlt : ∀ g, vr.ownBlock = some g → g < we.heap.size := by
    intro g hg
    rcases hatd with h | h
    · rw [h] at hg; have := rlt g hg; omega
    · have := (hrowd.lt g hg).2; omega
  have sz : (wf.setCell ⟨g0, 2, none⟩ vm).heap.size = wf.heap.size := by simp
  refine ⟨by omega, ?_, ?_, ?_, hap, ?_, ?_⟩
  · rw [heap_setCell_same wf g0 2 _ _ _ hb]; simp
  · have h1 := hrowd.kept hde (Or.inr (fun e => by have := (hrowd.lt g0 e).1; omega))
    have h2 := h1.kept hef (by
      cases hvb : vr.ownBlock with
      | none => exact Or.inl rfl
      | some g =>
        refine Or.inr (fun e => ?_)
        rcases hatd with h | h
        · exact hS.apart g (h.symm.trans hvb) e.symm
        · rw [h] at hvb; injection hvb with e'; have := mlt g e.symm; omega)
    exact h2.kept (grown_set' wf g0 2 vm) (Or.inr (fun e => by have := (h2.lt g0 e).1; omega))
  · exact hownf.kept (grown_set' wf g0 2 vm) (Or.inr (fun e => by have := (hownf.lt g0 e).1; omega))
  · intro q hq
    rcases List.mem_append.1 hq with h | h
    · obtain ⟨p, cap, hv, hlt', hk⟩ := hS.each q h
      refine (hS.each q h).of_heap (by omega) (fun g hg => ?_)
      have := hlt' g hg
      have := hS.other q h g hg
      rw [path g (by omega) (by omega) this.1 this.2]
      exact hWc g (by omega) (by omega) (fun e => hvl q h g hg e.symm)
    · obtain ⟨p, cap, hv, hlt', hk⟩ := hm q h
      refine (hm q h).of_heap (by omega) (fun g hg => ?_)
      have := hlt' g hg
      have := hnb q h g hg
      exact path g (by omega) (by omega) this.1 this.2
  · intro q hq g hg
    have hb : g < wc.heap.size ∧ rv.ownBlock ≠ some g ∧ mv.ownBlock ≠ some g := by
      rcases List.mem_append.1 hq with h | h
      · obtain ⟨p, cap, hv, hlt', hk⟩ := hS.each q h
        exact ⟨by have := hlt' g hg; omega, hS.other q h g hg⟩
      · obtain ⟨p, cap, hv, hlt', hk⟩ := hm q h
        exact ⟨(hlt' g hg).2, hnb q h g hg⟩
    constructor
    · rcases hatd with h | h
      · rw [h]; exact hb.2.1
      · rw [h]; simp; omega
    · rcases hatm with h | h
      · rw [h]; exact hb.2.2
      · rw [h]; simp; omega

end Go.Proofs.YtbbdgokdfhdpiaaGreatDoor
