/-
  The walk of the program's first: the row of the record that a text begins with, if it begins with one.
-/
import Derived.Test.YtbbdgokdfhdpiaaGreatDoorPrgOf
import Derived.Test.YtbbdgokdfhdpiaaGreatDoorPrgNum
import Derived.Test.YtbbdgokdfhdpiaaGreatDoorLoads
import Derived.Test.YtbbdgokdfhdpiaaGreatDoorRefRow
import Derived.Lib.QuietBelow
namespace Go.Proofs.YtbbdgokdfhdpiaaGreatDoor
open Go.RowKit

theorem numsOf_from (s : ByteArray) (a : Nat) : numsOf (s.extract a s.size) = (numsOf s).drop a := by
  rw [numsOf_extract, List.take_of_length_le]
  rw [List.length_drop, numsOf_length]
  omega

theorem number_ext (s : ByteArray) (a : Nat) (w : World) (h : a + 4 ≤ s.size) :
    Calls Tryz.prog 136 #[.string (s.extract a s.size)] w fun e w' => e = .returned (.int .i64 (highL (((numsOf s).drop a).take 4))) ∧ ∃ m, w' = w.drewN m := by
  rw [← numsOf_from s a]
  exact number_any _ _ (by rw [ByteArray.size_extract]; omega)

abbrev Z7 : Obj := .cells #[.int .i64 0, .int .i64 0, .int .i64 0, .int .i64 0, .int .i64 0, .int .i64 0, .int .i64 0] 58
abbrev zRw : Rw := ⟨0, 0, 0, 0, 0, 0, 0⟩

/-- A new row that was filled behind some draws is the new row that was laid full. -/
theorem set7 (W : World) (g m : Nat) (hg : W.heap.size = g) (v0 v1 v2 v3 v4 v5 v6 : Value) :
    ((((((((W.alloc Z7).drewN m).setCell ⟨g, 0, none⟩ v0).setCell ⟨g, 1, none⟩ v1).setCell ⟨g, 2, none⟩ v2).setCell ⟨g, 3, none⟩ v3).setCell ⟨g, 4, none⟩ v4).setCell ⟨g, 5, none⟩ v5).setCell ⟨g, 6, none⟩ v6 = (W.alloc (.cells #[v0, v1, v2, v3, v4, v5, v6] 58)).drewN m := by
  have hs : ∀ (V : World) (a : Addr) (v : Value), (V.drewN m).setCell a v = (V.setCell a v).drewN m := fun V a v => by
    unfold World.setCell World.drewN
    cases V
    simp only
  simp only [hs, World.setCell_alloc_at _ _ _ _ _ hg.symm]
  rfl

/-- What a row's seven cells hold behind seven stores. -/
theorem chain7 (W : World) (g : Nat) (h : ∀ j, j < 7 → (W.cell? ⟨g, j, none⟩).isSome = true) (v0 v1 v2 v3 v4 v5 v6 : Value) :
    ∀ j u, [v0, v1, v2, v3, v4, v5, v6][j]? = some u → (((((((W.setCell ⟨g, 0, none⟩ v0).setCell ⟨g, 1, none⟩ v1).setCell ⟨g, 2, none⟩ v2).setCell ⟨g, 3, none⟩ v3).setCell ⟨g, 4, none⟩ v4).setCell ⟨g, 5, none⟩ v5).setCell ⟨g, 6, none⟩ v6).cell? ((⟨g, 0, none⟩ : Addr).add j) = some u := by
  intro j u hj
  have e : (⟨g, 0, none⟩ : Addr).add j = ⟨g, j, none⟩ := by unfold Addr.add; split <;> simp_all
  rw [e]
  have h0 := h 0 (by omega)
  have h1 := h 1 (by omega)
  have h2 := h 2 (by omega)
  have h3 := h 3 (by omega)
  have h4 := h 4 (by omega)
  have h5 := h 5 (by omega)
  have h6 := h 6 (by omega)
  match j, hj with
  | 0, hj => simp at hj; subst hj; simp [World.cell?_setCell_other, World.cell?_setCell_same', h0]
  | 1, hj => simp at hj; subst hj; simp [World.cell?_setCell_other, World.cell?_setCell_same', h1]
  | 2, hj => simp at hj; subst hj; simp [World.cell?_setCell_other, World.cell?_setCell_same', h2]
  | 3, hj => simp at hj; subst hj; simp [World.cell?_setCell_other, World.cell?_setCell_same', h3]
  | 4, hj => simp at hj; subst hj; simp [World.cell?_setCell_other, World.cell?_setCell_same', h4]
  | 5, hj => simp at hj; subst hj; simp [World.cell?_setCell_other, World.cell?_setCell_same', h5]
  | 6, hj => simp at hj; subst hj; simp [World.cell?_setCell_other, World.cell?_setCell_same', h6]
  | k + 7, hj => simp at hj

/-- The row that seven stores have left is loaded again. -/
theorem load7 (W : World) (g : Nat) (h : ∀ j, j < 7 → (W.cell? ⟨g, j, none⟩).isSome = true) (v0 v1 v2 v3 v4 v5 v6 : Value) :
    (loadVar 58 ⟨g, 0, none⟩).run Tryz.prog (((((((W.setCell ⟨g, 0, none⟩ v0).setCell ⟨g, 1, none⟩ v1).setCell ⟨g, 2, none⟩ v2).setCell ⟨g, 3, none⟩ v3).setCell ⟨g, 4, none⟩ v4).setCell ⟨g, 5, none⟩ v5).setCell ⟨g, 6, none⟩ v6) =
      .ok (.agg #[v0, v1, v2, v3, v4, v5, v6]) (((((((W.setCell ⟨g, 0, none⟩ v0).setCell ⟨g, 1, none⟩ v1).setCell ⟨g, 2, none⟩ v2).setCell ⟨g, 3, none⟩ v3).setCell ⟨g, 4, none⟩ v4).setCell ⟨g, 5, none⟩ v5).setCell ⟨g, 6, none⟩ v6) :=
  run_loadVar_at _ _ 58 [v0, v1, v2, v3, v4, v5, v6] _ (chain7 W g h v0 v1 v2 v3 v4 v5 v6) Tryz.underlying58 rfl (by kernel_rfl)

set_option maxRecDepth 100000 in
set_option maxHeartbeats 1000000 in
theorem first_short (s : ByteArray) (w : World) (hs : s.size < 25) :
    Calls Tryz.prog 97 #[.string s] w fun e w' => e = .returned (.tuple #[rwV zRw, .bool false]) ∧ Below w.heap.size w w' := by
  go_enter Tryz.func97, Tryz.ntmps97
  go_wp2
  exact bodyPost_ret (v := .tuple #[rwV zRw, .bool false]) (by simp [results, Tryz.results97, go_sem]) rfl ⟨rfl, (Below.refl _ _).alloc (Nat.le_refl _) _⟩

set_option maxRecDepth 100000 in
set_option maxHeartbeats 8000000 in
theorem first_long (s : ByteArray) (w : World) (hs : 25 ≤ s.size) (R : Rw) (hR : R = rowL (numsOf s)) (q : Bool) (hq : ((strOfNums (recS R)).toList == (s.extract 0 25).toList) = q) :
    Calls Tryz.prog 97 #[.string s] w fun e w' => e = .returned (.tuple #[rwV (if q = true then R else zRw), .bool q]) ∧ Below w.heap.size w w' := by
  have j1 : 1 < s.size := by omega
  have j10 : 10 < s.size := by omega
  have i1 : (1 : Int) < (s.size : Int) := by omega
  have i10 : (10 : Int) < (s.size : Int) := by omega
  have b2 : (2 : Int) ≤ (s.size : Int) := by omega
  have b6 : (6 : Int) ≤ (s.size : Int) := by omega
  have b11 : (11 : Int) ≤ (s.size : Int) := by omega
  have b15 : (15 : Int) ≤ (s.size : Int) := by omega
  have b19 : (19 : Int) ≤ (s.size : Int) := by omega
  have b25 : (25 : Int) ≤ (s.size : Int) := by omega
  have HR : Hid (R = rowL (numsOf s)) := hR
  have HQ : Hid (((strOfNums (recS R)).toList == (s.extract 0 25).toList) = q) := hq
  clear hR hq
  go_enter Tryz.func97, Tryz.ntmps97
  go_wp2_with fail
  go_cut [4] from 5 to 31 (fun s4 wc => s4 = .pointer (some ⟨w.heap.size + 1, 0, none⟩) ∧ ∃ d m, wc = (((w.alloc Z7).drewN d).alloc (.cells #[.int .i64 (IntKind.i64.wrap (s[1].toNat : Int)), .int .i64 (highL (List.take 4 (List.drop 2 (numsOf s)))), .int .i64 (highL (List.take 4 (List.drop 6 (numsOf s)))), .int .i64 (IntKind.i64.wrap (s[10].toNat : Int)), .int .i64 (highL (List.take 4 (List.drop 11 (numsOf s)))), .int .i64 (highL (List.take 4 (List.drop 15 (numsOf s)))), .int .i64 (highL (List.take 4 (List.drop 19 (numsOf s))))] 58)).drewN m)
  case first =>
    refine wp_region_any (by kernel_rfl) ?_
    change wpAny _ _ _ _ _ _ _ (World.drew _)
    refine wpAny_take (i := 0) (v := ?v1) rfl (by kernel_rfl) (by kernel_rfl) (by kernel_rfl) (fun _ _ _ h => h) (Or.inl ⟨by rfl, ?y1⟩) ?k1
    case y1 => intro w; go_simp; with_reducible rfl
    refine wpAny_take (i := 1) (v := ?v2) rfl (by kernel_rfl) (by kernel_rfl) (by kernel_rfl) (fun _ _ _ h => h) (Or.inl ⟨by rfl, ?y2⟩) ?k2
    case y2 => intro w; go_simp; with_reducible rfl
    refine wpAny_take (i := 2) (v := ?v3) rfl (by kernel_rfl) (by kernel_rfl) (by kernel_rfl) (fun _ _ _ h => h) (Or.inl ⟨by rfl, ?y3⟩) ?k3
    case y3 => intro w; go_simp; with_reducible rfl
    refine wpAny_take (i := 3) (v := ?v4) rfl (by kernel_rfl) (by kernel_rfl) (by kernel_rfl) (fun _ _ _ h => h) (Or.inl ⟨by rfl, ?y4⟩) ?k4
    case y4 => intro w; go_simp; with_reducible rfl
    refine wpAny_take (i := 4) (v := ?v5) rfl (by kernel_rfl) (by kernel_rfl) (by kernel_rfl) (fun _ _ _ h => h) (Or.inl ⟨by rfl, ?y5⟩) ?k5
    case y5 => intro w; go_simp; with_reducible rfl
    refine wpAny_take (i := 6) (v := ?v6) rfl (by kernel_rfl) (by kernel_rfl) (by kernel_rfl) (fun _ _ _ h => h) (Or.inl ⟨by rfl, ?y6⟩) ?k6
    case y6 => intro w; go_simp; with_reducible rfl
    refine wpAny_take (i := 7) (v := ?v7) rfl (by kernel_rfl) (by kernel_rfl) (by kernel_rfl) (fun _ _ _ h => h) (Or.inl ⟨by rfl, ?y7⟩) ?k7
    case y7 => intro w; go_simp; with_reducible rfl
    refine wpAny_take (i := 9) (v := ?v8) rfl (by kernel_rfl) (by kernel_rfl) (by kernel_rfl) (fun _ _ _ h => h) (Or.inl ⟨by rfl, ?y8⟩) ?k8
    case y8 => intro w; go_simp; with_reducible rfl
    refine wpAny_take (i := 10) (v := ?v9) rfl (by kernel_rfl) (by kernel_rfl) (by kernel_rfl) (fun _ _ _ h => h) (Or.inl ⟨by rfl, ?y9⟩) ?k9
    case y9 => intro w; go_simp; with_reducible rfl
    refine wpAny_take (i := 11) (v := ?v10) rfl (by kernel_rfl) (by kernel_rfl) (by kernel_rfl) (fun _ _ _ h => h) (Or.inl ⟨by rfl, ?y10⟩) ?k10
    case y10 => intro w; go_simp; with_reducible rfl
    refine wpAny_take (i := 12) (v := ?v11) rfl (by kernel_rfl) (by kernel_rfl) (by kernel_rfl) (fun _ _ _ h => h) (Or.inl ⟨by rfl, ?y11⟩) ?k11
    case y11 => intro w; go_simp; with_reducible rfl
    refine wpAny_take (i := 13) (v := ?v12) rfl (by kernel_rfl) (by kernel_rfl) (by kernel_rfl) (fun _ _ _ h => h) (Or.inl ⟨by rfl, ?y12⟩) ?k12
    case y12 => intro w; go_simp; with_reducible rfl
    refine wpAny_take (i := 15) (v := ?v13) rfl (by kernel_rfl) (by kernel_rfl) (by kernel_rfl) (fun _ _ _ h => h) (Or.inl ⟨by rfl, ?y13⟩) ?k13
    case y13 => intro w; go_simp; with_reducible rfl
    refine wpAny_take (i := 16) (v := ?v14) rfl (by kernel_rfl) (by kernel_rfl) (by kernel_rfl) (fun _ _ _ h => h) (Or.inl ⟨by rfl, ?y14⟩) ?k14
    case y14 => intro w; go_simp; with_reducible rfl
    refine wpAny_take (i := 18) (v := ?v15) rfl (by kernel_rfl) (by kernel_rfl) (by kernel_rfl) (fun _ _ _ h => h) (Or.inl ⟨by rfl, ?y15⟩) ?k15
    case y15 => intro w; go_simp; with_reducible rfl
    refine wpAny_take (i := 19) (v := ?v16) rfl (by kernel_rfl) (by kernel_rfl) (by kernel_rfl) (fun _ _ _ h => h) (Or.inl ⟨by rfl, ?y16⟩) ?k16
    case y16 => intro w; go_simp; with_reducible rfl
    refine wpAny_ready (rs := [5, 23]) (by kernel_rfl) (by simp) ?_
    refine AllReady.cons rfl (fun K hK => ?_) ?_
    · go_simp
      refine Calls.mono (number_ext s 2 _ (by omega)) ?_
      rintro e w' ⟨rfl, m2, rfl⟩
      refine hK _ _ ?_; clear hK K
      refine wpAny_ready (rs := [8, 23]) (by kernel_rfl) (by simp) ?_
      refine AllReady.cons rfl (fun K hK => ?_) ?_
      · go_simp
        refine Calls.mono (number_ext s 6 _ (by omega)) ?_
        rintro e w' ⟨rfl, m6, rfl⟩
        refine hK _ _ ?_; clear hK K
        refine wpAny_ready (rs := [14, 23]) (by kernel_rfl) (by simp) ?_
        refine AllReady.cons rfl (fun K hK => ?_) ?_
        · go_simp
          refine Calls.mono (number_ext s 11 _ (by omega)) ?_
          rintro e w' ⟨rfl, m11, rfl⟩
          refine hK _ _ ?_; clear hK K
          refine wpAny_ready (rs := [17, 23]) (by kernel_rfl) (by simp) ?_
          refine AllReady.cons rfl (fun K hK => ?_) ?_
          · go_simp
            refine Calls.mono (number_ext s 15 _ (by omega)) ?_
            rintro e w' ⟨rfl, m15, rfl⟩
            refine hK _ _ ?_; clear hK K
            refine wpAny_ready (rs := [20, 23]) (by kernel_rfl) (by simp) ?_
            refine AllReady.cons rfl (fun K hK => ?_) ?_
            · go_simp
              refine Calls.mono (number_ext s 19 _ (by omega)) ?_
              rintro e w' ⟨rfl, m19, rfl⟩
              refine hK _ _ ?_; clear hK K
              refine wpAny_take (i := 21) (v := ?v17) rfl (by kernel_rfl) (by kernel_rfl) (by kernel_rfl) (fun _ _ _ h => h) (Or.inl ⟨by rfl, ?y17⟩) ?k17
              case y17 => intro w; go_simp; with_reducible rfl
              refine wpAny_take (i := 22) (v := ?v18) rfl (by kernel_rfl) (by kernel_rfl) (by kernel_rfl) (fun _ _ _ h => h) (Or.inl ⟨by rfl, ?y18⟩) ?k18
              case y18 => intro w; go_simp; with_reducible rfl
              refine wpAny_ready (rs := [23]) (by kernel_rfl) (by simp) ?_
              refine AllReady.cons rfl (fun K hK => ?_) ?_
              · go_simp
                refine hK _ _ ?_; clear hK K
                refine wpAny_ready (rs := [24]) (by kernel_rfl) (by simp) ?_
                refine AllReady.cons rfl (fun K hK => ?_) ?_
                · go_simp
                  refine hK _ _ ?_; clear hK K
                  refine wpAny_done (by kernel_rfl) ?_ _
                  go_wp2_with fail
                  go_meet
                  case rel => exact ⟨rfl, _, 0, rfl⟩
                exact AllReady.nil
              exact AllReady.nil
            refine AllReady.cons rfl (fun K hK => ?_) ?_
            · go_simp
              refine hK _ _ ?_; clear hK K
              refine wpAny_ready (rs := [20]) (by kernel_rfl) (by simp) ?_
              refine AllReady.cons rfl (fun K hK => ?_) ?_
              · go_simp
                refine Calls.mono (number_ext s 19 _ (by omega)) ?_
                rintro e w' ⟨rfl, m19, rfl⟩
                refine hK _ _ ?_; clear hK K
                refine wpAny_take (i := 21) (v := ?v19) rfl (by kernel_rfl) (by kernel_rfl) (by kernel_rfl) (fun _ _ _ h => h) (Or.inl ⟨by rfl, ?y19⟩) ?k19
                case y19 => intro w; go_simp; with_reducible rfl
                refine wpAny_take (i := 22) (v := ?v20) rfl (by kernel_rfl) (by kernel_rfl) (by kernel_rfl) (fun _ _ _ h => h) (Or.inl ⟨by rfl, ?y20⟩) ?k20
                case y20 => intro w; go_simp; with_reducible rfl
                refine wpAny_ready (rs := [24]) (by kernel_rfl) (by simp) ?_
                refine AllReady.cons rfl (fun K hK => ?_) ?_
                · go_simp
                  refine hK _ _ ?_; clear hK K
                  refine wpAny_done (by kernel_rfl) ?_ _
                  go_wp2_with fail
                  go_meet
                  case rel =>
                    go_light
                    refine ⟨rfl, ?_⟩
                    rw [set7 _ _ _ (by simp)]
                    exact ⟨_, _, rfl⟩
                exact AllReady.nil
              exact AllReady.nil
            exact AllReady.nil
          refine AllReady.cons rfl (fun K hK => ?_) ?_
          · go_simp
            refine hK _ _ ?_; clear hK K
            refine wpAny_ready (rs := [17]) (by kernel_rfl) (by simp) ?_
            refine AllReady.cons rfl (fun K hK => ?_) ?_
            · go_simp
              refine Calls.mono (number_ext s 15 _ (by omega)) ?_
              rintro e w' ⟨rfl, m15, rfl⟩
              refine hK _ _ ?_; clear hK K
              refine wpAny_ready (rs := [20]) (by kernel_rfl) (by simp) ?_
              refine AllReady.cons rfl (fun K hK => ?_) ?_
              · go_simp
                refine Calls.mono (number_ext s 19 _ (by omega)) ?_
                rintro e w' ⟨rfl, m19, rfl⟩
                refine hK _ _ ?_; clear hK K
                refine wpAny_take (i := 21) (v := ?v21) rfl (by kernel_rfl) (by kernel_rfl) (by kernel_rfl) (fun _ _ _ h => h) (Or.inl ⟨by rfl, ?y21⟩) ?k21
                case y21 => intro w; go_simp; with_reducible rfl
                refine wpAny_take (i := 22) (v := ?v22) rfl (by kernel_rfl) (by kernel_rfl) (by kernel_rfl) (fun _ _ _ h => h) (Or.inl ⟨by rfl, ?y22⟩) ?k22
                case y22 => intro w; go_simp; with_reducible rfl
                refine wpAny_ready (rs := [24]) (by kernel_rfl) (by simp) ?_
                refine AllReady.cons rfl (fun K hK => ?_) ?_
                · go_simp
                  refine hK _ _ ?_; clear hK K
                  refine wpAny_done (by kernel_rfl) ?_ _
                  go_wp2_with fail
                  go_meet
                  case rel =>
                    go_light
                    refine ⟨rfl, ?_⟩
                    rw [set7 _ _ _ (by simp)]
                    exact ⟨_, _, rfl⟩
                exact AllReady.nil
              exact AllReady.nil
            exact AllReady.nil
          exact AllReady.nil
        refine AllReady.cons rfl (fun K hK => ?_) ?_
        · go_simp
          refine hK _ _ ?_; clear hK K
          refine wpAny_ready (rs := [14]) (by kernel_rfl) (by simp) ?_
          refine AllReady.cons rfl (fun K hK => ?_) ?_
          · go_simp
            refine Calls.mono (number_ext s 11 _ (by omega)) ?_
            rintro e w' ⟨rfl, m11, rfl⟩
            refine hK _ _ ?_; clear hK K
            refine wpAny_ready (rs := [17]) (by kernel_rfl) (by simp) ?_
            refine AllReady.cons rfl (fun K hK => ?_) ?_
            · go_simp
              refine Calls.mono (number_ext s 15 _ (by omega)) ?_
              rintro e w' ⟨rfl, m15, rfl⟩
              refine hK _ _ ?_; clear hK K
              refine wpAny_ready (rs := [20]) (by kernel_rfl) (by simp) ?_
              refine AllReady.cons rfl (fun K hK => ?_) ?_
              · go_simp
                refine Calls.mono (number_ext s 19 _ (by omega)) ?_
                rintro e w' ⟨rfl, m19, rfl⟩
                refine hK _ _ ?_; clear hK K
                refine wpAny_take (i := 21) (v := ?v23) rfl (by kernel_rfl) (by kernel_rfl) (by kernel_rfl) (fun _ _ _ h => h) (Or.inl ⟨by rfl, ?y23⟩) ?k23
                case y23 => intro w; go_simp; with_reducible rfl
                refine wpAny_take (i := 22) (v := ?v24) rfl (by kernel_rfl) (by kernel_rfl) (by kernel_rfl) (fun _ _ _ h => h) (Or.inl ⟨by rfl, ?y24⟩) ?k24
                case y24 => intro w; go_simp; with_reducible rfl
                refine wpAny_ready (rs := [24]) (by kernel_rfl) (by simp) ?_
                refine AllReady.cons rfl (fun K hK => ?_) ?_
                · go_simp
                  refine hK _ _ ?_; clear hK K
                  refine wpAny_done (by kernel_rfl) ?_ _
                  go_wp2_with fail
                  go_meet
                  case rel =>
                    go_light
                    refine ⟨rfl, ?_⟩
                    rw [set7 _ _ _ (by simp)]
                    exact ⟨_, _, rfl⟩
                exact AllReady.nil
              exact AllReady.nil
            exact AllReady.nil
          exact AllReady.nil
        exact AllReady.nil
      refine AllReady.cons rfl (fun K hK => ?_) ?_
      · go_simp
        refine hK _ _ ?_; clear hK K
        refine wpAny_ready (rs := [8]) (by kernel_rfl) (by simp) ?_
        refine AllReady.cons rfl (fun K hK => ?_) ?_
        · go_simp
          refine Calls.mono (number_ext s 6 _ (by omega)) ?_
          rintro e w' ⟨rfl, m6, rfl⟩
          refine hK _ _ ?_; clear hK K
          refine wpAny_ready (rs := [14]) (by kernel_rfl) (by simp) ?_
          refine AllReady.cons rfl (fun K hK => ?_) ?_
          · go_simp
            refine Calls.mono (number_ext s 11 _ (by omega)) ?_
            rintro e w' ⟨rfl, m11, rfl⟩
            refine hK _ _ ?_; clear hK K
            refine wpAny_ready (rs := [17]) (by kernel_rfl) (by simp) ?_
            refine AllReady.cons rfl (fun K hK => ?_) ?_
            · go_simp
              refine Calls.mono (number_ext s 15 _ (by omega)) ?_
              rintro e w' ⟨rfl, m15, rfl⟩
              refine hK _ _ ?_; clear hK K
              refine wpAny_ready (rs := [20]) (by kernel_rfl) (by simp) ?_
              refine AllReady.cons rfl (fun K hK => ?_) ?_
              · go_simp
                refine Calls.mono (number_ext s 19 _ (by omega)) ?_
                rintro e w' ⟨rfl, m19, rfl⟩
                refine hK _ _ ?_; clear hK K
                refine wpAny_take (i := 21) (v := ?v25) rfl (by kernel_rfl) (by kernel_rfl) (by kernel_rfl) (fun _ _ _ h => h) (Or.inl ⟨by rfl, ?y25⟩) ?k25
                case y25 => intro w; go_simp; with_reducible rfl
                refine wpAny_take (i := 22) (v := ?v26) rfl (by kernel_rfl) (by kernel_rfl) (by kernel_rfl) (fun _ _ _ h => h) (Or.inl ⟨by rfl, ?y26⟩) ?k26
                case y26 => intro w; go_simp; with_reducible rfl
                refine wpAny_ready (rs := [24]) (by kernel_rfl) (by simp) ?_
                refine AllReady.cons rfl (fun K hK => ?_) ?_
                · go_simp
                  refine hK _ _ ?_; clear hK K
                  refine wpAny_done (by kernel_rfl) ?_ _
                  go_wp2_with fail
                  go_meet
                  case rel =>
                    go_light
                    refine ⟨rfl, ?_⟩
                    rw [set7 _ _ _ (by simp)]
                    exact ⟨_, _, rfl⟩
                exact AllReady.nil
              exact AllReady.nil
            exact AllReady.nil
          exact AllReady.nil
        exact AllReady.nil
      exact AllReady.nil
    refine AllReady.cons rfl (fun K hK => ?_) ?_
    · go_simp
      refine hK _ _ ?_; clear hK K
      refine wpAny_ready (rs := [5]) (by kernel_rfl) (by simp) ?_
      refine AllReady.cons rfl (fun K hK => ?_) ?_
      · go_simp
        refine Calls.mono (number_ext s 2 _ (by omega)) ?_
        rintro e w' ⟨rfl, m2, rfl⟩
        refine hK _ _ ?_; clear hK K
        refine wpAny_ready (rs := [8]) (by kernel_rfl) (by simp) ?_
        refine AllReady.cons rfl (fun K hK => ?_) ?_
        · go_simp
          refine Calls.mono (number_ext s 6 _ (by omega)) ?_
          rintro e w' ⟨rfl, m6, rfl⟩
          refine hK _ _ ?_; clear hK K
          refine wpAny_ready (rs := [14]) (by kernel_rfl) (by simp) ?_
          refine AllReady.cons rfl (fun K hK => ?_) ?_
          · go_simp
            refine Calls.mono (number_ext s 11 _ (by omega)) ?_
            rintro e w' ⟨rfl, m11, rfl⟩
            refine hK _ _ ?_; clear hK K
            refine wpAny_ready (rs := [17]) (by kernel_rfl) (by simp) ?_
            refine AllReady.cons rfl (fun K hK => ?_) ?_
            · go_simp
              refine Calls.mono (number_ext s 15 _ (by omega)) ?_
              rintro e w' ⟨rfl, m15, rfl⟩
              refine hK _ _ ?_; clear hK K
              refine wpAny_ready (rs := [20]) (by kernel_rfl) (by simp) ?_
              refine AllReady.cons rfl (fun K hK => ?_) ?_
              · go_simp
                refine Calls.mono (number_ext s 19 _ (by omega)) ?_
                rintro e w' ⟨rfl, m19, rfl⟩
                refine hK _ _ ?_; clear hK K
                refine wpAny_take (i := 21) (v := ?v27) rfl (by kernel_rfl) (by kernel_rfl) (by kernel_rfl) (fun _ _ _ h => h) (Or.inl ⟨by rfl, ?y27⟩) ?k27
                case y27 => intro w; go_simp; with_reducible rfl
                refine wpAny_take (i := 22) (v := ?v28) rfl (by kernel_rfl) (by kernel_rfl) (by kernel_rfl) (fun _ _ _ h => h) (Or.inl ⟨by rfl, ?y28⟩) ?k28
                case y28 => intro w; go_simp; with_reducible rfl
                refine wpAny_ready (rs := [24]) (by kernel_rfl) (by simp) ?_
                refine AllReady.cons rfl (fun K hK => ?_) ?_
                · go_simp
                  refine hK _ _ ?_; clear hK K
                  refine wpAny_done (by kernel_rfl) ?_ _
                  go_wp2_with fail
                  go_meet
                  case rel =>
                    go_light
                    refine ⟨rfl, ?_⟩
                    rw [set7 _ _ _ (by simp)]
                    exact ⟨0, _, rfl⟩
                exact AllReady.nil
              exact AllReady.nil
            exact AllReady.nil
          exact AllReady.nil
        exact AllReady.nil
      exact AllReady.nil
    exact AllReady.nil
  case rest =>
    obtain ⟨rfl, d, m, hwc⟩ := hcut
    have hB : Below (w.heap.size + 1) (w.alloc Z7) wc := by
      rw [hwc]
      exact below_drewN (Below.alloc (below_drewN (Below.refl _ _) _) (by simp) _) _
    have hsz : w.heap.size + 1 < wc.heap.size := by rw [hwc]; simp
    have hrow : wc.heap[w.heap.size + 1]? = some (.cells (rwL R).toArray 58 (0, 0)) := by
      rw [hwc, HR.out]
      have h := heap_alloc_new ((w.alloc Z7).drewN d) (.cells (rwL (rowL (numsOf s))).toArray 58)
      have e1 : IntKind.i64.wrap (s[1].toNat : Int) = (numsOf s).getD 1 0 := by rw [wrap_byte, numsOf_get s 1 j1]
      have e10 : IntKind.i64.wrap (s[10].toNat : Int) = (numsOf s).getD 10 0 := by rw [wrap_byte, numsOf_get s 10 j10]
      rw [e1, e10]
      have hs2 : ((w.alloc Z7).drewN d).heap.size = w.heap.size + 1 := by simp
      rw [hs2] at h
      exact h
    clear hwc HR
    obtain ⟨l, p, a, o, t, u, v⟩ := R
    have hc : ∀ W, Below wc.heap.size wc W → ∀ j x, ([.int .i64 l, .int .i64 p, .int .i64 a, .int .i64 o, .int .i64 t, .int .i64 u, .int .i64 v] : List Value)[j]? = some x → W.cell? ⟨w.heap.size + 1, j, none⟩ = some x := by
      intro W hW j x hj
      rw [hW.cell (p := ⟨w.heap.size + 1, j, none⟩) hsz, cell_of_row wc _ j _ _ _ hrow]
      simpa using hj
    have hz : ∀ W, Below wc.heap.size wc W → ∀ j x, ([.int .i64 0, .int .i64 0, .int .i64 0, .int .i64 0, .int .i64 0, .int .i64 0, .int .i64 0] : List Value)[j]? = some x → W.cell? ⟨w.heap.size, j, none⟩ = some x ∧ W.frozen? ⟨w.heap.size, j, none⟩ = false := by
      intro W hW j x hj
      rw [hW.cell (p := ⟨w.heap.size, j, none⟩) (by show w.heap.size < _; omega), hW.frozen (p := ⟨w.heap.size, j, none⟩) (by show w.heap.size < _; omega), hB.cell (p := ⟨w.heap.size, j, none⟩) (Nat.lt_succ_self _), hB.frozen (p := ⟨w.heap.size, j, none⟩) (Nat.lt_succ_self _)]
      exact ⟨by simpa using hj, by simp⟩
    have hBw : Below w.heap.size w wc := ((Below.refl w.heap.size w).alloc (Nat.le_refl _) _).trans (hB.mono (by omega))
    have HC : Hid (∀ W, Below wc.heap.size wc W → ∀ j x, ([.int .i64 l, .int .i64 p, .int .i64 a, .int .i64 o, .int .i64 t, .int .i64 u, .int .i64 v] : List Value)[j]? = some x → W.cell? ⟨w.heap.size + 1, j, none⟩ = some x) := hc
    have HZ : Hid (∀ W, Below wc.heap.size wc W → ∀ j x, ([.int .i64 0, .int .i64 0, .int .i64 0, .int .i64 0, .int .i64 0, .int .i64 0, .int .i64 0] : List Value)[j]? = some x → W.cell? ⟨w.heap.size, j, none⟩ = some x ∧ W.frozen? ⟨w.heap.size, j, none⟩ = false) := hz
    clear hc hz hB hrow
    have r0 := HC.out wc (Below.refl _ _) 0 _ rfl
    have r1 := HC.out wc (Below.refl _ _) 1 _ rfl
    have r2 := HC.out wc (Below.refl _ _) 2 _ rfl
    have r3 := HC.out wc (Below.refl _ _) 3 _ rfl
    have r4 := HC.out wc (Below.refl _ _) 4 _ rfl
    have r5 := HC.out wc (Below.refl _ _) 5 _ rfl
    have r6 := HC.out wc (Below.refl _ _) 6 _ rfl
    have hq := HQ.out
    go_wp2_with fail
    go_region_with (go_at_call 100; refine (of_any ⟨l, p, a, o, t, u, v⟩ _).mono ?_; rintro e w1 ⟨rfl, hb1⟩)
    have hW1 : Below wc.heap.size wc w1 := ((Below.refl wc.heap.size wc).drew).trans hb1
    have c0 : w1.cell? ⟨w.heap.size + 1, 0, none⟩ = some (.int .i64 l) := HC.out w1 hW1 0 _ rfl
    have z0 : w1.cell? ⟨w.heap.size, 0, none⟩ = some (.int .i64 0) := (HZ.out w1 hW1 0 _ rfl).1
    have f0 : w1.frozen? ⟨w.heap.size, 0, none⟩ = false := (HZ.out w1 hW1 0 _ rfl).2
    have c1 : w1.cell? ⟨w.heap.size + 1, 1, none⟩ = some (.int .i64 p) := HC.out w1 hW1 1 _ rfl
    have z1 : w1.cell? ⟨w.heap.size, 1, none⟩ = some (.int .i64 0) := (HZ.out w1 hW1 1 _ rfl).1
    have f1 : w1.frozen? ⟨w.heap.size, 1, none⟩ = false := (HZ.out w1 hW1 1 _ rfl).2
    have c2 : w1.cell? ⟨w.heap.size + 1, 2, none⟩ = some (.int .i64 a) := HC.out w1 hW1 2 _ rfl
    have z2 : w1.cell? ⟨w.heap.size, 2, none⟩ = some (.int .i64 0) := (HZ.out w1 hW1 2 _ rfl).1
    have f2 : w1.frozen? ⟨w.heap.size, 2, none⟩ = false := (HZ.out w1 hW1 2 _ rfl).2
    have c3 : w1.cell? ⟨w.heap.size + 1, 3, none⟩ = some (.int .i64 o) := HC.out w1 hW1 3 _ rfl
    have z3 : w1.cell? ⟨w.heap.size, 3, none⟩ = some (.int .i64 0) := (HZ.out w1 hW1 3 _ rfl).1
    have f3 : w1.frozen? ⟨w.heap.size, 3, none⟩ = false := (HZ.out w1 hW1 3 _ rfl).2
    have c4 : w1.cell? ⟨w.heap.size + 1, 4, none⟩ = some (.int .i64 t) := HC.out w1 hW1 4 _ rfl
    have z4 : w1.cell? ⟨w.heap.size, 4, none⟩ = some (.int .i64 0) := (HZ.out w1 hW1 4 _ rfl).1
    have f4 : w1.frozen? ⟨w.heap.size, 4, none⟩ = false := (HZ.out w1 hW1 4 _ rfl).2
    have c5 : w1.cell? ⟨w.heap.size + 1, 5, none⟩ = some (.int .i64 u) := HC.out w1 hW1 5 _ rfl
    have z5 : w1.cell? ⟨w.heap.size, 5, none⟩ = some (.int .i64 0) := (HZ.out w1 hW1 5 _ rfl).1
    have f5 : w1.frozen? ⟨w.heap.size, 5, none⟩ = false := (HZ.out w1 hW1 5 _ rfl).2
    have c6 : w1.cell? ⟨w.heap.size + 1, 6, none⟩ = some (.int .i64 v) := HC.out w1 hW1 6 _ rfl
    have z6 : w1.cell? ⟨w.heap.size, 6, none⟩ = some (.int .i64 0) := (HZ.out w1 hW1 6 _ rfl).1
    have f6 : w1.frozen? ⟨w.heap.size, 6, none⟩ = false := (HZ.out w1 hW1 6 _ rfl).2
    have hfin : Below w.heap.size w w1 := hBw.trans (hW1.mono hBw.size)
    have HF : Hid (Below w.heap.size w w1) := hfin
    clear hfin hBw hW1 hb1 r0 r1 r2 r3 r4 r5 r6 hsz
    have hsome : ∀ j, j < 7 → (w1.cell? ⟨w.heap.size, j, none⟩).isSome = true := fun j hj => by
      match j, hj with
      | 0, _ => rw [z0]; rfl
      | 1, _ => rw [z1]; rfl
      | 2, _ => rw [z2]; rfl
      | 3, _ => rw [z3]; rfl
      | 4, _ => rw [z4]; rfl
      | 5, _ => rw [z5]; rfl
      | 6, _ => rw [z6]; rfl
    have hl := load7 w1 w.heap.size hsome
    have HL := fun v0 v1 v2 v3 v4 v5 v6 => (show Hid _ from hl v0 v1 v2 v3 v4 v5 v6)
    clear hl hsome
    cases q
    · go_wp2
      exact bodyPost_ret (v := .tuple #[rwV zRw, .bool false]) (by simp [results, Tryz.results97, asAddr, (HL _ _ _ _ _ _ _).out]) rfl ⟨rfl, (((((((HF.out.setCell (Nat.le_refl _) _).setCell (Nat.le_refl _) _).setCell (Nat.le_refl _) _).setCell (Nat.le_refl _) _).setCell (Nat.le_refl _) _).setCell (Nat.le_refl _) _).setCell (Nat.le_refl _) _)⟩
    · go_wp2
      exact bodyPost_ret (v := .tuple #[rwV ⟨l, p, a, o, t, u, v⟩, .bool true]) (by simp [results, Tryz.results97, asAddr, (HL _ _ _ _ _ _ _).out]) rfl ⟨rfl, (((((((HF.out.setCell (Nat.le_refl _) _).setCell (Nat.le_refl _) _).setCell (Nat.le_refl _) _).setCell (Nat.le_refl _) _).setCell (Nat.le_refl _) _).setCell (Nat.le_refl _) _).setCell (Nat.le_refl _) _)⟩

end Go.Proofs.YtbbdgokdfhdpiaaGreatDoor
