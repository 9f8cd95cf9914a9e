/-
  A law of my own for a region that draws its order. Its operations are given in one order: first those that yield whatever memory holds, or whatever memory holds that meets S; then some whose order is forced, that keep S; then a tail whose order is forced. One walk in that order serves every order that the edges allow.
-/
import Derived.OrdersHeld
import Derived.StillTail
import Derived.Test.YtbbdgokdfhdpiaaGreatDoorLoads
namespace Go.Proofs.YtbbdgokdfhdpiaaGreatDoor

section
variable {P : Program} {ops : Array Oper} {md : Region.Mode} {S : World → Prop} {Q : Exit → Act → World → Prop} {keep : Nat → Bool}

/-- Whatever order is picked from here on; an operation that is to keep S keeps it. -/
def wpAnyK (P : Program) (md : Region.Mode) (ops : Array Oper) (Q : Exit → Act → World → Prop) (S : World → Prop) (keep : Nat → Bool) : Nat → Array Bool → Act → World → Prop
  | 0, listed, a, w => Region.ready md ops listed = [] ∧ Q .normal a w
  | f + 1, listed, a, w =>
    (Region.ready md ops listed = [] → Q .normal a w) ∧
    ∀ i ∈ Region.ready md ops listed, wpOp P ops Q i (fun a' w' => (keep i = true → S w → S w') ∧ wpAnyK P md ops Q S keep f (listed.setIfInBounds i true) a' w') a w

theorem wpAny_of_K : ∀ (f : Nat) (listed : Array Bool) (a : Act) (w : World), wpAnyK P md ops Q S keep f listed a w → wpAny P md ops Q f listed a w
  | 0, _, _, _, h => h
  | f + 1, _, _, _, h => ⟨h.1, fun i hi => wpOp_mono (fun a' w' h' => wpAny_of_K f _ a' w' h'.2) (h.2 i hi)⟩

/-- What has come up is closed. -/
structure Closed (md : Region.Mode) (ops : Array Oper) (listed : Array Bool) : Prop where
  size : listed.size = ops.size
  closed : ∀ j oj, ops[j]? = some oj → listed.getD j false = true → ∀ e ∈ oj.after, Region.binds md e = true → listed.getD e.on false = true

theorem Closed.set {i : Nat} {listed : Array Bool} (inv : Closed md ops listed) (hi : i ∈ Region.ready md ops listed) : Closed md ops (listed.setIfInBounds i true) := by
  obtain ⟨_, oi, hoi, hall⟩ := mem_ready.1 hi
  refine ⟨by simp [inv.size], fun j oj hj hl e he hb => ?_⟩
  by_cases hij : i = j
  · subst hij
    have : oj = oi := Option.some.inj (hj.symm.trans hoi)
    subst this
    exact getD_set_true (hall e he hb)
  · rw [getD_set_ne false hij] at hl
    exact getD_set_true (inv.closed j oj hj hl e he hb)

/-- t waits for i, by so many steps. -/
def waitsB (md : Region.Mode) (ops : Array Oper) (i : Nat) : Nat → Nat → Bool
  | 0, _ => false
  | f + 1, t => match ops[t]? with
    | some o => o.after.any fun e => Region.binds md e && (e.on == i || waitsB md ops i f e.on)
    | none => false

theorem waits_listed {i : Nat} {listed : Array Bool} (inv : Closed md ops listed) : ∀ (f t : Nat), waitsB md ops i f t = true → (∃ o, ops[t]? = some o ∧ ∀ e ∈ o.after, Region.binds md e = true → listed.getD e.on false = true) → listed.getD i false = true
  | 0, t, h, _ => by simp [waitsB] at h
  | f + 1, t, h, ⟨o, ho, hall⟩ => by
    simp only [waitsB, ho] at h
    obtain ⟨e, he, hb⟩ := Array.any_eq_true'.1 h
    simp only [Bool.and_eq_true, Bool.or_eq_true, beq_iff_eq] at hb
    have hl := hall e he hb.1
    rcases hb.2 with h2 | h2
    · rw [← h2]; exact hl
    · have hlt : e.on < ops.size := by
        rcases Nat.lt_or_ge e.on listed.size with h' | h'
        · rw [← inv.size]; exact h'
        · simp [Array.getElem?_eq_none h'] at hl
      exact waits_listed inv f e.on h2 ⟨ops[e.on], by simp [hlt], fun e' he' hb' => inv.closed e.on _ (by simp [hlt]) hl e' he' hb'⟩

theorem unlisted {i : Nat} {listed : Array Bool} (h : listed.getD i true = false) : listed.getD i false = false := getD_both h

/-- It yields v in every world that meets S, memory as it was; a call that only computes, too. -/
def YieldsS (P : Program) (ops : Array Oper) (S : World → Prop) (o : Oper) (v : Value) (a : Act) : Prop :=
  (Region.wanted o (yielded ops a.tmps) = true ∧ ∀ w, S w → ((execOp a.eval o).run P w = .ok (.value v) w ∨ ∃ f args, (execOp a.eval o).run P w = .ok (.enter f args) w ∧ Calls P f args w (fun e w' => e = .returned v ∧ w' = w))) ∨
  (Region.wanted o (yielded ops a.tmps) = false ∧ v = undef)

theorem YieldsS.wpOp {i : Nat} {o : Oper} {v : Value} {a : Act} (hi : ops[i]? = some o) (hy : YieldsS P ops S o v a)
    {K : Act → World → Prop} {w : World} (hS : S w) (h : K (a.put o.dst v) w) : wpOp P ops Q i K a w := by
  unfold Go.wpOp
  simp only [hi]
  rcases hy with ⟨hw, hv⟩ | ⟨hw, rfl⟩
  · rcases hv w hS with hv | ⟨f, args, hv, hc⟩
    · simp only [hw, if_true, Oper.wp, hv, Oper.upon]; exact .inl h
    · simp only [hw, if_true, Oper.wp, hv, Oper.upon]
      refine .inl (hc.mono fun e w' he => ?_)
      obtain ⟨rfl, rfl⟩ := he
      exact h
  · simp only [hw, Bool.false_eq_true, if_false]; exact h

theorem YieldsS.of_same {o : Oper} {v : Value} {a a' : Act} (hy : YieldsS P ops S o v a) (he : execOp a'.eval o = execOp a.eval o)
    (hw : Region.wanted o (yielded ops a'.tmps) = Region.wanted o (yielded ops a.tmps)) : YieldsS P ops S o v a' := by
  unfold YieldsS at *
  rw [he, hw]
  exact hy

theorem wpOp_putS {j : Nat} {oi oj : Oper} {v : Value} (hj : ops[j]? = some oj) (hap : oi.apart ops oj = true)
    (hsi : ∀ cs b, oi.op ≠ .select cs b) (hsj : ∀ cs b, oj.op ≠ .select cs b)
    (hQ : ∀ c a w, Q (.panic c) (a.put oi.dst v) w → Q (.panic c) a w) {K : Act → World → Prop} {a : Act} {w : World}
    (hy : YieldsS P ops S oi v a) (h : wpOp P ops Q j K (a.put oi.dst v) w) :
    wpOp P ops Q j (fun a' w' => YieldsS P ops S oi v a' ∧ K (a'.put oi.dst v) w') a w := by
  obtain ⟨h1, h2, h3⟩ := Oper.apart_spec hap
  have keep : ∀ (a : Act), YieldsS P ops S oi v a → ∀ u, YieldsS P ops S oi v (a.put oj.dst u) := fun a hy u =>
    hy.of_same (execOp_put oi hsi a oj.dst u h3) (wanted_put oi a oj.dst u h3)
  have keepD : ∀ d, YieldsS P ops S oi v { a with defers := d :: a.defers } := fun d => hy.of_same rfl rfl
  unfold wpOp at *
  simp only [hj] at *
  rw [wanted_put oj a oi.dst v h1] at h
  split
  · rename_i hw
    simp only [hw, if_true] at h
    rcases h with h | ⟨hasks, hlets⟩
    case inr => exact .inr ⟨by unfold Oper.asks at *; rw [execOp_put oj hsj a oi.dst v h1] at hasks; exact hasks, hlets⟩
    refine .inl ?_
    unfold Oper.wp at *
    rw [execOp_put oj hsj a oi.dst v h1] at h
    generalize (execOp a.eval oj).run P w = r at *
    cases r with
    | ok n w' =>
      cases n <;> simp only [Oper.upon] at h ⊢
      case value u => exact ⟨keep a hy u, by rw [← Act.put_comm a v u h2]; exact h⟩
      case skip => exact ⟨keep a hy _, by rw [← Act.put_comm a v undef h2]; exact h⟩
      case defer d =>
        refine ⟨keep _ (keepD d) _, ?_⟩
        rw [← Act.put_comm _ v undef h2, ← Act.put_defers]
        exact h
      case enter f args =>
        refine Calls.mono h fun e w'' he => ?_
        cases e with
        | returned u => exact ⟨keep a hy u, by rw [← Act.put_comm a v u h2]; exact he⟩
        | panicked c => exact hQ _ _ _ he
        | outgrown => exact he
      case row row args => exact Rows.mono h fun u w'' he => ⟨keep a hy u, by rw [← Act.put_comm a v u h2]; exact he⟩
    | halt x w' =>
      cases x <;> simp only [Oper.upon] at h ⊢
      case panic u => exact hQ _ _ _ h
  · rename_i hw
    simp only [hw] at h
    exact ⟨keep a hy _, by rw [← Act.put_comm a v undef h2]; exact h⟩

/-- An operation that yields in every world may be taken first. -/
theorem wpAnyK_firstW {i : Nat} {oi : Oper} {v : Value} (hi : ops[i]? = some oi) (hsel : ∀ (j : Nat) (o : Oper) cs b, ops[j]? = some o → o.op ≠ .select cs b)
    (hQ : ∀ c (a : Act) (i : Nat) (o : Oper) v w, ops[i]? = some o → Q (.panic c) (a.put o.dst v) w → Q (.panic c) a w) :
    ∀ (f : Nat) (listed : Array Bool) (a : Act) (w : World),
      (∀ j oj, ops[j]? = some oj → j ≠ i → listed.getD j true = false → (∀ e ∈ oj.after, Region.binds md e = true → e.on ≠ i) → oi.apart ops oj = true) →
      i ∈ Region.ready md ops listed → Yields P ops oi v a →
      wpAnyK P md ops Q S keep f (listed.setIfInBounds i true) (a.put oi.dst v) w → wpAnyK P md ops Q S keep (f + 1) listed a w := by
  intro f
  induction f with
  | zero =>
    intro listed a w _ hr hy H
    refine ⟨fun h => (by rw [h] at hr; cases hr), fun j hj => ?_⟩
    by_cases hji : j = i
    · subst hji; exact hy.wpOp hi ⟨fun _ h => h, H⟩
    · have := ready_mono hj hji
      rw [H.1] at this
      cases this
  | succ f ih =>
    intro listed a w hfree hr hy H
    refine ⟨fun h => (by rw [h] at hr; cases hr), fun j hj => ?_⟩
    by_cases hji : j = i
    · subst hji; exact hy.wpOp hi ⟨fun _ h => h, H⟩
    · have h1 := H.2 j (ready_mono hj hji)
      obtain ⟨hjun, oj, hoj, hall⟩ := mem_ready.1 hj
      have hun := (mem_ready.1 hr).1
      have hnot : ∀ e ∈ oj.after, Region.binds md e = true → e.on ≠ i := fun e he hb heq => by
        have h1 := hall e he hb
        rw [heq, getD_both hun] at h1
        cases h1
      have h2 := wpOp_put hoj (hfree j oj hoj hji hjun hnot) (fun cs b => hsel i oi cs b hi) (fun cs b => hsel j oj cs b hoj) (fun c a w h => hQ c a i oi _ w hi h) hy h1
      have hfree' : ∀ k ok, ops[k]? = some ok → k ≠ i → (listed.setIfInBounds j true).getD k true = false →
          (∀ e ∈ ok.after, Region.binds md e = true → e.on ≠ i) → oi.apart ops ok = true := fun k ok hk hki hun hno => by
        refine hfree k ok hk hki ?_ hno
        by_cases hjk : j = k
        · subst hjk; exact hjun
        · rw [getD_set_ne true hjk] at hun; exact hun
      refine wpOp_mono (fun a' w' h3 => ⟨h3.2.1, ih (listed.setIfInBounds j true) a' w' hfree' (ready_mono hr (Ne.symm hji)) h3.1 ?_⟩) h2
      rw [Array.setIfInBounds_comm _ _ hji]
      exact h3.2.2

/-- An operation that yields in every world that meets S may be taken first, if what can come up ahead of it keeps S. -/
theorem wpAnyK_firstR {i : Nat} {oi : Oper} {v : Value} (hi : ops[i]? = some oi) (hsel : ∀ (j : Nat) (o : Oper) cs b, ops[j]? = some o → o.op ≠ .select cs b)
    (hQ : ∀ c (a : Act) (i : Nat) (o : Oper) v w, ops[i]? = some o → Q (.panic c) (a.put o.dst v) w → Q (.panic c) a w)
    (hkeep : ∀ t, t < ops.size → keep t = false → waitsB md ops i ops.size t = true) :
    ∀ (f : Nat) (listed : Array Bool) (a : Act) (w : World), Closed md ops listed →
      (∀ j oj, ops[j]? = some oj → j ≠ i → listed.getD j true = false → (∀ e ∈ oj.after, Region.binds md e = true → e.on ≠ i) → oi.apart ops oj = true) →
      i ∈ Region.ready md ops listed → YieldsS P ops S oi v a → S w →
      wpAnyK P md ops Q S keep f (listed.setIfInBounds i true) (a.put oi.dst v) w → wpAnyK P md ops Q S keep (f + 1) listed a w := by
  intro f
  induction f with
  | zero =>
    intro listed a w _ _ hr hy hS H
    refine ⟨fun h => (by rw [h] at hr; cases hr), fun j hj => ?_⟩
    by_cases hji : j = i
    · subst hji; exact hy.wpOp hi hS ⟨fun _ h => h, H⟩
    · have := ready_mono hj hji
      rw [H.1] at this
      cases this
  | succ f ih =>
    intro listed a w inv hfree hr hy hS H
    refine ⟨fun h => (by rw [h] at hr; cases hr), fun j hj => ?_⟩
    by_cases hji : j = i
    · subst hji; exact hy.wpOp hi hS ⟨fun _ h => h, H⟩
    · have h1 := H.2 j (ready_mono hj hji)
      obtain ⟨hjun, oj, hoj, hall⟩ := mem_ready.1 hj
      have hun := (mem_ready.1 hr).1
      have hnot : ∀ e ∈ oj.after, Region.binds md e = true → e.on ≠ i := fun e he hb heq => by
        have h1 := hall e he hb
        rw [heq, getD_both hun] at h1
        cases h1
      have hkj : keep j = true := by
        cases hk : keep j with
        | true => rfl
        | false =>
          have hlt : j < ops.size := (Array.getElem?_eq_some_iff.1 hoj).1
          have := waits_listed inv _ j (hkeep j hlt hk) ⟨oj, hoj, hall⟩
          rw [getD_both hun] at this
          cases this
      have h2 := wpOp_putS hoj (hfree j oj hoj hji hjun hnot) (fun cs b => hsel i oi cs b hi) (fun cs b => hsel j oj cs b hoj) (fun c a w h => hQ c a i oi _ w hi h) hy h1
      have hfree' : ∀ k ok, ops[k]? = some ok → k ≠ i → (listed.setIfInBounds j true).getD k true = false →
          (∀ e ∈ ok.after, Region.binds md e = true → e.on ≠ i) → oi.apart ops ok = true := fun k ok hk hki hun hno => by
        refine hfree k ok hk hki ?_ hno
        by_cases hjk : j = k
        · subst hjk; exact hjun
        · rw [getD_set_ne true hjk] at hun; exact hun
      refine wpOp_mono (fun a' w' h3 => ⟨h3.2.1, ih (listed.setIfInBounds j true) a' w' (inv.set hj) hfree' (ready_mono hr (Ne.symm hji)) h3.1 (h3.2.1 hkj hS) ?_⟩) h2
      rw [Array.setIfInBounds_comm _ _ hji]
      exact h3.2.2

/-- The steps: (0, o): it yields in whatever world; (1, o): in every world that meets S; (2, o): it is carried out now, and keeps S. -/
def wpSteps (P : Program) (ops : Array Oper) (Q : Exit → Act → World → Prop) (S : World → Prop) (K : Act → World → Prop) : List (Nat × Oper) → Act → World → Prop
  | [], a, w => K a w
  | (0, o) :: rest, a, w => ∃ v, Yields P ops o v a ∧ wpSteps P ops Q S K rest (a.put o.dst v) w
  | (1, o) :: rest, a, w => ∃ v, YieldsS P ops S o v a ∧ wpSteps P ops Q S K rest (a.put o.dst v) w
  | (_ + 2, o) :: rest, a, w => (if Region.wanted o (yielded ops a.tmps) then o.wp P a w (fun a' w' => S w' ∧ wpSteps P ops Q S K rest a' w') Q ∨ (o.asks P a w ∧ LetsOut Q) else (S w ∧ wpSteps P ops Q S K rest (a.put o.dst undef) w))

theorem wpSteps_nil {K : Act → World → Prop} {a : Act} {w : World} (h : K a w) : wpSteps P ops Q S K [] a w := h
theorem wpSteps_W {K : Act → World → Prop} {o : Oper} {rest : List (Nat × Oper)} {a : Act} {w : World} {v : Value} (hg : o.guard = none) (hy : ∀ x, (execOp a.eval o).run P x = .ok (.value v) x) (h : wpSteps P ops Q S K rest (a.put o.dst v) w) : wpSteps P ops Q S K ((0, o) :: rest) a w :=
  ⟨v, Or.inl ⟨by simp [Region.wanted, hg], hy⟩, h⟩
theorem wpSteps_Wg {K : Act → World → Prop} {o : Oper} {rest : List (Nat × Oper)} {a : Act} {w : World} {v : Value} (hg : Region.wanted o (yielded ops a.tmps) = true) (hy : ∀ x, (execOp a.eval o).run P x = .ok (.value v) x) (h : wpSteps P ops Q S K rest (a.put o.dst v) w) : wpSteps P ops Q S K ((0, o) :: rest) a w :=
  ⟨v, Or.inl ⟨hg, hy⟩, h⟩
theorem wpSteps_Wn {K : Act → World → Prop} {o : Oper} {rest : List (Nat × Oper)} {a : Act} {w : World} (hg : Region.wanted o (yielded ops a.tmps) = false) (h : wpSteps P ops Q S K rest (a.put o.dst undef) w) : wpSteps P ops Q S K ((0, o) :: rest) a w :=
  ⟨undef, Or.inr ⟨hg, rfl⟩, h⟩
theorem wpSteps_R {K : Act → World → Prop} {o : Oper} {rest : List (Nat × Oper)} {a : Act} {w : World} {v : Value} (hg : o.guard = none) (hy : ∀ x, S x → (execOp a.eval o).run P x = .ok (.value v) x) (h : wpSteps P ops Q S K rest (a.put o.dst v) w) : wpSteps P ops Q S K ((1, o) :: rest) a w :=
  ⟨v, Or.inl ⟨by simp [Region.wanted, hg], fun x hx => Or.inl (hy x hx)⟩, h⟩
theorem wpSteps_Rg {K : Act → World → Prop} {o : Oper} {rest : List (Nat × Oper)} {a : Act} {w : World} {v : Value} (hg : Region.wanted o (yielded ops a.tmps) = true) (hy : ∀ x, S x → (execOp a.eval o).run P x = .ok (.value v) x) (h : wpSteps P ops Q S K rest (a.put o.dst v) w) : wpSteps P ops Q S K ((1, o) :: rest) a w :=
  ⟨v, Or.inl ⟨hg, fun x hx => Or.inl (hy x hx)⟩, h⟩
theorem wpSteps_Rn {K : Act → World → Prop} {o : Oper} {rest : List (Nat × Oper)} {a : Act} {w : World} (hg : Region.wanted o (yielded ops a.tmps) = false) (h : wpSteps P ops Q S K rest (a.put o.dst undef) w) : wpSteps P ops Q S K ((1, o) :: rest) a w :=
  ⟨undef, Or.inr ⟨hg, rfl⟩, h⟩
/-- A call that only computes. -/
theorem wpSteps_C {K : Act → World → Prop} {o : Oper} {rest : List (Nat × Oper)} {a : Act} {w : World} {v : Value} {f : FuncId} {args : Array Value} (hg : Region.wanted o (yielded ops a.tmps) = true) (hy : ∀ x, S x → (execOp a.eval o).run P x = .ok (.enter f args) x) (hc : ∀ x, S x → Calls P f args x (fun e w' => e = .returned v ∧ w' = x)) (h : wpSteps P ops Q S K rest (a.put o.dst v) w) : wpSteps P ops Q S K ((1, o) :: rest) a w :=
  ⟨v, Or.inl ⟨hg, fun x hx => Or.inr ⟨f, args, hy x hx, hc x hx⟩⟩, h⟩
theorem wpSteps_M {K : Act → World → Prop} {o : Oper} {rest : List (Nat × Oper)} {a : Act} {w : World} (hg : Region.wanted o (yielded ops a.tmps) = true)
    (h : ∀ C : Act → World → Prop, (∀ a' w', S w' → wpSteps P ops Q S K rest a' w' → C a' w') → o.wp P a w C Q) : wpSteps P ops Q S K ((2, o) :: rest) a w := by
  unfold wpSteps
  rw [if_pos hg]
  exact Or.inl (h _ fun _ _ h1 h2 => ⟨h1, h2⟩)
theorem wpSteps_Mn {K : Act → World → Prop} {o : Oper} {rest : List (Nat × Oper)} {a : Act} {w : World} (hg : Region.wanted o (yielded ops a.tmps) = false) (hS : S w)
    (h : wpSteps P ops Q S K rest (a.put o.dst undef) w) : wpSteps P ops Q S K ((2, o) :: rest) a w := by
  unfold wpSteps
  rw [if_neg (by rw [hg]; exact Bool.false_ne_true)]
  exact ⟨hS, h⟩

/-! The closed test. -/
def seqL (md : Region.Mode) (ops : Array Oper) : List Nat → Array Bool → Bool
  | [], listed => (Region.ready md ops listed).isEmpty
  | k :: l, listed => decide (Region.ready md ops listed = [k]) && seqL md ops l (listed.setIfInBounds k true)
def stepL (md : Region.Mode) (ops : Array Oper) (ts : List Nat) : List (Nat × Nat) → Array Bool → Bool
  | [], listed => seqL md ops ts listed
  | (0, k) :: l, listed => (Region.ready md ops listed).contains k && Region.free md ops listed k && stepL md ops ts l (listed.setIfInBounds k true)
  | (1, k) :: l, listed => (Region.ready md ops listed).contains k && Region.free md ops listed k && stepL md ops ts l (listed.setIfInBounds k true)
  | (_ + 2, k) :: l, listed => decide (Region.ready md ops listed = [k]) && stepL md ops ts l (listed.setIfInBounds k true)
/-- Who is in the tail? -/
def keepB (ts : List Nat) (i : Nat) : Bool := !ts.contains i
def lexB (md : Region.Mode) (ops : Array Oper) (hs : List (Nat × Nat)) (ts : List Nat) : Bool :=
  Region.noSelect ops && stepL md ops ts hs (Array.replicate ops.size false) && (hs.all fun p => !(p.1 == 1) || ts.all fun t => waitsB md ops p.2 ops.size t) &&
    ((hs.map (·.2) ++ ts).all fun i => decide (i < ops.size)) && decide (hs.length + ts.length = ops.size)

def pickO (l : List Oper) : List Nat → List Oper
  | [] => []
  | i :: is => match l[i]? with
    | some o => o :: pickO l is
    | none => pickO l is
def pickH (l : List Oper) : List (Nat × Nat) → List (Nat × Oper)
  | [] => []
  | (b, i) :: is => match l[i]? with
    | some o => (b, o) :: pickH l is
    | none => pickH l is

theorem wpAnyK_tail : ∀ (ts : List Nat) (listed : Array Bool) (a : Act) (w : World), (∀ t ∈ ts, t < ops.size ∧ keep t = false) → seqL md ops ts listed = true →
    wpList P ops Q (pickO ops.toList ts) a w → wpAnyK P md ops Q S keep ts.length listed a w
  | [], listed, a, w, _, hB, h => ⟨by simpa [seqL] using hB, h⟩
  | t :: ts, listed, a, w, hlt, hB, h => by
    obtain ⟨ht, hk⟩ := hlt t (by simp)
    have h0 : ops[t]? = some ops[t] := by simp [ht]
    have h0' : ops.toList[t]? = some ops[t] := by simp [ht]
    simp only [seqL, Bool.and_eq_true, decide_eq_true_eq] at hB
    simp only [pickO, h0'] at h
    refine ⟨fun h1 => (by rw [hB.1] at h1; cases h1), fun i hi => ?_⟩
    rw [hB.1] at hi
    have hit : i = t := by simpa using hi
    subst hit
    have hw : wpOp P ops Q i (wpList P ops Q (pickO ops.toList ts)) a w := by unfold wpOp; simp only [h0]; exact h
    exact wpOp_mono (fun a' w' h' => ⟨fun hk' => (by rw [hk] at hk'; cases hk'), wpAnyK_tail ts _ a' w' (fun t ht => hlt t (by simp [ht])) hB.2 h'⟩) hw

theorem wpAnyK_lex {ts : List Nat} (hsel : Region.noSelect ops = true) (hQ : ∀ c (a : Act) (i : Nat) (o : Oper) v w, ops[i]? = some o → Q (.panic c) (a.put o.dst v) w → Q (.panic c) a w)
    (hkeep : ∀ t, t < ops.size → keep t = false → t ∈ ts) (hts : ∀ t ∈ ts, t < ops.size ∧ keep t = false) :
    ∀ (hs : List (Nat × Nat)) (listed : Array Bool) (a : Act) (w : World), S w → (∀ p ∈ hs, p.2 < ops.size) → (∀ p ∈ hs, p.1 = 1 → ∀ t ∈ ts, waitsB md ops p.2 ops.size t = true) → Closed md ops listed →
    stepL md ops ts hs listed = true →
    wpSteps P ops Q S (fun a'' w'' => wpList P ops Q (pickO ops.toList ts) a'' w'') (pickH ops.toList hs) a w →
    wpAnyK P md ops Q S keep (hs.length + ts.length) listed a w
  | [], listed, a, w, _, _, _, _, hB, h => by
    rw [List.length_nil, Nat.zero_add]
    exact wpAnyK_tail ts listed a w hts hB h
  | (0, k) :: hs, listed, a, w, hS, hlt, hwt, inv, hB, h => by
    have hk := hlt (0, k) (by simp)
    have h0 : ops[k]? = some ops[k] := by simp [show k < ops.size from hk]
    have h0' : ops.toList[k]? = some ops[k] := by simp [show k < ops.size from hk]
    simp only [stepL, Bool.and_eq_true] at hB
    obtain ⟨⟨hr, hf⟩, hB'⟩ := hB
    have hr' : k ∈ Region.ready md ops listed := by simpa using hr
    simp only [pickH, h0'] at h
    rw [List.length_cons, show hs.length + 1 + ts.length = (hs.length + ts.length) + 1 by omega]
    obtain ⟨v, hy, hK⟩ := h
    have ih := wpAnyK_lex hsel hQ hkeep hts hs (listed.setIfInBounds k true) (a.put ops[k].dst v) w hS (fun p hp => hlt p (by simp [hp])) (fun p hp => hwt p (by simp [hp])) (inv.set hr') hB' hK
    exact wpAnyK_firstW h0 (Region.noSelect_spec hsel) hQ _ listed a w (Region.free_spec h0 hf) hr' hy ih
  | (1, k) :: hs, listed, a, w, hS, hlt, hwt, inv, hB, h => by
    have hk := hlt (1, k) (by simp)
    have h0 : ops[k]? = some ops[k] := by simp [show k < ops.size from hk]
    have h0' : ops.toList[k]? = some ops[k] := by simp [show k < ops.size from hk]
    simp only [stepL, Bool.and_eq_true] at hB
    obtain ⟨⟨hr, hf⟩, hB'⟩ := hB
    have hr' : k ∈ Region.ready md ops listed := by simpa using hr
    simp only [pickH, h0'] at h
    rw [List.length_cons, show hs.length + 1 + ts.length = (hs.length + ts.length) + 1 by omega]
    obtain ⟨v, hy, hK⟩ := h
    have ih := wpAnyK_lex hsel hQ hkeep hts hs (listed.setIfInBounds k true) (a.put ops[k].dst v) w hS (fun p hp => hlt p (by simp [hp])) (fun p hp => hwt p (by simp [hp])) (inv.set hr') hB' hK
    exact wpAnyK_firstR h0 (Region.noSelect_spec hsel) hQ (fun t ht hkt => hwt (1, k) (by simp) rfl t (hkeep t ht hkt)) _ listed a w inv (Region.free_spec h0 hf) hr' hy hS ih
  | (n + 2, k) :: hs, listed, a, w, hS, hlt, hwt, inv, hB, h => by
    have hk := hlt (n + 2, k) (by simp)
    have h0 : ops[k]? = some ops[k] := by simp [show k < ops.size from hk]
    have h0' : ops.toList[k]? = some ops[k] := by simp [show k < ops.size from hk]
    simp only [stepL, Bool.and_eq_true, decide_eq_true_eq] at hB
    simp only [pickH, h0'] at h
    rw [List.length_cons, show hs.length + 1 + ts.length = (hs.length + ts.length) + 1 by omega]
    refine ⟨fun h1 => (by rw [hB.1] at h1; cases h1), fun i hi => ?_⟩
    have hi0 := hi
    rw [hB.1] at hi
    have hit : i = k := by simpa using hi
    subst hit
    have hw : wpOp P ops Q i (fun a' w' => S w' ∧ wpSteps P ops Q S (fun a'' w'' => wpList P ops Q (pickO ops.toList ts) a'' w'') (pickH ops.toList hs) a' w') a w := by
      unfold wpOp
      simp only [h0]
      unfold wpSteps at h
      split
      · rename_i hwd; rw [if_pos hwd] at h; exact h
      · rename_i hwd; rw [if_neg hwd] at h; exact h
    exact wpOp_mono (fun a' w' h' => ⟨fun _ _ => h'.1, wpAnyK_lex hsel hQ hkeep hts hs _ a' w' h'.1 (fun p hp => hlt p (by simp [hp])) (fun p hp => hwt p (by simp [hp])) (inv.set hi0) hB.2 h'.2⟩) hw

/-- THE LAW. -/
theorem wp_region_lexD {id : Nat} {a : Act} {w : World} {l : List Oper} (hs : List (Nat × Nat)) (ts : List Nat) (S : World → Prop) (hm : P.follows .mixedOrders = true) (hB : lexB .any l.toArray hs ts = true)
    (hQ : ∀ c (a : Act) (i : Nat) (o : Oper) v w, l.toArray[i]? = some o → Q (.panic c) (a.put o.dst v) w → Q (.panic c) a w) (hS : S w.drew)
    (h : wpSteps P l.toArray Q S (fun a'' w'' => wpList P l.toArray Q (pickO l ts) a'' w'') (pickH l hs) a w.drew) : (Code.region id l.toArray true).wp P Q a w := by
  simp only [lexB, Bool.and_eq_true, decide_eq_true_eq] at hB
  obtain ⟨⟨⟨⟨hsel, hfirst⟩, hwt⟩, hlt⟩, hsize⟩ := hB
  have hlt' := fun i hi => of_decide_eq_true (List.all_eq_true.1 hlt i hi)
  have inv0 : Closed .any l.toArray (Array.replicate l.toArray.size false) :=
    ⟨by simp, fun j oj _ hl => (by rw [getD_replicate_false] at hl; cases hl)⟩
  have hkeep : ∀ t, t < l.toArray.size → keepB ts t = false → t ∈ ts := fun t _ h => by simpa [keepB] using h
  have hts : ∀ t ∈ ts, t < l.toArray.size ∧ keepB ts t = false := fun t ht => ⟨hlt' t (by simp [ht]), by simp [keepB, ht]⟩
  have H := wpAnyK_lex (md := .any) (keep := keepB ts) hsel hQ hkeep hts hs _ a w.drew hS (fun p hp => hlt' p.2 (by simp only [List.mem_append, List.mem_map]; exact Or.inl ⟨p, hp, rfl⟩))
    (fun p hp hpt t ht => by
      have h1 := List.all_eq_true.1 hwt p hp
      rw [hpt] at h1
      simp only [BEq.rfl, Bool.not_true, Bool.false_or] at h1
      exact List.all_eq_true.1 h1 t ht) inv0 hfirst h
  rw [hsize] at H
  exact wp_region_any hm (wpAny_of_K _ _ _ _ H)

theorem wp_region_lex {id : Nat} {a : Act} {w : World} {l : List Oper} (hs : List (Nat × Nat)) (ts : List Nat) (S : World → Prop) (hm : P.follows .mixedOrders = true) (hB : lexB .any l.toArray hs ts = true)
    (hQ : ∀ c a d v w, Q (.panic c) (Act.put a d v) w → Q (.panic c) a w) (hS : S w.drew)
    (h : wpSteps P l.toArray Q S (fun a'' w'' => wpList P l.toArray Q (pickO l ts) a'' w'') (pickH l hs) a w.drew) : (Code.region id l.toArray true).wp P Q a w :=
  wp_region_lexD hs ts S hm hB (fun c a _ o v w _ h => hQ c a o.dst v w h) hS h

/-- The load of a struct. -/
theorem run_exec_load {o : Oper} {a : Act} {w : World} (ty : TypeId) (x : Operand) (ho : o.op = .load ty x) (p : Addr) (hx : a.eval x = .pointer (some p)) (cs : List Value) (d : TypeDesc) (hc : ∀ j v, cs[j]? = some v → w.cell? (p.add j) = some v)
    (hu : P.underlying ty = some d) (hd : (match d with | .struct _ | .array _ _ => true | _ => false) = true) (hi : (P.info? ty).map (·.size) = some cs.length) :
    (execOp a.eval o).run P w = .ok (.value (.agg cs.toArray)) w := by
  unfold execOp
  simp only [ho, hx, Instr.loadAt, Instr.sureAddr, Sem.run_bind, Sem.run_pure, Result.andThen_ok, run_loadVar_at w p ty cs d hc hu hd hi]

theorem rl {o : Oper} {a : Act} {w : World} {ty : TypeId} {x : Operand} {p : Addr} {cs : List Value} (hc : ∀ j v, cs[j]? = some v → w.cell? (p.add j) = some v) (ho : o.op = .load ty x) (hx : a.eval x = .pointer (some p)) (hk : ldB P ty cs.length = true) : (execOp a.eval o).run P w = .ok (.value (.agg cs.toArray)) w := by
  obtain ⟨d, h1, h2, h3⟩ := ldB_spec hk
  refine run_exec_load ty x ho p hx cs d hc h1 ?_ h3
  cases d <;> first | rfl | cases h2

/-! The same, said shortly. -/
theorem pA : (∀ (a : Act) (i : Nat) (v : Value), a.put (some i) v = { a with tmps := a.tmps.setIfInBounds i v }) ∧ (∀ (a : Act) (v : Value), a.put none v = a) ∧
    (∀ (l : List Value) (i : Nat) (v : Value), l.toArray.setIfInBounds i v = (l.set i v).toArray) ∧ (∀ (x : Value) (l : List Value) (v : Value), (x :: l).set 0 v = v :: l) ∧
    (∀ (x : Value) (l : List Value) (n : Nat) (v : Value), (x :: l).set (n + 1) v = x :: l.set n v) :=
  ⟨fun _ _ _ => rfl, fun _ _ => rfl, fun _ _ _ => List.setIfInBounds_toArray .., fun _ _ _ => rfl, fun _ _ _ _ => rfl⟩
theorem sW {K : Act → World → Prop} {o : Oper} {rest : List (Nat × Oper)} {a : Act} {w : World} {v : Value} (hg : Region.wanted o (yielded ops a.tmps) = true) (hy : ∀ x, (execOp a.eval o).run P x = .ok (.value v) x) (h : wpSteps P ops Q S K rest (a.put o.dst v) w) : wpSteps P ops Q S K ((0, o) :: rest) a w := wpSteps_Wg hg hy h
theorem sR {K : Act → World → Prop} {o : Oper} {rest : List (Nat × Oper)} {a : Act} {w : World} {v : Value} (hg : Region.wanted o (yielded ops a.tmps) = true) (hy : ∀ x, S x → (execOp a.eval o).run P x = .ok (.value v) x) (h : wpSteps P ops Q S K rest (a.put o.dst v) w) : wpSteps P ops Q S K ((1, o) :: rest) a w := wpSteps_Rg hg hy h
theorem sB {K : Act → World → Prop} {b : Nat} {o : Oper} {rest : List (Nat × Oper)} {a : Act} {w : World} {v : Value} (hb : Nat.ble b 1 = true) (hg : Region.wanted o (yielded ops a.tmps) = true) (hy : ∀ x, (b = 1 → S x) → (execOp a.eval o).run P x = .ok (.value v) x) (h : wpSteps P ops Q S K rest (a.put o.dst v) w) : wpSteps P ops Q S K ((b, o) :: rest) a w := by
  rcases b with _ | _ | b
  · exact sW hg (fun x => hy x (fun e => by cases e)) h
  · exact sR hg (fun x hx => hy x (fun _ => hx)) h
  · cases hb
theorem qP (hq : ∀ c (a : Act) t w, Q (.panic c) { a with tmps := t } w = Q (.panic c) a w) : ∀ c a d v w, Q (.panic c) (Act.put a d v) w → Q (.panic c) a w := by
  intro c a d v w h
  cases d
  · exact h
  · rw [← hq c a _ w]; exact h
def pickB : List Oper → List Nat → List (Nat × Oper)
  | _, [] => []
  | [], _ :: _ => []
  | o :: l, b :: bs => (b, o) :: pickB l bs
def tailB : List Oper → List Nat → List Oper
  | l, [] => l
  | [], _ :: _ => []
  | _ :: l, _ :: bs => tailB l bs
def hsB : List Nat → Nat → List (Nat × Nat)
  | [], _ => []
  | b :: bs, k => (b, k) :: hsB bs (k + 1)
theorem pickH_hsB : ∀ (bs : List Nat) (r l : List Oper), bs.length ≤ l.length → pickH (r ++ l) (hsB bs r.length) = pickB l bs
  | [], _, l, _ => by cases l <;> rfl
  | b :: bs, r, [], h => by simp at h
  | b :: bs, r, o :: l, h => by
    have h1 : (r ++ o :: l)[r.length]? = some o := by simp
    have ih := pickH_hsB bs (r ++ [o]) l (by simpa using h)
    simp only [List.append_assoc, List.singleton_append, List.length_append, List.length_singleton] at ih
    simp only [hsB, pickH, h1, pickB, ih]
theorem tailB_drop : ∀ (bs : List Nat) (l : List Oper), tailB l bs = l.drop bs.length
  | [], l => by cases l <;> rfl
  | _ :: _, [] => by simp [tailB]
  | _ :: bs, _ :: l => by simp [tailB, tailB_drop bs l]
theorem pickO_drop : ∀ (m : Nat) (r l : List Oper), l.length = m → pickO (r ++ l) (List.range' r.length m) = l
  | 0, r, l, h => by
    have : l = [] := List.eq_nil_of_length_eq_zero h
    subst this; rfl
  | m + 1, r, [], h => by simp at h
  | m + 1, r, o :: l, h => by
    have h1 : (r ++ o :: l)[r.length]? = some o := by simp
    have ih := pickO_drop m (r ++ [o]) l (by simpa using h)
    simp only [List.append_assoc, List.singleton_append, List.length_append, List.length_singleton] at ih
    simp only [List.range'_succ, pickO, h1, ih]
def rlxB (P : Program) (l : List Oper) (bs : List Nat) : Bool := P.follows .mixedOrders && decide (bs.length ≤ l.length) && lexB .any l.toArray (hsB bs 0) (List.range' bs.length (l.length - bs.length))
theorem rlx {id : Nat} {a : Act} {w : World} {l : List Oper} (bs : List Nat) (S : World → Prop) (hB : rlxB P l bs = true)
    (hQ : ∀ c (a : Act) t w, Q (.panic c) { a with tmps := t } w = Q (.panic c) a w) (hS : S w.drew)
    (h : wpSteps P l.toArray Q S (fun a'' w'' => wpList P l.toArray Q (tailB l bs) a'' w'') (pickB l bs) a w.drew) : (Code.region id l.toArray true).wp P Q a w := by
  simp only [rlxB, Bool.and_eq_true, decide_eq_true_eq] at hB
  obtain ⟨⟨hm, hl⟩, hB⟩ := hB
  refine wp_region_lex (hsB bs 0) (List.range' bs.length (l.length - bs.length)) S hm hB (qP hQ) hS ?_
  have e1 := pickH_hsB bs [] l hl
  have e2 := pickO_drop (l.length - bs.length) (l.take bs.length) (l.drop bs.length) (by simp)
  rw [List.take_append_drop, List.length_take, Nat.min_eq_left hl] at e2
  simp only [List.nil_append, List.length_nil] at e1
  rw [e1, e2, ← tailB_drop]
  exact h
theorem rlxE {id : Nat} {a : Act} {w : World} {l : List Oper} (bs : List Nat) (hB : rlxB P l bs = true)
    (hQ : ∀ c (a : Act) t w, Q (.panic c) { a with tmps := t } w = Q (.panic c) a w)
    (h : wpSteps P l.toArray Q (fun x => x = w.drew) (fun a'' w'' => wpList P l.toArray Q (tailB l bs) a'' w'') (pickB l bs) a w.drew) : (Code.region id l.toArray true).wp P Q a w := rlx bs (fun x => x = w.drew) hB hQ rfl h

end
end Go.Proofs.YtbbdgokdfhdpiaaGreatDoor
