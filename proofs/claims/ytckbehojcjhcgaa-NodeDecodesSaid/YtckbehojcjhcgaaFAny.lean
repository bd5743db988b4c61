/- A region that draws its order, met by what each operation leaves: each has a property of its own, which lasts; when all have come up, all properties hold. No Go program here. -/
import Derived.Orders
import Derived.Below
import Derived.WalkKit
import Derived.OrdersIn
namespace Go.Proofs.Ytckbehojcjhcgaa.Fra
open Go.RowKit

/-- Each operation has a place of its own in the frame, and waits for earlier ones only. -/
def placed (ops : Array Oper) (size : Nat) : Bool :=
  (List.range ops.size).all fun i => match ops[i]? with
    | none => false
    | some o => (match o.dst with
      | none => false
      | some t => decide (t < size) && (List.range ops.size).all fun j => decide (i = j) || (match ops[j]? with | none => true | some o' => o'.dst != some t)) &&
      o.after.all fun e => decide (e.on < i)
theorem placed_one {ops : Array Oper} {size i : Nat} {o : Oper} (h : placed ops size = true) (hi : ops[i]? = some o) :
    ∃ t, o.dst = some t ∧ t < size ∧ (∀ j o', ops[j]? = some o' → i ≠ j → o'.dst ≠ some t) ∧ ∀ e ∈ o.after, e.on < i := by
  have hlt : i < ops.size := (Array.getElem?_eq_some_iff.1 hi).1
  unfold placed at h
  rw [List.all_eq_true] at h
  have h1 := h i (List.mem_range.2 hlt)
  rw [hi] at h1
  simp only [Bool.and_eq_true] at h1
  obtain ⟨h2, h3⟩ := h1
  cases hd : o.dst with
  | none => rw [hd] at h2; cases h2
  | some t =>
    rw [hd] at h2
    simp only [Bool.and_eq_true, decide_eq_true_eq, List.all_eq_true] at h2
    refine ⟨t, rfl, h2.1, fun j o' hj hne => ?_, fun e he => ?_⟩
    · have h4 := h2.2 j (List.mem_range.2 (Array.getElem?_eq_some_iff.1 hj).1)
      rw [hj] at h4
      simpa [hne] using h4
    · rw [Array.all_eq_true_iff_forall_mem] at h3
      exact of_decide_eq_true (h3 e he)

theorem eval_put_same {a : Act} {t : Nat} {v : Value} (h : t < a.tmps.size) : (a.put (some t) v).eval (.tmp t) = v := by
  simp [Act.put, Act.eval, h]

structure Kept (ops : Array Oper) (a0 : Act) (w0 : World) (Φ : Nat → Value → World → Prop) (listed : Array Bool) (a : Act) (w : World) : Prop where
  below : Below w0.heap.size w0 w
  defers : a.defers = a0.defers
  size : a.tmps.size = a0.tmps.size
  frame : ∀ t : Nat, (∀ (i : Nat) (o : Oper), ops[i]? = some o → o.dst ≠ some t) → a.eval (.tmp t) = a0.eval (.tmp t)
  done : ∀ (i : Nat) (o : Oper) (t : Nat), ops[i]? = some o → o.dst = some t → listed.getD i false = true → Φ i (a.eval (.tmp t)) w
/-- What an operation leaves. -/
def Leaves (o : Oper) (φ : Value → World → Prop) (a : Act) (w : World) (a' : Act) (w' : World) : Prop := ∃ v, a' = a.put o.dst v ∧ φ v w' ∧ Below w.heap.size w w'

variable {P : Program} {md : Region.Mode} {ops : Array Oper} {Q : Exit → Act → World → Prop}
theorem kept_next {a0 : Act} {w0 : World} {Φ : Nat → Value → World → Prop} {listed : Array Bool} {a a' : Act} {w w' : World} {i : Nat} {o : Oper}
    (stab : ∀ (i : Nat) (v : Value) (w w' : World), Below w.heap.size w w' → Φ i v w → Φ i v w') (hp : placed ops a0.tmps.size = true) (hi : ops[i]? = some o) (h : Kept ops a0 w0 Φ listed a w)
    (hl : Leaves o (Φ i) a w a' w') : Kept ops a0 w0 Φ (listed.setIfInBounds i true) a' w' := by
  obtain ⟨v, rfl, hv, hb⟩ := hl
  obtain ⟨t, ht, hts, hdist, _⟩ := placed_one hp hi
  have hmid : Below w0.heap.size w0 w' := h.below.trans (hb.mono h.below.size)
  refine ⟨hmid, by rw [ht]; exact h.defers, by rw [ht]; simp only [Act.put, Array.size_setIfInBounds]; exact h.size, fun t' ht' => ?_, fun j o' t' hj hd hlj => ?_⟩
  · rw [Act.eval_put (fun d hd e => by
      injection e with e
      exact ht' i o hi (by rw [e]; exact hd))]
    exact h.frame t' ht'
  · by_cases hij : i = j
    · subst hij
      have : o' = o := Option.some.inj (hj.symm.trans hi)
      subst this
      have : t' = t := Option.some.inj (hd.symm.trans ht)
      subst this
      rw [ht, eval_put_same (by rw [h.size]; exact hts)]
      exact hv
    · rw [getD_set_ne false hij] at hlj
      have hne : t' ≠ t := fun e => hdist j o' hj hij (by rw [hd, e])
      rw [Act.eval_put (fun d hd' e => by
        injection e with e
        rw [ht] at hd'
        injection hd' with hd'
        exact hne (by rw [e, hd']))]
      exact stab j _ w w' hb (h.done j o' t' hj hd hlj)

theorem ready_all {listed : Array Bool} {size : Nat} (hp : placed ops size = true) (hs : listed.size = ops.size) (hr : Region.ready md ops listed = []) : ∀ i, i < ops.size → listed.getD i false = true := by
  intro i
  induction i using Nat.strongRecOn with
  | ind i ih =>
    intro hi
    obtain ⟨o, ho⟩ : ∃ o, ops[i]? = some o := ⟨_, Array.getElem?_eq_getElem hi⟩
    obtain ⟨_, _, _, _, hback⟩ := placed_one hp ho
    cases hv : listed.getD i false with
    | true => rfl
    | false =>
      exfalso
      have hlt : i < listed.size := by omega
      have hm : i ∈ Region.ready md ops listed := mem_ready.2 ⟨by
        rw [← hv]
        simp [Array.getD, hlt], o, ho, fun e he _ => ih e.on (hback e he) (by have := hback e he; omega)⟩
      rw [hr] at hm
      cases hm
def unl (listed : Array Bool) : Nat := listed.toList.count false
theorem unl_set {listed : Array Bool} {i : Nat} (h : listed.getD i true = false) : unl (listed.setIfInBounds i true) + 1 = unl listed := by
  have hlt : i < listed.size := by
    rcases Nat.lt_or_ge i listed.size with h' | h'
    · exact h'
    · simp [Array.getElem?_eq_none h'] at h
  have hv : listed.toList[i]'(by simpa using hlt) = false := by
    simpa [Array.getD, hlt] using h
  have hpos : 0 < listed.toList.count false := List.count_pos_iff.2 (by rw [← hv]; exact List.getElem_mem _)
  unfold unl
  rw [Array.toList_setIfInBounds, List.count_set (by simpa using hlt), hv]
  have e1 : (if (false == false) = true then 1 else 0) = 1 := rfl
  have e2 : (if (true == false) = true then 1 else 0) = 0 := rfl
  rw [e1, e2]
  omega
theorem unl_zero {listed : Array Bool} (h : unl listed = 0) (i : Nat) (hi : i < listed.size) : listed.getD i false = true := by
  cases hv : listed.getD i false with
  | true => rfl
  | false =>
    exfalso
    have : listed.toList[i]'(by simpa using hi) = false := by simpa [Array.getD, hi] using hv
    exact List.count_eq_zero.1 h (by rw [← this]; exact List.getElem_mem _)
theorem all_unl {listed : Array Bool} (h : ∀ i, i < listed.size → listed.getD i false = true) : unl listed = 0 := by
  unfold unl
  rw [List.count_eq_zero]
  intro hm
  obtain ⟨i, hi, hv⟩ := List.getElem_of_mem hm
  have hlt : i < listed.size := by simpa using hi
  have := h i hlt
  simp [Array.getD, hlt] at this
  simp [this] at hv

/-- THE LAW. -/
theorem wpAny_by {a0 : Act} {w0 : World} (Φ : Nat → Value → World → Prop) (stab : ∀ (i : Nat) (v : Value) (w w' : World), Below w.heap.size w w' → Φ i v w → Φ i v w') (hp : placed ops a0.tmps.size = true)
    (step : ∀ (i : Nat) (o : Oper) (listed : Array Bool) (a : Act) (w : World), ops[i]? = some o → Kept ops a0 w0 Φ listed a w → (∀ e ∈ o.after, Region.binds md e = true → listed.getD e.on false = true) → wpOp P ops Q i (Leaves o (Φ i) a w) a w)
    (fin : ∀ (listed : Array Bool) (a : Act) (w : World), Kept ops a0 w0 Φ listed a w → (∀ i, i < ops.size → listed.getD i false = true) → Q .normal a w) :
    ∀ (fuel : Nat) (listed : Array Bool) (a : Act) (w : World), listed.size = ops.size → unl listed = fuel → Kept ops a0 w0 Φ listed a w → wpAny P md ops Q fuel listed a w := by
  intro fuel
  induction fuel with
  | zero =>
    intro listed a w hs hu hk
    have hall : ∀ i, i < ops.size → listed.getD i false = true := fun i hi => unl_zero hu i (by omega)
    refine ⟨?_, fin listed a w hk hall⟩
    rw [List.eq_nil_iff_forall_not_mem]
    intro i hi
    rw [mem_ready] at hi
    obtain ⟨h0, o, ho, _⟩ := hi
    have hlt : i < listed.size := by rw [hs]; exact (Array.getElem?_eq_some_iff.1 ho).1
    have := unl_zero hu i hlt
    simp [Array.getD, hlt] at this h0
    rw [this] at h0
    cases h0
  | succ fuel ih =>
    intro listed a w hs hu hk
    refine ⟨fun hr => ?_, fun i hi => ?_⟩
    · have := all_unl (listed := listed) (fun i hi => ready_all hp hs hr i (by omega))
      omega
    · have hi' := hi
      rw [mem_ready] at hi'
      obtain ⟨h0, o, ho, hall⟩ := hi'
      refine wpOp_mono (fun a' w' hl => ?_) (step i o listed a w ho hk hall)
      exact ih _ a' w' (by simp [hs]) (by have := unl_set h0; omega) (kept_next stab hp ho hk hl)
/-- THE LAW, at a region. -/
theorem wp_region_by {id : Nat} {a : Act} {w : World} (hm : P.follows .mixedOrders = true) (Φ : Nat → Value → World → Prop) (stab : ∀ (i : Nat) (v : Value) (w w' : World), Below w.heap.size w w' → Φ i v w → Φ i v w') (hp : placed ops a.tmps.size = true)
    (step : ∀ (i : Nat) (o : Oper) (listed : Array Bool) (a' : Act) (w' : World), ops[i]? = some o → Kept ops a w Φ listed a' w' → (∀ e ∈ o.after, Region.binds .any e = true → listed.getD e.on false = true) → wpOp P ops Q i (Leaves o (Φ i) a' w') a' w')
    (fin : ∀ (listed : Array Bool) (a' : Act) (w' : World), Kept ops a w Φ listed a' w' → (∀ i, i < ops.size → listed.getD i false = true) → Q .normal a' w') : (Code.region id ops true).wp P Q a w := by
  refine wp_region_any hm (wpAny_by (a0 := a) (w0 := w) Φ stab hp step fin _ _ _ _ (by simp) ?_ ?_)
  · unfold unl
    simp
  · refine ⟨⟨rfl, rfl, rfl, Nat.le_refl _, fun _ _ => rfl⟩, rfl, rfl, fun _ _ => rfl, fun i o t hi _ hl => ?_⟩
    exfalso
    have hlt := (Array.getElem?_eq_some_iff.1 hi).1
    simp [hlt] at hl

/-! What operations leave. -/
structure Left where
  holds : Value → World → Prop
  stab : ∀ (v : Value) (w w' : World), Below w.heap.size w w' → holds v w → holds v w'
def Left.val (x : Value) : Left := ⟨fun v _ => v = x, fun _ _ _ _ h => h⟩
def Phi (L : List Left) (i : Nat) (v : Value) (w : World) : Prop := match L[i]? with
  | none => True
  | some p => p.holds v w
theorem phi_stab (L : List Left) (i : Nat) (v : Value) (w w' : World) (hb : Below w.heap.size w w') (h : Phi L i v w) : Phi L i v w' := by
  unfold Phi at h ⊢
  cases hl : L[i]? with
  | none => trivial
  | some p =>
    rw [hl] at h
    exact p.stab v w w' hb h
theorem wpOp_of {i : Nat} {o : Oper} {a : Act} {w : World} {K : Act → World → Prop} (hi : ops[i]? = some o) (hw : Region.wanted o (yielded ops a.tmps) = true) (h : o.wp P a w K Q) : wpOp P ops Q i K a w := by
  unfold wpOp
  simp only [hi, hw, if_true]
  exact .inl h
theorem wanted_of {o : Oper} {a : Act} {j t : Nat} {b : Bool} (hg : o.guard = some (j, b)) (hj : ((ops[j]?).bind (·.dst)) = some t) (h : a.eval (.tmp t) = .bool b) : Region.wanted o (yielded ops a.tmps) = true := by
  have h' : a.tmps[t]? = some (.bool b) := by
    unfold Act.eval at h
    cases ht : a.tmps[t]? with
    | none => simp [Array.getD] at h; split at h <;> simp_all [undef]
    | some v => simp [ht] at h; rw [h]
  unfold Region.wanted
  rw [hg]
  simp [yielded, hj, h']
theorem wp_value {o : Oper} {a : Act} {w : World} {v : Value} {φ : Value → World → Prop} (hr : (execOp a.eval o).run P w = .ok (.value v) w) (h : φ v w) : o.wp P a w (Leaves o φ a w) Q := by
  unfold Oper.wp
  rw [hr]
  exact ⟨v, rfl, h, Below.refl _ _⟩
theorem frame_of {t : Nat} (h : (ops.all fun o => o.dst != some t) = true) (i : Nat) (o : Oper) (hi : ops[i]? = some o) : o.dst ≠ some t := by
  rw [Array.all_eq_true_iff_forall_mem] at h
  have := h o (Array.mem_of_getElem? hi)
  simpa using this

/-! A region whose last operation stores. -/
/-- As placed, but for the last operation, which has no place. -/
def placedL (ops : Array Oper) (size : Nat) : Bool :=
  decide (0 < ops.size) && (match ops[ops.size - 1]? with | none => false | some o => o.dst == none && o.after.all fun e => decide (e.on < ops.size - 1)) && placed (ops.pop) size
theorem pop_at {ops : Array Oper} {i : Nat} {o : Oper} (hi : ops[i]? = some o) (h : i < ops.size - 1) : ops.pop[i]? = some o := by
  rw [Array.getElem?_pop, if_pos h]; exact hi
theorem getD_set_mono {listed : Array Bool} {i j : Nat} (h : listed.getD j false = true) : (listed.setIfInBounds i true).getD j false = true := by
  by_cases hij : i = j
  · subst hij
    have : i < listed.size := by
      rcases Nat.lt_or_ge i listed.size with h' | h'
      · exact h'
      · simp [Array.getD, Nat.not_lt.2 h'] at h
    simp [Array.getD, this]
  · rw [getD_set_ne false hij]; exact h
theorem wpAnyIn_full {F : Fence} {n : Nat} {listed : Array Bool} (h : ∀ i, i < listed.size → listed.getD i false = true) (fuel : Nat) {a : Act} {w : World} (hq : Q .normal a w) : wpAnyIn F n P md ops Q fuel listed a w := by
  have hr : Region.ready md ops listed = [] := by
    rw [List.eq_nil_iff_forall_not_mem]
    intro i hi
    rw [mem_ready] at hi
    obtain ⟨h0, o, ho, _⟩ := hi
    rcases Nat.lt_or_ge i listed.size with hlt | hge
    · have := h i hlt
      simp [Array.getD, hlt] at this h0
      rw [this] at h0
      cases h0
    · simp [Array.getElem?_eq_none hge] at h0
  cases fuel with
  | zero => exact ⟨hr, hq⟩
  | succ fuel => exact ⟨fun _ => hq, fun i hi => by rw [hr] at hi; cases hi⟩
theorem op_round {o : Oper} {a : Act} {w : World} {K : Act → World → Prop} {l n : Nat} (hd : ∀ c, o.op ≠ .defer c) (h : o.wp P a w K Q) : o.wpIn (Fence.wide.inRound l) n P a w K Q := by
  refine ⟨fun _ _ => trivial, ?_⟩
  rw [Oper.semAt_eq _ _ _ hd]
  unfold Oper.wp at h
  generalize (execOp a.eval o).run P w = r at h ⊢
  cases r with
  | ok x w' =>
    cases x with
    | value v => exact h
    | skip => exact h
    | defer d => exact h
    | enter f args => exact ⟨(fun h => by cases h), callsIn_wide.2 h⟩
    | row row args => exact ⟨(fun h => by cases h), fun c cs _ => let ⟨v, w', r, s⟩ := h c cs; ⟨v, w', r, stepsIn_wide.2 s⟩⟩
    | _ => exact h.elim
  | halt x w' => cases x <;> exact h
theorem wpOpIn_of {i : Nat} {o : Oper} {a : Act} {w : World} {K : Act → World → Prop} {l n : Nat} (hi : ops[i]? = some o) (hd : ∀ c, o.op ≠ .defer c) (hw : Region.wanted o (yielded ops a.tmps) = true) (h : o.wp P a w K Q) : wpOpIn (Fence.wide.inRound l) n P ops Q i K a w := by
  unfold wpOpIn
  simp only [hi, hw, if_true]
  exact op_round hd h
/-- What is listed had waited for. -/
def Closed (md : Region.Mode) (ops : Array Oper) (listed : Array Bool) : Prop :=
  listed.size = ops.size ∧ ∀ (i : Nat) (o : Oper), ops[i]? = some o → listed.getD i false = true → ∀ e ∈ o.after, Region.binds md e = true → listed.getD e.on false = true
theorem closed_next {listed : Array Bool} {i : Nat} {o : Oper} (ho : ops[i]? = some o) (h : Closed md ops listed) (hall : ∀ e ∈ o.after, Region.binds md e = true → listed.getD e.on false = true) : Closed md ops (listed.setIfInBounds i true) := by
  refine ⟨by rw [Array.size_setIfInBounds]; exact h.1, fun j o' hj hlj e he hb => ?_⟩
  by_cases hij : i = j
  · subst hij
    have : o' = o := Option.some.inj (hj.symm.trans ho)
    subst this
    exact getD_set_mono (hall e he hb)
  · rw [getD_set_ne false hij] at hlj
    exact getD_set_mono (h.2 j o' hj hlj e he hb)
/-- THE LAW, in a round: whatever each operation keeps. -/
theorem wpAnyIn_inv {l n : Nat} (Inv : Array Bool → Act → World → Prop) (hnd : ∀ (i : Nat) (o : Oper), ops[i]? = some o → ∀ c, o.op ≠ .defer c)
    (step : ∀ (i : Nat) (o : Oper) (listed : Array Bool) (a : Act) (w : World), ops[i]? = some o → listed.getD i true = false → Closed md ops listed → (∀ e ∈ o.after, Region.binds md e = true → listed.getD e.on false = true) → Inv listed a w →
      Region.wanted o (yielded ops a.tmps) = true ∧ o.wp P a w (fun a' w' => Inv (listed.setIfInBounds i true) a' w') Q)
    (fin : ∀ (listed : Array Bool) (a : Act) (w : World), (∀ i, i < ops.size → listed.getD i false = true) → Inv listed a w → Q .normal a w)
    (back : ∀ (i : Nat) (o : Oper), ops[i]? = some o → ∀ e ∈ o.after, e.on < i) :
    ∀ (fuel : Nat) (listed : Array Bool) (a : Act) (w : World), unl listed = fuel → Closed md ops listed → Inv listed a w → wpAnyIn (Fence.wide.inRound l) n P md ops Q fuel listed a w := by
  intro fuel
  induction fuel with
  | zero =>
    intro listed a w hu hc hi
    have hall : ∀ i, i < listed.size → listed.getD i false = true := fun i hi => unl_zero hu i hi
    exact wpAnyIn_full hall 0 (fin listed a w (fun i h => hall i (by rw [hc.1]; exact h)) hi)
  | succ fuel ih =>
    intro listed a w hu hc hinv
    refine ⟨fun hr => ?_, fun i hi => ?_⟩
    · exfalso
      have hpl : ∀ i, i < ops.size → listed.getD i false = true := by
        intro i
        induction i using Nat.strongRecOn with
        | ind i ihi =>
          intro hiN
          obtain ⟨o, ho⟩ : ∃ o, ops[i]? = some o := ⟨_, Array.getElem?_eq_getElem hiN⟩
          cases hv : listed.getD i false with
          | true => rfl
          | false =>
            exfalso
            have hlt : i < listed.size := by rw [hc.1]; exact hiN
            have hm : i ∈ Region.ready md ops listed := mem_ready.2 ⟨by
              rw [← hv]
              simp [Array.getD, hlt], o, ho, fun e he _ => ihi e.on (back i o ho e he) (by have := back i o ho e he; omega)⟩
            rw [hr] at hm
            cases hm
      have := all_unl (listed := listed) (fun i hi => hpl i (by rw [← hc.1]; exact hi))
      omega
    · have hi' := hi
      rw [mem_ready] at hi'
      obtain ⟨h0, o, ho, hall⟩ := hi'
      obtain ⟨hw, hwp⟩ := step i o listed a w ho h0 hc hall hinv
      refine wpOpIn_of ho (hnd i o ho) hw ?_
      refine Oper.wp_mono (fun a' w' h' => ?_) hwp
      exact ih _ a' w' (by have := unl_set h0; omega) (closed_next ho hc hall) h'
theorem wpIn_region_inv {id l n : Nat} {a : Act} {w : World} (hm : P.follows .mixedOrders = true) (Inv : Array Bool → Act → World → Prop) (hnd : ∀ (i : Nat) (o : Oper), ops[i]? = some o → ∀ c, o.op ≠ .defer c)
    (back : ∀ (i : Nat) (o : Oper), ops[i]? = some o → ∀ e ∈ o.after, e.on < i)
    (start : Inv (Array.replicate ops.size false) a { w with drawn := w.drawn + 1 })
    (step : ∀ (i : Nat) (o : Oper) (listed : Array Bool) (a' : Act) (w' : World), ops[i]? = some o → listed.getD i true = false → Closed .any ops listed → (∀ e ∈ o.after, Region.binds .any e = true → listed.getD e.on false = true) → Inv listed a' w' →
      Region.wanted o (yielded ops a'.tmps) = true ∧ o.wp P a' w' (fun a'' w'' => Inv (listed.setIfInBounds i true) a'' w'') Q)
    (fin : ∀ (listed : Array Bool) (a' : Act) (w' : World), (∀ i, i < ops.size → listed.getD i false = true) → Inv listed a' w' → Q .normal a' w') :
    (Code.region id ops true).wpIn (Fence.wide.inRound l) n P Q a w := by
  refine wpIn_region_any hm (wpAnyIn_inv Inv hnd step fin back _ _ _ _ ?_ ⟨by simp, ?_⟩ start)
  · unfold unl
    simp
  · intro i o hi hl
    exfalso
    have hlt := (Array.getElem?_eq_some_iff.1 hi).1
    simp [hlt] at hl

/-- A region of ten operations of which the eighth appends, and the last one stores what that gave. -/
def InvApp (ops : Array Oper) (a0 : Act) (w0 : World) (Φ : Nat → Value → World → Prop) (AP FP : Act → World → Prop) (t8 : Nat) (p : Value) (listed : Array Bool) (a : Act) (w : World) : Prop :=
  (listed.getD 7 false = false → listed.getD 9 false = false ∧ Kept ops.pop a0 w0 Φ listed a w) ∧
  (listed.getD 7 false = true → listed.getD 9 false = false → AP a w ∧ (listed.getD 8 false = true → a.eval (.tmp t8) = p)) ∧
  (listed.getD 7 false = true → listed.getD 9 false = true → FP a w)
theorem getD_tf {listed : Array Bool} {i : Nat} (h : listed.getD i true = false) : listed.getD i false = false := by
  rcases Nat.lt_or_ge i listed.size with h' | h'
  · simpa [Array.getD, h'] using h
  · simp [Array.getD, Nat.not_lt.2 h']
theorem getD_set_self {listed : Array Bool} {i : Nat} (h : listed.getD i true = false) : (listed.setIfInBounds i true).getD i false = true := by
  rcases Nat.lt_or_ge i listed.size with h' | h'
  · simp [Array.getD, h']
  · simp [Array.getD, Nat.not_lt.2 h'] at h
theorem wpIn_region_app {id l n t8 : Nat} {a0 : Act} {w0 : World} (hm : P.follows .mixedOrders = true) (Φ : Nat → Value → World → Prop) (stab : ∀ (i : Nat) (v : Value) (w w' : World), Below w.heap.size w w' → Φ i v w → Φ i v w') (hp : placed ops.pop a0.tmps.size = true) (hN : ops.size = 10)
    (hnd : ∀ (i : Nat) (o : Oper), ops[i]? = some o → ∀ c, o.op ≠ .defer c) (back : ∀ (i : Nat) (o : Oper), ops[i]? = some o → ∀ e ∈ o.after, e.on < i) (AP FP : Act → World → Prop) (p : Value)
    (h7 : ∀ listed, Closed .any ops listed → listed.getD 7 false = true → ∀ i, i < 7 → listed.getD i false = true)
    (h7' : ∀ listed, Closed .any ops listed → (∀ o, ops[7]? = some o → ∀ e ∈ o.after, Region.binds .any e = true → listed.getD e.on false = true) → ∀ i, i < 7 → listed.getD i false = true)
    (h9 : ∀ listed : Array Bool, (∀ o, ops[9]? = some o → ∀ e ∈ o.after, Region.binds .any e = true → listed.getD e.on false = true) → listed.getD 7 false = true ∧ listed.getD 8 false = true)
    (step : ∀ (i : Nat) (o : Oper) (listed : Array Bool) (a : Act) (w : World), i < 7 ∨ i = 8 → ops[i]? = some o → Kept ops.pop a0 w0 Φ listed a w → (∀ e ∈ o.after, Region.binds .any e = true → listed.getD e.on false = true) → Region.wanted o (yielded ops a.tmps) = true ∧ o.wp P a w (Leaves o (Φ i) a w) Q)
    (app : ∀ (o : Oper) (listed : Array Bool) (a : Act) (w : World), ops[7]? = some o → Kept ops.pop a0 w0 Φ listed a w → (∀ i, i < 7 → listed.getD i false = true) → Region.wanted o (yielded ops a.tmps) = true ∧ o.wp P a w (fun a' w' => AP a' w' ∧ (listed.getD 8 false = true → a'.eval (.tmp t8) = p)) Q)
    (step8 : ∀ (o : Oper) (a : Act) (w : World), ops[8]? = some o → AP a w → Region.wanted o (yielded ops a.tmps) = true ∧ o.wp P a w (fun a' w' => AP a' w' ∧ a'.eval (.tmp t8) = p) Q)
    (last : ∀ (o : Oper) (a : Act) (w : World), ops[9]? = some o → AP a w → a.eval (.tmp t8) = p → Region.wanted o (yielded ops a.tmps) = true ∧ o.wp P a w (fun a' w' => FP a' w') Q)
    (fin : ∀ (a : Act) (w : World), FP a w → Q .normal a w) : (Code.region id ops true).wpIn (Fence.wide.inRound l) n P Q a0 w0 := by
  refine wpIn_region_inv hm (InvApp ops a0 w0 Φ AP FP t8 p) hnd back ?_ ?_ ?_
  · refine ⟨fun _ => ⟨by simp [hN], ⟨rfl, rfl, rfl, Nat.le_refl _, fun _ _ => rfl⟩, rfl, rfl, fun _ _ => rfl, fun i o t hi _ hl => ?_⟩, fun h => ?_, fun h => ?_⟩
    · exfalso
      have hlt := (Array.getElem?_eq_some_iff.1 hi).1
      simp only [Array.size_pop] at hlt
      have h2 : i < ops.size := by omega
      simp [h2] at hl
    · simp [hN] at h
    · simp [hN] at h
  · intro i o listed a w ho h0 hc hdep hinv
    have hi : i < 10 := by rw [← hN]; exact (Array.getElem?_eq_some_iff.1 ho).1
    have h0' := getD_tf h0
    obtain ⟨i1, i2, i3⟩ := hinv
    by_cases hi7 : i < 7
    · have h7f : listed.getD 7 false = false := by
        cases h : listed.getD 7 false with
        | false => rfl
        | true =>
          have := h7 listed hc h i hi7
          rw [h0'] at this
          cases this
      obtain ⟨h9f, hk⟩ := i1 h7f
      obtain ⟨hw, hwp⟩ := step i o listed a w (.inl hi7) ho hk hdep
      refine ⟨hw, Oper.wp_mono (fun a' w' hl => ⟨fun _ => ⟨?_, kept_next stab hp (pop_at ho (by omega)) hk hl⟩, fun h => ?_, fun h => ?_⟩) hwp⟩
      · rw [getD_set_ne false (by omega)]; exact h9f
      · rw [getD_set_ne false (by omega), h7f] at h; cases h
      · rw [getD_set_ne false (by omega), h7f] at h; cases h
    · by_cases hi8 : i = 8
      · subst hi8
        cases h7f : listed.getD 7 false with
        | false =>
          obtain ⟨h9f, hk⟩ := i1 h7f
          obtain ⟨hw, hwp⟩ := step 8 o listed a w (.inr rfl) ho hk hdep
          refine ⟨hw, Oper.wp_mono (fun a' w' hl => ⟨fun _ => ⟨?_, kept_next stab hp (pop_at ho (by omega)) hk hl⟩, fun h => ?_, fun h => ?_⟩) hwp⟩
          · rw [getD_set_ne false (by omega)]; exact h9f
          · rw [getD_set_ne false (by omega), h7f] at h; cases h
          · rw [getD_set_ne false (by omega), h7f] at h; cases h
        | true =>
          have h9f : listed.getD 9 false = false := by
            cases h : listed.getD 9 false with
            | false => rfl
            | true =>
              obtain ⟨o9, ho9⟩ : ∃ o9, ops[9]? = some o9 := ⟨_, Array.getElem?_eq_getElem (by omega)⟩
              have := (h9 listed (fun o' ho' e he hb => hc.2 9 o' ho' h e he hb)).2
              rw [h0'] at this
              cases this
          obtain ⟨hA, _⟩ := i2 h7f h9f
          obtain ⟨hw, hwp⟩ := step8 o a w ho hA
          refine ⟨hw, Oper.wp_mono (fun a' w' hl => ⟨fun h => ?_, fun _ _ => ⟨hl.1, fun _ => hl.2⟩, fun _ h => ?_⟩) hwp⟩
          · rw [getD_set_ne false (by omega), h7f] at h; cases h
          · rw [getD_set_ne false (by omega), h9f] at h; cases h
      · by_cases hi9 : i = 9
        · subst hi9
          obtain ⟨h7f, h8f⟩ := h9 listed (fun o' ho' => by
            have : o' = o := Option.some.inj (ho'.symm.trans ho)
            subst this
            exact hdep)
          obtain ⟨hA, hv⟩ := i2 h7f h0'
          obtain ⟨hw, hwp⟩ := last o a w ho hA (hv h8f)
          refine ⟨hw, Oper.wp_mono (fun a' w' hl => ⟨fun h => ?_, fun _ h => ?_, fun _ _ => hl⟩) hwp⟩
          · rw [getD_set_ne false (by omega), h7f] at h; cases h
          · rw [getD_set_self h0] at h; cases h
        · obtain rfl : i = 7 := by omega
          obtain ⟨h9f, hk⟩ := i1 h0'
          obtain ⟨hw, hwp⟩ := app o listed a w ho hk (h7' listed hc (fun o' ho' => by
            have : o' = o := Option.some.inj (ho'.symm.trans ho)
            subst this
            exact hdep))
          refine ⟨hw, Oper.wp_mono (fun a' w' hl => ⟨fun h => ?_, fun _ _ => ⟨hl.1, fun h => hl.2 ?_⟩, fun _ h => ?_⟩) hwp⟩
          · rw [getD_set_self h0] at h; cases h
          · rw [getD_set_ne false (by omega), h9f] at h; cases h
          · rw [getD_set_ne false (by omega)] at h; exact h
  · intro listed a w hall hinv
    exact fin a w (hinv.2.2 (hall 7 (by omega)) (hall 9 (by omega)))

def noDefer (ops : Array Oper) : Bool := ops.all fun o => match o.op with | .defer _ => false | _ => true
theorem noDefer_spec {ops : Array Oper} (h : noDefer ops = true) (i : Nat) (o : Oper) (hi : ops[i]? = some o) (c : Call) : o.op ≠ .defer c := fun e => by
  unfold noDefer at h
  rw [Array.all_eq_true_iff_forall_mem] at h
  have := h o (Array.mem_of_getElem? hi)
  rw [e] at this
  cases this
def backs (ops : Array Oper) : Bool := (List.range ops.size).all fun i => match ops[i]? with | none => true | some o => o.after.all fun e => decide (e.on < i)
theorem backs_spec {ops : Array Oper} (h : backs ops = true) (i : Nat) (o : Oper) (hi : ops[i]? = some o) (e : Edge) (he : e ∈ o.after) : e.on < i := by
  unfold backs at h
  rw [List.all_eq_true] at h
  have h1 := h i (List.mem_range.2 (Array.getElem?_eq_some_iff.1 hi).1)
  rw [hi] at h1
  simp only at h1
  rw [Array.all_eq_true_iff_forall_mem] at h1
  exact of_decide_eq_true (h1 e he)
theorem ev {a : Act} {t : Nat} {v : Value} (h : a.eval (.tmp t) = v) : a.tmps[t]?.getD undef = v := by simpa [Act.eval] using h
theorem eval_put_ne {a : Act} {t t' : Nat} {v : Value} (h : t ≠ t') : (a.put (some t) v).eval (.tmp t') = a.eval (.tmp t') :=
  Act.eval_put (fun d hd e => h (by
    injection hd with hd
    injection e with e
    rw [hd]
    first | exact e | exact e.symm))

/-! The same out of rounds. -/
theorem wpAny_full {listed : Array Bool} (h : ∀ i, i < listed.size → listed.getD i false = true) (fuel : Nat) {a : Act} {w : World} (hq : Q .normal a w) : wpAny P md ops Q fuel listed a w := by
  have hr : Region.ready md ops listed = [] := by
    rw [List.eq_nil_iff_forall_not_mem]
    intro i hi
    rw [mem_ready] at hi
    obtain ⟨h0, o, ho, _⟩ := hi
    rcases Nat.lt_or_ge i listed.size with hlt | hge
    · have := h i hlt
      simp [Array.getD, hlt] at this h0
      rw [this] at h0
      cases h0
    · simp [Array.getElem?_eq_none hge] at h0
  cases fuel with
  | zero => exact ⟨hr, hq⟩
  | succ fuel => exact ⟨fun _ => hq, fun i hi => by rw [hr] at hi; cases hi⟩
theorem wpAny_inv (Inv : Array Bool → Act → World → Prop)
    (step : ∀ (i : Nat) (o : Oper) (listed : Array Bool) (a : Act) (w : World), ops[i]? = some o → listed.getD i true = false → Closed md ops listed → (∀ e ∈ o.after, Region.binds md e = true → listed.getD e.on false = true) → Inv listed a w →
      Region.wanted o (yielded ops a.tmps) = true ∧ o.wp P a w (fun a' w' => Inv (listed.setIfInBounds i true) a' w') Q)
    (fin : ∀ (listed : Array Bool) (a : Act) (w : World), (∀ i, i < ops.size → listed.getD i false = true) → Inv listed a w → Q .normal a w)
    (back : ∀ (i : Nat) (o : Oper), ops[i]? = some o → ∀ e ∈ o.after, Region.binds md e = true → e.on < i) :
    ∀ (fuel : Nat) (listed : Array Bool) (a : Act) (w : World), unl listed = fuel → Closed md ops listed → Inv listed a w → wpAny P md ops Q fuel listed a w := by
  intro fuel
  induction fuel with
  | zero =>
    intro listed a w hu hc hi
    have hall : ∀ i, i < listed.size → listed.getD i false = true := fun i hi => unl_zero hu i hi
    exact wpAny_full hall 0 (fin listed a w (fun i h => hall i (by rw [hc.1]; exact h)) hi)
  | succ fuel ih =>
    intro listed a w hu hc hinv
    refine ⟨fun hr => ?_, fun i hi => ?_⟩
    · exfalso
      have hpl : ∀ i, i < ops.size → listed.getD i false = true := by
        intro i
        induction i using Nat.strongRecOn with
        | ind i ihi =>
          intro hiN
          obtain ⟨o, ho⟩ : ∃ o, ops[i]? = some o := ⟨_, Array.getElem?_eq_getElem hiN⟩
          cases hv : listed.getD i false with
          | true => rfl
          | false =>
            exfalso
            have hlt : i < listed.size := by rw [hc.1]; exact hiN
            have hm : i ∈ Region.ready md ops listed := mem_ready.2 ⟨by
              rw [← hv]
              simp [Array.getD, hlt], o, ho, fun e he hbd => ihi e.on (back i o ho e he hbd) (by have := back i o ho e he hbd; omega)⟩
            rw [hr] at hm
            cases hm
      have := all_unl (listed := listed) (fun i hi => hpl i (by rw [← hc.1]; exact hi))
      omega
    · have hi' := hi
      rw [mem_ready] at hi'
      obtain ⟨h0, o, ho, hall⟩ := hi'
      obtain ⟨hw, hwp⟩ := step i o listed a w ho h0 hc hall hinv
      refine wpOp_of ho hw (Oper.wp_mono (fun a' w' h' => ?_) hwp)
      exact ih _ a' w' (by have := unl_set h0; omega) (closed_next ho hc hall) h'
theorem wp_region_inv {id : Nat} {a : Act} {w : World} (hm : P.follows .mixedOrders = true) (Inv : Array Bool → Act → World → Prop)
    (back : ∀ (i : Nat) (o : Oper), ops[i]? = some o → ∀ e ∈ o.after, Region.binds .any e = true → e.on < i)
    (start : Inv (Array.replicate ops.size false) a { w with drawn := w.drawn + 1 })
    (step : ∀ (i : Nat) (o : Oper) (listed : Array Bool) (a' : Act) (w' : World), ops[i]? = some o → listed.getD i true = false → Closed .any ops listed → (∀ e ∈ o.after, Region.binds .any e = true → listed.getD e.on false = true) → Inv listed a' w' →
      Region.wanted o (yielded ops a'.tmps) = true ∧ o.wp P a' w' (fun a'' w'' => Inv (listed.setIfInBounds i true) a'' w'') Q)
    (fin : ∀ (listed : Array Bool) (a' : Act) (w' : World), (∀ i, i < ops.size → listed.getD i false = true) → Inv listed a' w' → Q .normal a' w') :
    (Code.region id ops true).wp P Q a w := by
  refine wp_region_any hm (wpAny_inv Inv step fin back _ _ _ _ ?_ ⟨by simp, ?_⟩ start)
  · unfold unl
    simp
  · intro i o hi hl
    exfalso
    have hlt := (Array.getElem?_eq_some_iff.1 hi).1
    simp [hlt] at hl

/-- Each operation but one, which stores, has a place of its own in the frame. -/
def placedS (ops : Array Oper) (S size : Nat) : Bool :=
  (List.range ops.size).all fun i => match ops[i]? with
    | none => false
    | some o => if i = S then o.dst == none else (match o.dst with
      | none => false
      | some t => decide (t < size) && (List.range ops.size).all fun j => decide (i = j) || (match ops[j]? with | none => true | some o' => o'.dst != some t))
theorem placedS_one {ops : Array Oper} {S size i : Nat} {o : Oper} (h : placedS ops S size = true) (hi : ops[i]? = some o) (hS : i ≠ S) :
    ∃ t, o.dst = some t ∧ t < size ∧ ∀ (j : Nat) (o' : Oper), ops[j]? = some o' → i ≠ j → o'.dst ≠ some t := by
  have hlt : i < ops.size := (Array.getElem?_eq_some_iff.1 hi).1
  unfold placedS at h
  rw [List.all_eq_true] at h
  have h1 := h i (List.mem_range.2 hlt)
  rw [hi] at h1
  simp only [if_neg hS] at h1
  cases hd : o.dst with
  | none => rw [hd] at h1; cases h1
  | some t =>
    rw [hd] at h1
    simp only [Bool.and_eq_true, decide_eq_true_eq, List.all_eq_true] at h1
    refine ⟨t, rfl, h1.1, fun j o' hj hne => ?_⟩
    have h4 := h1.2 j (List.mem_range.2 (Array.getElem?_eq_some_iff.1 hj).1)
    rw [hj] at h4
    simpa [hne] using h4
theorem placedS_store {ops : Array Oper} {S size : Nat} {o : Oper} (h : placedS ops S size = true) (hi : ops[S]? = some o) : o.dst = none := by
  have hlt : S < ops.size := (Array.getElem?_eq_some_iff.1 hi).1
  unfold placedS at h
  rw [List.all_eq_true] at h
  have h1 := h S (List.mem_range.2 hlt)
  rw [hi] at h1
  simpa using h1
/-- What stands in the frame. -/
structure Fr (ops : Array Oper) (a0 : Act) (Φ : Nat → Value → Prop) (listed : Array Bool) (a : Act) : Prop where
  defers : a.defers = a0.defers
  size : a.tmps.size = a0.tmps.size
  frame : ∀ t : Nat, (∀ (i : Nat) (o : Oper), ops[i]? = some o → o.dst ≠ some t) → a.eval (.tmp t) = a0.eval (.tmp t)
  done : ∀ (i : Nat) (o : Oper) (t : Nat), ops[i]? = some o → o.dst = some t → listed.getD i false = true → Φ i (a.eval (.tmp t))
theorem fr_next {a0 a : Act} {Φ : Nat → Value → Prop} {Φ' : Nat → Value → Prop} {listed : Array Bool} {S i : Nat} {o : Oper} {v : Value} (hp : placedS ops S a0.tmps.size = true) (hi : ops[i]? = some o) (hS : i ≠ S) (h : Fr ops a0 Φ listed a)
    (hst : ∀ j v, Φ j v → Φ' j v) (hv : Φ' i v) : Fr ops a0 Φ' (listed.setIfInBounds i true) (a.put o.dst v) := by
  obtain ⟨t, ht, hts, hdist⟩ := placedS_one hp hi hS
  refine ⟨by rw [ht]; exact h.defers, by rw [ht]; simp only [Act.put, Array.size_setIfInBounds]; exact h.size, fun t' ht' => ?_, fun j o' t' hj hd hlj => ?_⟩
  · rw [Act.eval_put (fun d hd e => by
      injection e with e
      exact ht' i o hi (by rw [e]; exact hd))]
    exact h.frame t' ht'
  · by_cases hij : i = j
    · subst hij
      have : o' = o := Option.some.inj (hj.symm.trans hi)
      subst this
      have : t' = t := Option.some.inj (hd.symm.trans ht)
      subst this
      rw [ht, eval_put_same (by rw [h.size]; exact hts)]
      exact hv
    · rw [getD_set_ne false hij] at hlj
      have hne : t' ≠ t := fun e => hdist j o' hj hij (by rw [hd, e])
      rw [Act.eval_put (fun d hd' e => by
        injection e with e
        rw [ht] at hd'
        injection hd' with hd'
        exact hne (by rw [e, hd']))]
      exact hst j _ (h.done j o' t' hj hd hlj)
/-- A region of which one operation stores: before it each operation leaves something that lasts; behind it the world stays, and values stand in the frame. -/
def InvS (ops : Array Oper) (S X : Nat) (a0 : Act) (w0 : World) (Φ : Nat → Value → World → Prop) (Ψ : Nat → Value → Prop) (WF : Value → World → Prop) (listed : Array Bool) (a : Act) (w : World) : Prop :=
  (listed.getD S false = false → Below w0.heap.size w0 w ∧ Fr ops a0 (fun i v => Φ i v w) listed a) ∧ (listed.getD S false = true → WF (a.eval (.tmp X)) w ∧ Fr ops a0 Ψ listed a ∧ ∀ (i : Nat) (o : Oper), ops[i]? = some o → o.dst = some X → listed.getD i false = true)
theorem wp_region_store {id S X : Nat} {a0 : Act} {w0 : World} (hm : P.follows .mixedOrders = true) (Φ : Nat → Value → World → Prop) (stab : ∀ (i : Nat) (v : Value) (w w' : World), Below w.heap.size w w' → Φ i v w → Φ i v w') (Ψ : Nat → Value → Prop) (hΨ : ∀ i v w, Φ i v w → Ψ i v) (WF : Value → World → Prop)
    (hp : placedS ops S a0.tmps.size = true) (back : ∀ (i : Nat) (o : Oper), ops[i]? = some o → ∀ e ∈ o.after, Region.binds .any e = true → e.on < i)
    (step : ∀ (i : Nat) (o : Oper) (listed : Array Bool) (a : Act) (w : World), i ≠ S → ops[i]? = some o → Below w0.heap.size w0 w → Fr ops a0 (fun i v => Φ i v w) listed a → (∀ e ∈ o.after, Region.binds .any e = true → listed.getD e.on false = true) →
      Region.wanted o (yielded ops a.tmps) = true ∧ o.wp P a w (Leaves o (Φ i) a w) Q)
    (store : ∀ (o : Oper) (listed : Array Bool) (a : Act) (w : World), ops[S]? = some o → Closed .any ops listed → Below w0.heap.size w0 w → Fr ops a0 (fun i v => Φ i v w) listed a → (∀ e ∈ o.after, Region.binds .any e = true → listed.getD e.on false = true) →
      Region.wanted o (yielded ops a.tmps) = true ∧ o.wp P a w (fun a' w' => a' = a ∧ WF (a.eval (.tmp X)) w') Q ∧ ∀ (i : Nat) (o : Oper), ops[i]? = some o → o.dst = some X → listed.getD i false = true)
    (behind : ∀ (i : Nat) (o : Oper) (listed : Array Bool) (a : Act) (w : World), i ≠ S → ops[i]? = some o → listed.getD i true = false → listed.getD S false = true → Closed .any ops listed → WF (a.eval (.tmp X)) w → Fr ops a0 Ψ listed a → (∀ e ∈ o.after, Region.binds .any e = true → listed.getD e.on false = true) →
      Region.wanted o (yielded ops a.tmps) = true ∧ ∃ v, (execOp a.eval o).run P w = .ok (.value v) w ∧ Ψ i v)
    (fin : ∀ (listed : Array Bool) (a : Act) (w : World), (∀ i, i < ops.size → listed.getD i false = true) → WF (a.eval (.tmp X)) w → Fr ops a0 Ψ listed a → Q .normal a w)
    (hS : S < ops.size) : (Code.region id ops true).wp P Q a0 w0 := by
  refine wp_region_inv hm (InvS ops S X a0 w0 Φ Ψ WF) back ?_ ?_ ?_
  · refine ⟨fun _ => ⟨⟨rfl, rfl, rfl, Nat.le_refl _, fun _ _ => rfl⟩, rfl, rfl, fun _ _ => rfl, fun i o t hi _ hl => ?_⟩, fun h => ?_⟩
    · exfalso
      have hlt := (Array.getElem?_eq_some_iff.1 hi).1
      simp [hlt] at hl
    · simp [hS] at h
  · intro i o listed a w ho h0 hc hdep hinv
    obtain ⟨i1, i2⟩ := hinv
    by_cases hiS : i = S
    · subst hiS
      have h0' := getD_tf h0
      obtain ⟨hb, hf⟩ := i1 h0'
      obtain ⟨hw, hwp, hX⟩ := store o listed a w ho hc hb hf hdep
      refine ⟨hw, Oper.wp_mono (fun a' w' hl => ?_) hwp⟩
      obtain ⟨rfl, hwf⟩ := hl
      refine ⟨fun h => ?_, fun _ => ⟨hwf, ⟨hf.defers, hf.size, hf.frame, fun j o' t hj hd hlj => ?_⟩, fun j o' hj hd => getD_set_mono (hX j o' hj hd)⟩⟩
      · rw [getD_set_self h0] at h; cases h
      · by_cases hij : i = j
        · subst hij
          have : o' = o := Option.some.inj (hj.symm.trans ho)
          subst this
          rw [placedS_store hp ho] at hd
          cases hd
        · rw [getD_set_ne false hij] at hlj
          exact hΨ j _ _ (hf.done j o' t hj hd hlj)
    · cases hSl : listed.getD S false with
      | false =>
        obtain ⟨hb, hf⟩ := i1 hSl
        obtain ⟨hw, hwp⟩ := step i o listed a w hiS ho hb hf hdep
        refine ⟨hw, Oper.wp_mono (fun a' w' hl => ?_) hwp⟩
        obtain ⟨v, rfl, hv, hb'⟩ := hl
        refine ⟨fun _ => ⟨hb.trans (hb'.mono hb.size), fr_next hp ho hiS hf (fun j v h => stab j v _ _ hb' h) hv⟩, fun h => ?_⟩
        rw [getD_set_ne false hiS, hSl] at h; cases h
      | true =>
        obtain ⟨hwf, hf, hX⟩ := i2 hSl
        obtain ⟨hw, v, hr, hv⟩ := behind i o listed a w hiS ho h0 hSl hc hwf hf hdep
        refine ⟨hw, ?_⟩
        unfold Oper.wp
        rw [hr]
        obtain ⟨t, ht, _, _⟩ := placedS_one hp ho hiS
        have hne : t ≠ X := fun e => by
          have := hX i o ho (by rw [ht, e])
          rw [getD_tf h0] at this
          cases this
        have hev : (a.put o.dst v).eval (.tmp X) = a.eval (.tmp X) := by rw [ht]; exact eval_put_ne hne
        refine ⟨fun h => ?_, fun _ => ⟨by rw [hev]; exact hwf, fr_next hp ho hiS hf (fun _ _ h => h) hv, fun j o' hj hd => getD_set_mono (hX j o' hj hd)⟩⟩
        rw [getD_set_ne false hiS, hSl] at h; cases h
  · intro listed a w hall hinv
    obtain ⟨hwf, hf, _⟩ := hinv.2 (hall S hS)
    exact fin listed a w hall hwf hf
def backsB (ops : Array Oper) : Bool := (List.range ops.size).all fun i => match ops[i]? with | none => true | some o => o.after.all fun e => !Region.binds .any e || decide (e.on < i)
theorem backsB_spec {ops : Array Oper} (h : backsB ops = true) (i : Nat) (o : Oper) (hi : ops[i]? = some o) (e : Edge) (he : e ∈ o.after) (hb : Region.binds .any e = true) : e.on < i := by
  unfold backsB at h
  rw [List.all_eq_true] at h
  have h1 := h i (List.mem_range.2 (Array.getElem?_eq_some_iff.1 hi).1)
  rw [hi] at h1
  simp only at h1
  rw [Array.all_eq_true_iff_forall_mem] at h1
  have h2 := h1 e he
  rw [hb] at h2
  simpa using h2
end Go.Proofs.Ytckbehojcjhcgaa.Fra
