/- Contract: a drawn region in which some operations come one after the other. Conditions: none. -/
import Derived.Test.YtdhokgkihaiomaaDoorProg
import Derived.Laws.BitsAllLaws
import Derived.Tactics
import Derived.WalkKit
import Derived.Below
import Derived.Lib.Hide
import Derived.Lib.Walk
import Derived.Laws.ResultCell
import Derived.Deep.WholeRow
import Derived.Laws.Alloc2
import Derived.Laws.NewBlocks
import Derived.Maps.AppendAt
import Derived.Deep.AppendLies
import Derived.Laws.BytesArg
import Derived.Laws.OwnMore
import Derived.Lib.AppendZeros
import Derived.OwnWalk
import Derived.BigQuiet
import Derived.Deep.QuietTactic
import Derived.Lib.SlBytesConst
import Derived.LoopTactic
import Derived.Lib.AppendStr
import Derived.Orders
import Derived.OrdersIn
import Derived.StillTail
import GoSem.Op.String
import Derived.Deep.DeepCutAuto
import Derived.Laws.CopyOwn
import Derived.Deep.OwnRows
import Derived.OneCell
namespace Go.Proofs.YtdhokgkihaiomaaDoor.AnyC
open Go.RowKit
variable {P : Program} {md : Region.Mode} {ops : Array Oper} {Q : Exit → Act → World → Prop}

/-- Each operation has a place of its own in the frame, and waits for earlier ones only. -/
def placed (ops : Array Oper) (size : Nat) : Bool :=
  (List.range ops.size).all fun i => match ops[i]? with
    | none => false
    | some o => (match o.dst with
      | none => false
      | some t => decide (t < size) && (List.range ops.size).all fun j => decide (i = j) || (match ops[j]? with | none => true | some o' => o'.dst != some t)) &&
      o.after.all fun e => decide (e.on < i)
theorem placed_one {ops : Array Oper} {size i : Nat} {o : Oper} (h : placed ops size = true) (hi : ops[i]? = some o) :
    ∃ t, o.dst = some t ∧ t < size ∧ (∀ j o', ops[j]? = some o' → i ≠ j → o'.dst ≠ some t) ∧ ∀ e ∈ o.after, e.on < i := by
  have hlt : i < ops.size := (Array.getElem?_eq_some_iff.1 hi).1
  unfold placed at h
  rw [List.all_eq_true] at h
  have h1 := h i (List.mem_range.2 hlt)
  rw [hi] at h1
  simp only [Bool.and_eq_true] at h1
  obtain ⟨h2, h3⟩ := h1
  cases hd : o.dst with
  | none => rw [hd] at h2; cases h2
  | some t =>
    rw [hd] at h2
    simp only [Bool.and_eq_true, decide_eq_true_eq, List.all_eq_true] at h2
    refine ⟨t, rfl, h2.1, fun j o' hj hne => ?_, fun e he => ?_⟩
    · have h4 := h2.2 j (List.mem_range.2 (Array.getElem?_eq_some_iff.1 hj).1)
      rw [hj] at h4
      simpa [hne] using h4
    · rw [Array.all_eq_true_iff_forall_mem] at h3
      exact of_decide_eq_true (h3 e he)
theorem eval_put_same {a : Act} {t : Nat} {v : Value} (h : t < a.tmps.size) : (a.put (some t) v).eval (.tmp t) = v := by
  simp [Act.put, Act.eval, h]
structure Kept (ops : Array Oper) (a0 : Act) (w0 : World) (Φ : Nat → Value → World → Prop) (listed : Array Bool) (a : Act) (w : World) : Prop where
  below : Below w0.heap.size w0 w
  defers : a.defers = a0.defers
  size : a.tmps.size = a0.tmps.size
  frame : ∀ t : Nat, (∀ (i : Nat) (o : Oper), ops[i]? = some o → o.dst ≠ some t) → a.eval (.tmp t) = a0.eval (.tmp t)
  done : ∀ (i : Nat) (o : Oper) (t : Nat), ops[i]? = some o → o.dst = some t → listed.getD i false = true → Φ i (a.eval (.tmp t)) w
/-- What an operation leaves. -/
def Leaves (o : Oper) (φ : Value → World → Prop) (a : Act) (w : World) (a' : Act) (w' : World) : Prop := ∃ v, a' = a.put o.dst v ∧ φ v w' ∧ Below w.heap.size w w'
theorem kept_next {a0 : Act} {w0 : World} {Φ : Nat → Value → World → Prop} {listed : Array Bool} {a a' : Act} {w w' : World} {i : Nat} {o : Oper}
    (stab : ∀ (i : Nat) (v : Value) (w w' : World), Below w.heap.size w w' → Φ i v w → Φ i v w') (hp : placed ops a0.tmps.size = true) (hi : ops[i]? = some o) (h : Kept ops a0 w0 Φ listed a w)
    (hl : Leaves o (Φ i) a w a' w') : Kept ops a0 w0 Φ (listed.setIfInBounds i true) a' w' := by
  obtain ⟨v, rfl, hv, hb⟩ := hl
  obtain ⟨t, ht, hts, hdist, _⟩ := placed_one hp hi
  have hmid : Below w0.heap.size w0 w' := h.below.trans (hb.mono h.below.size)
  refine ⟨hmid, by rw [ht]; exact h.defers, by rw [ht]; simp only [Act.put, Array.size_setIfInBounds]; exact h.size, fun t' ht' => ?_, fun j o' t' hj hd hlj => ?_⟩
  · rw [Act.eval_put (fun d hd e => by
      injection e with e
      exact ht' i o hi (by rw [e]; exact hd))]
    exact h.frame t' ht'
  · by_cases hij : i = j
    · subst hij
      have : o' = o := Option.some.inj (hj.symm.trans hi)
      subst this
      have : t' = t := Option.some.inj (hd.symm.trans ht)
      subst this
      rw [ht, eval_put_same (by rw [h.size]; exact hts)]
      exact hv
    · rw [getD_set_ne false hij] at hlj
      have hne : t' ≠ t := fun e => hdist j o' hj hij (by rw [hd, e])
      rw [Act.eval_put (fun d hd' e => by
        injection e with e
        rw [ht] at hd'
        injection hd' with hd'
        exact hne (by rw [e, hd']))]
      exact stab j _ w w' hb (h.done j o' t' hj hd hlj)
theorem ready_all {listed : Array Bool} {size : Nat} (hp : placed ops size = true) (hs : listed.size = ops.size) (hr : Region.ready md ops listed = []) : ∀ i, i < ops.size → listed.getD i false = true := by
  intro i
  induction i using Nat.strongRecOn with
  | ind i ih =>
    intro hi
    obtain ⟨o, ho⟩ : ∃ o, ops[i]? = some o := ⟨_, Array.getElem?_eq_getElem hi⟩
    obtain ⟨_, _, _, _, hback⟩ := placed_one hp ho
    cases hv : listed.getD i false with
    | true => rfl
    | false =>
      exfalso
      have hlt : i < listed.size := by omega
      have hm : i ∈ Region.ready md ops listed := mem_ready.2 ⟨by
        rw [← hv]
        simp [Array.getD, hlt], o, ho, fun e he _ => ih e.on (hback e he) (by have := hback e he; omega)⟩
      rw [hr] at hm
      cases hm
def unl (listed : Array Bool) : Nat := listed.toList.count false
theorem unl_set {listed : Array Bool} {i : Nat} (h : listed.getD i true = false) : unl (listed.setIfInBounds i true) + 1 = unl listed := by
  have hlt : i < listed.size := by
    rcases Nat.lt_or_ge i listed.size with h' | h'
    · exact h'
    · simp [Array.getElem?_eq_none h'] at h
  have hv : listed.toList[i]'(by simpa using hlt) = false := by
    simpa [Array.getD, hlt] using h
  have hpos : 0 < listed.toList.count false := List.count_pos_iff.2 (by rw [← hv]; exact List.getElem_mem _)
  unfold unl
  rw [Array.toList_setIfInBounds, List.count_set (by simpa using hlt), hv]
  have e1 : (if (false == false) = true then 1 else 0) = 1 := rfl
  have e2 : (if (true == false) = true then 1 else 0) = 0 := rfl
  rw [e1, e2]
  omega
theorem unl_zero {listed : Array Bool} (h : unl listed = 0) (i : Nat) (hi : i < listed.size) : listed.getD i false = true := by
  cases hv : listed.getD i false with
  | true => rfl
  | false =>
    exfalso
    have : listed.toList[i]'(by simpa using hi) = false := by simpa [Array.getD, hi] using hv
    exact List.count_eq_zero.1 h (by rw [← this]; exact List.getElem_mem _)
theorem all_unl {listed : Array Bool} (h : ∀ i, i < listed.size → listed.getD i false = true) : unl listed = 0 := by
  unfold unl
  rw [List.count_eq_zero]
  intro hm
  obtain ⟨i, hi, hv⟩ := List.getElem_of_mem hm
  have hlt : i < listed.size := by simpa using hi
  have := h i hlt
  simp [Array.getD, hlt] at this
  simp [this] at hv
/-- THE LAW. -/
theorem wpAny_by {a0 : Act} {w0 : World} (Φ : Nat → Value → World → Prop) (stab : ∀ (i : Nat) (v : Value) (w w' : World), Below w.heap.size w w' → Φ i v w → Φ i v w') (hp : placed ops a0.tmps.size = true)
    (step : ∀ (i : Nat) (o : Oper) (listed : Array Bool) (a : Act) (w : World), ops[i]? = some o → Kept ops a0 w0 Φ listed a w → (∀ e ∈ o.after, Region.binds md e = true → listed.getD e.on false = true) → wpOp P ops Q i (Leaves o (Φ i) a w) a w)
    (fin : ∀ (listed : Array Bool) (a : Act) (w : World), Kept ops a0 w0 Φ listed a w → (∀ i, i < ops.size → listed.getD i false = true) → Q .normal a w) :
    ∀ (fuel : Nat) (listed : Array Bool) (a : Act) (w : World), listed.size = ops.size → unl listed = fuel → Kept ops a0 w0 Φ listed a w → wpAny P md ops Q fuel listed a w := by
  intro fuel
  induction fuel with
  | zero =>
    intro listed a w hs hu hk
    have hall : ∀ i, i < ops.size → listed.getD i false = true := fun i hi => unl_zero hu i (by omega)
    refine ⟨?_, fin listed a w hk hall⟩
    rw [List.eq_nil_iff_forall_not_mem]
    intro i hi
    rw [mem_ready] at hi
    obtain ⟨h0, o, ho, _⟩ := hi
    have hlt : i < listed.size := by rw [hs]; exact (Array.getElem?_eq_some_iff.1 ho).1
    have := unl_zero hu i hlt
    simp [Array.getD, hlt] at this h0
    rw [this] at h0
    cases h0
  | succ fuel ih =>
    intro listed a w hs hu hk
    refine ⟨fun hr => ?_, fun i hi => ?_⟩
    · have := all_unl (listed := listed) (fun i hi => ready_all hp hs hr i (by omega))
      omega
    · have hi' := hi
      rw [mem_ready] at hi'
      obtain ⟨h0, o, ho, hall⟩ := hi'
      refine wpOp_mono (fun a' w' hl => ?_) (step i o listed a w ho hk hall)
      exact ih _ a' w' (by simp [hs]) (by have := unl_set h0; omega) (kept_next stab hp ho hk hl)
/-- THE LAW, at a region. -/
theorem wp_region_by {id : Nat} {a : Act} {w : World} (hm : P.follows .mixedOrders = true) (Φ : Nat → Value → World → Prop) (stab : ∀ (i : Nat) (v : Value) (w w' : World), Below w.heap.size w w' → Φ i v w → Φ i v w') (hp : placed ops a.tmps.size = true)
    (step : ∀ (i : Nat) (o : Oper) (listed : Array Bool) (a' : Act) (w' : World), ops[i]? = some o → Kept ops a w Φ listed a' w' → (∀ e ∈ o.after, Region.binds .any e = true → listed.getD e.on false = true) → wpOp P ops Q i (Leaves o (Φ i) a' w') a' w')
    (fin : ∀ (listed : Array Bool) (a' : Act) (w' : World), Kept ops a w Φ listed a' w' → (∀ i, i < ops.size → listed.getD i false = true) → Q .normal a' w') : (Code.region id ops true).wp P Q a w := by
  refine wp_region_any hm (wpAny_by (a0 := a) (w0 := w) Φ stab hp step fin _ _ _ _ (by simp) ?_ ?_)
  · unfold unl
    simp
  · refine ⟨⟨rfl, rfl, rfl, Nat.le_refl _, fun _ _ => rfl⟩, rfl, rfl, fun _ _ => rfl, fun i o t hi _ hl => ?_⟩
    exfalso
    have hlt := (Array.getElem?_eq_some_iff.1 hi).1
    simp [hlt] at hl
structure Left where
  holds : Value → World → Prop
  stab : ∀ (v : Value) (w w' : World), Below w.heap.size w w' → holds v w → holds v w'
def Left.val (x : Value) : Left := ⟨fun v _ => v = x, fun _ _ _ _ h => h⟩
def Phi (L : List Left) (i : Nat) (v : Value) (w : World) : Prop := match L[i]? with
  | none => True
  | some p => p.holds v w
theorem phi_stab (L : List Left) (i : Nat) (v : Value) (w w' : World) (hb : Below w.heap.size w w') (h : Phi L i v w) : Phi L i v w' := by
  unfold Phi at h ⊢
  cases hl : L[i]? with
  | none => trivial
  | some p =>
    rw [hl] at h
    exact p.stab v w w' hb h
theorem wpOp_of {i : Nat} {o : Oper} {a : Act} {w : World} {K : Act → World → Prop} (hi : ops[i]? = some o) (hw : Region.wanted o (yielded ops a.tmps) = true) (h : o.wp P a w K Q) : wpOp P ops Q i K a w := by
  unfold wpOp
  simp only [hi, hw, if_true]
  exact .inl h
theorem wanted_of {o : Oper} {a : Act} {j t : Nat} {b : Bool} (hg : o.guard = some (j, b)) (hj : ((ops[j]?).bind (·.dst)) = some t) (h : a.eval (.tmp t) = .bool b) : Region.wanted o (yielded ops a.tmps) = true := by
  have h' : a.tmps[t]? = some (.bool b) := by
    unfold Act.eval at h
    cases ht : a.tmps[t]? with
    | none => simp [Array.getD] at h; split at h <;> simp_all [undef]
    | some v => simp [ht] at h; rw [h]
  unfold Region.wanted
  rw [hg]
  simp [yielded, hj, h']
theorem wp_value {o : Oper} {a : Act} {w : World} {v : Value} {φ : Value → World → Prop} (hr : (execOp a.eval o).run P w = .ok (.value v) w) (h : φ v w) : o.wp P a w (Leaves o φ a w) Q := by
  unfold Oper.wp
  rw [hr]
  exact ⟨v, rfl, h, Below.refl _ _⟩
theorem frame_of {t : Nat} (h : (ops.all fun o => o.dst != some t) = true) (i : Nat) (o : Oper) (hi : ops[i]? = some o) : o.dst ≠ some t := by
  rw [Array.all_eq_true_iff_forall_mem] at h
  have := h o (Array.mem_of_getElem? hi)
  simpa using this
theorem getD_set_mono {listed : Array Bool} {i j : Nat} (h : listed.getD j false = true) : (listed.setIfInBounds i true).getD j false = true := by
  by_cases hij : i = j
  · subst hij
    have : i < listed.size := by
      rcases Nat.lt_or_ge i listed.size with h' | h'
      · exact h'
      · simp [Array.getD, Nat.not_lt.2 h'] at h
    simp [Array.getD, this]
  · rw [getD_set_ne false hij]; exact h
/-- What is listed had waited for. -/
def Closed (md : Region.Mode) (ops : Array Oper) (listed : Array Bool) : Prop :=
  listed.size = ops.size ∧ ∀ (i : Nat) (o : Oper), ops[i]? = some o → listed.getD i false = true → ∀ e ∈ o.after, Region.binds md e = true → listed.getD e.on false = true
theorem closed_next {listed : Array Bool} {i : Nat} {o : Oper} (ho : ops[i]? = some o) (h : Closed md ops listed) (hall : ∀ e ∈ o.after, Region.binds md e = true → listed.getD e.on false = true) : Closed md ops (listed.setIfInBounds i true) := by
  refine ⟨by rw [Array.size_setIfInBounds]; exact h.1, fun j o' hj hlj e he hb => ?_⟩
  by_cases hij : i = j
  · subst hij
    have : o' = o := Option.some.inj (hj.symm.trans ho)
    subst this
    exact getD_set_mono (hall e he hb)
  · rw [getD_set_ne false hij] at hlj
    exact getD_set_mono (h.2 j o' hj hlj e he hb)
theorem getD_tf {listed : Array Bool} {i : Nat} (h : listed.getD i true = false) : listed.getD i false = false := by
  rcases Nat.lt_or_ge i listed.size with h' | h'
  · simpa [Array.getD, h'] using h
  · simp [Array.getD, Nat.not_lt.2 h']
theorem getD_set_self {listed : Array Bool} {i : Nat} (h : listed.getD i true = false) : (listed.setIfInBounds i true).getD i false = true := by
  rcases Nat.lt_or_ge i listed.size with h' | h'
  · simp [Array.getD, h']
  · simp [Array.getD, Nat.not_lt.2 h'] at h
theorem ev {a : Act} {t : Nat} {v : Value} (h : a.eval (.tmp t) = v) : a.tmps[t]?.getD undef = v := by simpa [Act.eval] using h
theorem wpAny_full {listed : Array Bool} (h : ∀ i, i < listed.size → listed.getD i false = true) (fuel : Nat) {a : Act} {w : World} (hq : Q .normal a w) : wpAny P md ops Q fuel listed a w := by
  have hr : Region.ready md ops listed = [] := by
    rw [List.eq_nil_iff_forall_not_mem]
    intro i hi
    rw [mem_ready] at hi
    obtain ⟨h0, o, ho, _⟩ := hi
    rcases Nat.lt_or_ge i listed.size with hlt | hge
    · have := h i hlt
      simp [Array.getD, hlt] at this h0
      rw [this] at h0
      cases h0
    · simp [Array.getElem?_eq_none hge] at h0
  cases fuel with
  | zero => exact ⟨hr, hq⟩
  | succ fuel => exact ⟨fun _ => hq, fun i hi => by rw [hr] at hi; cases hi⟩
theorem wpAny_inv (Inv : Array Bool → Act → World → Prop)
    (step : ∀ (i : Nat) (o : Oper) (listed : Array Bool) (a : Act) (w : World), ops[i]? = some o → listed.getD i true = false → Closed md ops listed → (∀ e ∈ o.after, Region.binds md e = true → listed.getD e.on false = true) → Inv listed a w →
      Region.wanted o (yielded ops a.tmps) = true ∧ o.wp P a w (fun a' w' => Inv (listed.setIfInBounds i true) a' w') Q)
    (fin : ∀ (listed : Array Bool) (a : Act) (w : World), (∀ i, i < ops.size → listed.getD i false = true) → Inv listed a w → Q .normal a w)
    (back : ∀ (i : Nat) (o : Oper), ops[i]? = some o → ∀ e ∈ o.after, Region.binds md e = true → e.on < i) :
    ∀ (fuel : Nat) (listed : Array Bool) (a : Act) (w : World), unl listed = fuel → Closed md ops listed → Inv listed a w → wpAny P md ops Q fuel listed a w := by
  intro fuel
  induction fuel with
  | zero =>
    intro listed a w hu hc hi
    have hall : ∀ i, i < listed.size → listed.getD i false = true := fun i hi => unl_zero hu i hi
    exact wpAny_full hall 0 (fin listed a w (fun i h => hall i (by rw [hc.1]; exact h)) hi)
  | succ fuel ih =>
    intro listed a w hu hc hinv
    refine ⟨fun hr => ?_, fun i hi => ?_⟩
    · exfalso
      have hpl : ∀ i, i < ops.size → listed.getD i false = true := by
        intro i
        induction i using Nat.strongRecOn with
        | ind i ihi =>
          intro hiN
          obtain ⟨o, ho⟩ : ∃ o, ops[i]? = some o := ⟨_, Array.getElem?_eq_getElem hiN⟩
          cases hv : listed.getD i false with
          | true => rfl
          | false =>
            exfalso
            have hlt : i < listed.size := by rw [hc.1]; exact hiN
            have hm : i ∈ Region.ready md ops listed := mem_ready.2 ⟨by
              rw [← hv]
              simp [Array.getD, hlt], o, ho, fun e he hbd => ihi e.on (back i o ho e he hbd) (by have := back i o ho e he hbd; omega)⟩
            rw [hr] at hm
            cases hm
      have := all_unl (listed := listed) (fun i hi => hpl i (by rw [← hc.1]; exact hi))
      omega
    · have hi' := hi
      rw [mem_ready] at hi'
      obtain ⟨h0, o, ho, hall⟩ := hi'
      obtain ⟨hw, hwp⟩ := step i o listed a w ho h0 hc hall hinv
      refine wpOp_of ho hw (Oper.wp_mono (fun a' w' h' => ?_) hwp)
      exact ih _ a' w' (by have := unl_set h0; omega) (closed_next ho hc hall) h'
theorem wp_region_inv {id : Nat} {a : Act} {w : World} (hm : P.follows .mixedOrders = true) (Inv : Array Bool → Act → World → Prop)
    (back : ∀ (i : Nat) (o : Oper), ops[i]? = some o → ∀ e ∈ o.after, Region.binds .any e = true → e.on < i)
    (start : Inv (Array.replicate ops.size false) a { w with drawn := w.drawn + 1 })
    (step : ∀ (i : Nat) (o : Oper) (listed : Array Bool) (a' : Act) (w' : World), ops[i]? = some o → listed.getD i true = false → Closed .any ops listed → (∀ e ∈ o.after, Region.binds .any e = true → listed.getD e.on false = true) → Inv listed a' w' →
      Region.wanted o (yielded ops a'.tmps) = true ∧ o.wp P a' w' (fun a'' w'' => Inv (listed.setIfInBounds i true) a'' w'') Q)
    (fin : ∀ (listed : Array Bool) (a' : Act) (w' : World), (∀ i, i < ops.size → listed.getD i false = true) → Inv listed a' w' → Q .normal a' w') :
    (Code.region id ops true).wp P Q a w := by
  refine wp_region_any hm (wpAny_inv Inv step fin back _ _ _ _ ?_ ⟨by simp, ?_⟩ start)
  · unfold unl
    simp
  · intro i o hi hl
    exfalso
    have hlt := (Array.getElem?_eq_some_iff.1 hi).1
    simp [hlt] at hl
/-- Each operation but one, which stores, has a place of its own in the frame. -/
def placedS (ops : Array Oper) (S size : Nat) : Bool :=
  (List.range ops.size).all fun i => match ops[i]? with
    | none => false
    | some o => if i = S then o.dst == none else (match o.dst with
      | none => false
      | some t => decide (t < size) && (List.range ops.size).all fun j => decide (i = j) || (match ops[j]? with | none => true | some o' => o'.dst != some t))
theorem placedS_one {ops : Array Oper} {S size i : Nat} {o : Oper} (h : placedS ops S size = true) (hi : ops[i]? = some o) (hS : i ≠ S) :
    ∃ t, o.dst = some t ∧ t < size ∧ ∀ (j : Nat) (o' : Oper), ops[j]? = some o' → i ≠ j → o'.dst ≠ some t := by
  have hlt : i < ops.size := (Array.getElem?_eq_some_iff.1 hi).1
  unfold placedS at h
  rw [List.all_eq_true] at h
  have h1 := h i (List.mem_range.2 hlt)
  rw [hi] at h1
  simp only [if_neg hS] at h1
  cases hd : o.dst with
  | none => rw [hd] at h1; cases h1
  | some t =>
    rw [hd] at h1
    simp only [Bool.and_eq_true, decide_eq_true_eq, List.all_eq_true] at h1
    refine ⟨t, rfl, h1.1, fun j o' hj hne => ?_⟩
    have h4 := h1.2 j (List.mem_range.2 (Array.getElem?_eq_some_iff.1 hj).1)
    rw [hj] at h4
    simpa [hne] using h4
/-- What stands in the frame. -/
structure Fr (ops : Array Oper) (a0 : Act) (Φ : Nat → Value → Prop) (listed : Array Bool) (a : Act) : Prop where
  defers : a.defers = a0.defers
  size : a.tmps.size = a0.tmps.size
  frame : ∀ t : Nat, (∀ (i : Nat) (o : Oper), ops[i]? = some o → o.dst ≠ some t) → a.eval (.tmp t) = a0.eval (.tmp t)
  done : ∀ (i : Nat) (o : Oper) (t : Nat), ops[i]? = some o → o.dst = some t → listed.getD i false = true → Φ i (a.eval (.tmp t))
theorem fr_next {a0 a : Act} {Φ : Nat → Value → Prop} {Φ' : Nat → Value → Prop} {listed : Array Bool} {S i : Nat} {o : Oper} {v : Value} (hp : placedS ops S a0.tmps.size = true) (hi : ops[i]? = some o) (hS : i ≠ S) (h : Fr ops a0 Φ listed a)
    (hst : ∀ j v, Φ j v → Φ' j v) (hv : Φ' i v) : Fr ops a0 Φ' (listed.setIfInBounds i true) (a.put o.dst v) := by
  obtain ⟨t, ht, hts, hdist⟩ := placedS_one hp hi hS
  refine ⟨by rw [ht]; exact h.defers, by rw [ht]; simp only [Act.put, Array.size_setIfInBounds]; exact h.size, fun t' ht' => ?_, fun j o' t' hj hd hlj => ?_⟩
  · rw [Act.eval_put (fun d hd e => by
      injection e with e
      exact ht' i o hi (by rw [e]; exact hd))]
    exact h.frame t' ht'
  · by_cases hij : i = j
    · subst hij
      have : o' = o := Option.some.inj (hj.symm.trans hi)
      subst this
      have : t' = t := Option.some.inj (hd.symm.trans ht)
      subst this
      rw [ht, eval_put_same (by rw [h.size]; exact hts)]
      exact hv
    · rw [getD_set_ne false hij] at hlj
      have hne : t' ≠ t := fun e => hdist j o' hj hij (by rw [hd, e])
      rw [Act.eval_put (fun d hd' e => by
        injection e with e
        rw [ht] at hd'
        injection hd' with hd'
        exact hne (by rw [e, hd']))]
      exact hst j _ (h.done j o' t' hj hd hlj)
end Go.Proofs.YtdhokgkihaiomaaDoor.AnyC

namespace Go.Proofs.YtdhokgkihaiomaaDoor.AnyC
open Go.RowKit

theorem fold_set_get (ts : List Nat) (f : Nat → Value) (T : Array Value) (j : Nat) (hj : j < T.size) : (ts.foldl (fun T t => T.setIfInBounds t (f t)) T)[j]? = some (if j ∈ ts then f j else T[j]) := by
  induction ts generalizing T with
  | nil => simp [hj]
  | cons t ts ih =>
    rw [List.foldl_cons, ih _ (by simpa using hj)]
    by_cases h1 : j ∈ ts
    · simp [h1]
    · simp only [h1, if_false]
      by_cases h2 : j = t
      · subst h2
        simp
      · have h3 : j ∉ t :: ts := by simp [h1, h2]
        rw [if_neg h3]
        congr 1
        exact Array.getElem_setIfInBounds_ne _ (Ne.symm h2)
theorem fold_set_size (ts : List Nat) (f : Nat → Value) (T : Array Value) : (ts.foldl (fun T t => T.setIfInBounds t (f t)) T).size = T.size := by
  induction ts generalizing T with
  | nil => rfl
  | cons t ts ih => rw [List.foldl_cons, ih]; simp
theorem fr_act {a0 a : Act} (ts : List Nat) (hs : a.tmps.size = a0.tmps.size) (hd : a.defers = a0.defers) (hf : ∀ t : Nat, t ∉ ts → a.eval (.tmp t) = a0.eval (.tmp t)) :
    a = { tmps := ts.foldl (fun T t => T.setIfInBounds t (a.eval (.tmp t))) a0.tmps, defers := a0.defers } := by
  obtain ⟨T, D⟩ := a
  simp only at hs hd
  subst hd
  congr 1
  apply Array.ext_getElem?
  intro j
  rcases Nat.lt_or_ge j T.size with hj | hj
  · rw [fold_set_get ts _ a0.tmps j (by omega), Array.getElem?_eq_getElem hj]
    congr 1
    by_cases h : j ∈ ts
    · rw [if_pos h]
      simp [Act.eval, hj]
    · rw [if_neg h]
      have := hf j h
      simpa [Act.eval, hj, show j < a0.tmps.size by omega] using this
  · rw [Array.getElem?_eq_none hj, Array.getElem?_eq_none (by rw [fold_set_size]; omega)]
def dstsIn (ops : Array Oper) (ts : List Nat) : Bool := ops.all fun o => match o.dst with | none => true | some t => decide (t ∈ ts)
theorem dstsIn_spec {ops : Array Oper} {ts : List Nat} (h : dstsIn ops ts = true) (t : Nat) (ht : t ∉ ts) (i : Nat) (o : Oper) (hi : ops[i]? = some o) : o.dst ≠ some t := fun e => by
  unfold dstsIn at h
  rw [Array.all_eq_true_iff_forall_mem] at h
  have := h o (Array.mem_of_getElem? hi)
  rw [e] at this
  exact ht (of_decide_eq_true this)
theorem kept_all {ops : Array Oper} {a0 a : Act} {w0 w : World} {Φ : Nat → Value → World → Prop} {listed : Array Bool} (ts : List Nat) (hf : Kept ops a0 w0 Φ listed a w) (h : dstsIn ops ts = true) : a = { tmps := ts.foldl (fun T t => T.setIfInBounds t (a.eval (.tmp t))) a0.tmps, defers := a0.defers } :=
  fr_act ts hf.size hf.defers (fun t ht => hf.frame t (dstsIn_spec h t ht))
theorem wpOp_skip {P : Program} {ops : Array Oper} {Q : Exit → Act → World → Prop} {i : Nat} {o : Oper} {a : Act} {w : World} {K : Act → World → Prop} (hi : ops[i]? = some o) (hw : Region.wanted o (yielded ops a.tmps) = false) (h : K (a.put o.dst undef) w) : wpOp P ops Q i K a w := by
  unfold wpOp
  simp only [hi, hw]
  exact h
theorem unwanted_of {ops : Array Oper} {o : Oper} {a : Act} {j t : Nat} {b b' : Bool} (hg : o.guard = some (j, b)) (hj : ((ops[j]?).bind (·.dst)) = some t) (h : a.eval (.tmp t) = .bool b') (hb : b' ≠ b) : Region.wanted o (yielded ops a.tmps) = false := by
  have h' : a.tmps[t]? = some (.bool b') := by
    unfold Act.eval at h
    cases ht : a.tmps[t]? with
    | none => simp [Array.getD] at h; split at h <;> simp_all [undef]
    | some v => simp [ht] at h; rw [h]
  unfold Region.wanted
  rw [hg]
  simp [yielded, hj, h', hb]
end Go.Proofs.YtdhokgkihaiomaaDoor.AnyC

namespace Go.Proofs.YtdhokgkihaiomaaDoor.AnyC
open Go.RowKit
variable {P : Program} {ops : Array Oper} {Q : Exit → Act → World → Prop}

/-- Each waits for the one before it. -/
def chained (ops : Array Oper) (cs : List Nat) : Bool := (cs.zip cs.tail).all fun p => Region.waitsFor .any ops p.2 p.1
theorem chained_at {cs : List Nat} (h : chained ops cs = true) {k i j : Nat} (h1 : cs[k]? = some i) (h2 : cs[k + 1]? = some j) : Region.waitsFor .any ops j i = true := by
  unfold chained at h
  rw [List.all_eq_true] at h
  refine h (i, j) (List.mem_of_getElem? (i := k) ?_)
  rw [List.getElem?_zip_eq_some]
  exact ⟨h1, by rw [List.getElem?_tail]; exact h2⟩
theorem closed_of {listed : Array Bool} {i j : Nat} (hc : Closed .any ops listed) (h : Region.waitsFor .any ops j i = true) (hj : listed.getD j false = true) : listed.getD i false = true := by
  obtain ⟨o, ho, e, he, hb, rfl⟩ := Region.waitsFor_spec h
  exact hc.2 j o ho hj e he hb
theorem nodup_at {cs : List Nat} (h : cs.Nodup) {j k i : Nat} (h1 : cs[j]? = some i) (h2 : cs[k]? = some i) : j = k := by
  obtain ⟨a1, b1⟩ := List.getElem?_eq_some_iff.1 h1
  obtain ⟨a2, b2⟩ := List.getElem?_eq_some_iff.1 h2
  have hp := List.pairwise_iff_getElem.1 h
  rcases Nat.lt_trichotomy j k with h | h | h
  · exact absurd (b1.trans b2.symm) (hp j k a1 a2 h)
  · exact h
  · exact absurd (b2.trans b1.symm) (hp k j a2 a1 h)
end Go.Proofs.YtdhokgkihaiomaaDoor.AnyC

namespace Go.Proofs.YtdhokgkihaiomaaDoor.AnyC
open Go.RowKit
variable {P : Program} {ops : Array Oper} {Q : Exit → Act → World → Prop}

/-- What the last one of the chain has left. -/
def St (ops : Array Oper) (cs : List Nat) (R : Nat → Value → World → Prop) (k : Nat) (a : Act) (w : World) : Prop :=
  (k = 0 → R 0 (.bool false) w) ∧ ∀ (k' i : Nat) (o : Oper) (t : Nat), k = k' + 1 → cs[k']? = some i → ops[i]? = some o → o.dst = some t → R k (a.eval (.tmp t)) w
def InvC (ops : Array Oper) (a0 : Act) (val : Nat → Value) (cs ds : List Nat) (F : World → Prop) (R : Nat → Value → World → Prop) (listed : Array Bool) (a : Act) (w : World) : Prop :=
  ∃ k, k ≤ cs.length ∧ (∀ j i : Nat, cs[j]? = some i → listed.getD i false = decide (j < k)) ∧ F w ∧ St ops cs R k a w ∧ Fr ops a0 (fun i v => i ∉ ds → v = val i) listed a ∧ ∀ (i : Nat) (o : Oper) (t : Nat), ops[i]? = some o → o.dst = some t → listed.getD i false = false → a.eval (.tmp t) = a0.eval (.tmp t)
/-- What waits for it has not come up: its place is as it was. -/
abbrev Und (ops : Array Oper) (a0 a : Act) (i : Nat) : Prop := ∀ (j : Nat) (o : Oper) (t : Nat), ops[j]? = some o → o.dst = some t → Region.waitsFor .any ops j i = true → a.eval (.tmp t) = a0.eval (.tmp t)
theorem wp_region_chain {id : Nat} {a0 : Act} {w0 : World} (hm : P.follows .mixedOrders = true) (val : Nat → Value) (cs ds : List Nat) (F : World → Prop) (R : Nat → Value → World → Prop)
    (hF : F { w0 with drawn := w0.drawn + 1 }) (hR : R 0 (.bool false) { w0 with drawn := w0.drawn + 1 })
    (hp : placedS ops ops.size a0.tmps.size = true) (back : ∀ (i : Nat) (o : Oper), ops[i]? = some o → ∀ e ∈ o.after, Region.binds .any e = true → e.on < i) (hch : chained ops cs = true) (hnd : cs.Nodup) (hlt : ∀ i ∈ cs, i < ops.size)
    (pure : ∀ (i : Nat) (o : Oper) (listed : Array Bool) (a : Act) (w : World), i ∉ cs → ops[i]? = some o → F w → Fr ops a0 (fun i v => i ∉ ds → v = val i) listed a → Und ops a0 a i → (∀ e ∈ o.after, Region.binds .any e = true → listed.getD e.on false = true) →
      Region.wanted o (yielded ops a.tmps) = true ∧ (execOp a.eval o).run P w = .ok (.value (val i)) w)
    (acts : ∀ (i k : Nat) (o : Oper) (listed : Array Bool) (a : Act) (w : World), cs[k]? = some i → ops[i]? = some o → F w → St ops cs R k a w → Fr ops a0 (fun i v => i ∉ ds → v = val i) listed a → Und ops a0 a i → (∀ e ∈ o.after, Region.binds .any e = true → listed.getD e.on false = true) →
      Region.wanted o (yielded ops a.tmps) = true ∧ o.wp P a w (fun a' w' => ∃ v, a' = a.put o.dst v ∧ (i ∉ ds → v = val i) ∧ F w' ∧ R (k + 1) v w') Q)
    (fin : ∀ (listed : Array Bool) (a : Act) (w : World), (∀ i, i < ops.size → listed.getD i false = true) → F w → St ops cs R cs.length a w → Fr ops a0 (fun i v => i ∉ ds → v = val i) listed a → Q .normal a w) : (Code.region id ops true).wp P Q a0 w0 := by
  refine wp_region_inv hm (InvC ops a0 val cs ds F R) back ?_ ?_ ?_
  · refine ⟨0, Nat.zero_le _, fun j i hj => ?_, hF, ⟨fun _ => hR, fun k' i o t h => by omega⟩, ⟨rfl, rfl, fun _ _ => rfl, fun i o t hi _ hl => ?_⟩, fun _ _ _ _ _ _ => rfl⟩
    · have := hlt i (List.mem_of_getElem? hj)
      simp [this]
    · exfalso
      have hlt := (Array.getElem?_eq_some_iff.1 hi).1
      simp [hlt] at hl
  · intro i o listed a w ho h0 hc hdep hinv
    obtain ⟨k, hk, hst, hFw, hSt, hf, hu⟩ := hinv
    have h0' := getD_tf h0
    have hiN : i < ops.size := (Array.getElem?_eq_some_iff.1 ho).1
    have hiS : i ≠ ops.size := by omega
    have hund : Und ops a0 a i := fun j o' t hj hd hwf => hu j o' t hj hd (by
      cases h : listed.getD j false with
      | false => rfl
      | true =>
        have := closed_of hc hwf h
        rw [h0'] at this; cases this)
    have hnext : ∀ v, ∀ (j : Nat) (o' : Oper) (t : Nat), ops[j]? = some o' → o'.dst = some t → (listed.setIfInBounds i true).getD j false = false → (a.put o.dst v).eval (.tmp t) = a0.eval (.tmp t) := fun v j o' t hj hd hl => by
      obtain ⟨t', ht, hts, hdist⟩ := placedS_one hp ho hiS
      have hij : i ≠ j := by
        rintro rfl
        rw [getD_set_self h0] at hl; cases hl
      rw [getD_set_ne false hij] at hl
      have hne : t ≠ t' := fun e => hdist j o' hj hij (by rw [hd, e])
      rw [Act.eval_put (fun d hd' e => by
        injection e with e
        rw [ht] at hd'
        injection hd' with hd'
        exact hne (by rw [e, hd']))]
      exact hu j o' t hj hd hl
    by_cases hic : i ∈ cs
    · obtain ⟨k', hk'⟩ := List.getElem?_of_mem hic
      have hkk : k' = k := by
        have h1 := hst k' i hk'
        rw [h0'] at h1
        have h2 : ¬ k' < k := by
          intro h
          simp [h] at h1
        rcases Nat.eq_zero_or_pos k' with hz | hz
        · omega
        · obtain ⟨p, rfl⟩ : ∃ p, k' = p + 1 := ⟨k' - 1, by omega⟩
          have hp2 : p < cs.length := by
            have := (List.getElem?_eq_some_iff.1 hk').1
            omega
          obtain ⟨q, hq⟩ : ∃ q, cs[p]? = some q := ⟨_, List.getElem?_eq_getElem hp2⟩
          obtain ⟨o', ho', e, he, hb, hq2⟩ := Region.waitsFor_spec (chained_at hch hq hk')
          have : o' = o := Option.some.inj (ho'.symm.trans ho)
          subst this
          have h3 := hdep e he hb
          rw [hq2, hst p q hq] at h3
          have := of_decide_eq_true h3
          omega
      subst hkk
      obtain ⟨hw, hwp⟩ := acts i k' o listed a w hk' ho hFw hSt hf hund hdep
      refine ⟨hw, Oper.wp_mono (fun a' w' hl => ?_) hwp⟩
      obtain ⟨v, rfl, hv, hF', hR'⟩ := hl
      have hkl : k' < cs.length := (List.getElem?_eq_some_iff.1 hk').1
      refine ⟨k' + 1, hkl, fun j q hj => ?_, hF', ⟨fun e => by omega, fun k2 i2 o2 t2 e1 e2 e3 e4 => ?_⟩, fr_next hp ho hiS hf (fun _ _ h => h) hv, hnext v⟩
      · by_cases hjk : j = k'
        · subst hjk
          have : q = i := Option.some.inj (hj.symm.trans hk')
          subst this
          rw [getD_set_self h0]; simp
        · have hqi : i ≠ q := by
            rintro rfl
            exact hjk (nodup_at hnd hj hk')
          rw [getD_set_ne false hqi, hst j q hj]
          have : (j < k') ↔ (j < k' + 1) := by omega
          simp [this]
      · have : k2 = k' := by omega
        subst this
        have : i2 = i := Option.some.inj (e2.symm.trans hk')
        subst this
        have : o2 = o := Option.some.inj (e3.symm.trans ho)
        subst this
        obtain ⟨t, ht, hts, -⟩ := placedS_one hp ho hiS
        have : t2 = t := Option.some.inj (e4.symm.trans ht)
        subst this
        rw [ht, eval_put_same (by rw [hf.size]; exact hts)]
        exact hR'
    · obtain ⟨hw, hr⟩ := pure i o listed a w hic ho hFw hf hund hdep
      refine ⟨hw, Oper.wp_mono (fun a' w' hl => ?_) (wp_value (φ := fun v w' => v = val i ∧ w' = w) hr ⟨rfl, rfl⟩)⟩
      obtain ⟨v, rfl, ⟨rfl, rfl⟩, _⟩ := hl
      obtain ⟨t, ht, hts, hdist⟩ := placedS_one hp ho hiS
      refine ⟨k, hk, fun j q hj => ?_, hFw, ⟨hSt.1, fun k2 i2 o2 t2 e1 e2 e3 e4 => ?_⟩, fr_next hp ho hiS hf (fun _ _ h => h) (fun _ => rfl), hnext _⟩
      · have hqi : i ≠ q := fun e => hic (e ▸ List.mem_of_getElem? hj)
        rw [getD_set_ne false hqi]
        exact hst j q hj
      · have hqi : i ≠ i2 := fun e => hic (e ▸ List.mem_of_getElem? e2)
        have hne : t2 ≠ t := fun e => hdist i2 o2 e3 hqi (by rw [e4, e])
        rw [Act.eval_put (fun d hd' e => by
          injection e with e
          rw [ht] at hd'
          injection hd' with hd'
          exact hne (by rw [e, hd']))]
        exact hSt.2 k2 i2 o2 t2 e1 e2 e3 e4
  · intro listed a w hall hinv
    obtain ⟨k, hk, hst, hFw, hSt, hf, -⟩ := hinv
    have hkl : k = cs.length := by
      rcases Nat.lt_or_ge k cs.length with h | h
      · exfalso
        obtain ⟨q, hq⟩ : ∃ q, cs[k]? = some q := ⟨_, List.getElem?_eq_getElem h⟩
        have h1 := hst k q hq
        rw [hall q (hlt q (List.mem_of_getElem? hq))] at h1
        simp at h1
      · omega
    subst hkl
    exact fin listed a w hall hFw hSt hf
end Go.Proofs.YtdhokgkihaiomaaDoor.AnyC
namespace Go.Proofs.YtdhokgkihaiomaaDoor.AnyC
open Go.RowKit
def backsB (ops : Array Oper) : Bool := (List.range ops.size).all fun i => match ops[i]? with | none => true | some o => o.after.all fun e => !Region.binds .any e || decide (e.on < i)
theorem backsB_spec {ops : Array Oper} (h : backsB ops = true) (i : Nat) (o : Oper) (hi : ops[i]? = some o) (e : Edge) (he : e ∈ o.after) (hb : Region.binds .any e = true) : e.on < i := by
  unfold backsB at h
  rw [List.all_eq_true] at h
  have h1 := h i (List.mem_range.2 (Array.getElem?_eq_some_iff.1 hi).1)
  rw [hi] at h1
  simp only at h1
  rw [Array.all_eq_true_iff_forall_mem] at h1
  have h2 := h1 e he
  rw [hb] at h2
  simpa using h2
theorem fr_all {ops : Array Oper} {a0 a : Act} {Φ : Nat → Value → Prop} {listed : Array Bool} (ts : List Nat) (hf : Fr ops a0 Φ listed a) (h : dstsIn ops ts = true) : a = { tmps := ts.foldl (fun T t => T.setIfInBounds t (a.eval (.tmp t))) a0.tmps, defers := a0.defers } :=
  fr_act ts hf.size hf.defers (fun t ht => hf.frame t (dstsIn_spec h t ht))
theorem wp_exact4 {P : Program} {o : Oper} {a : Act} {w w' : World} {K : Act → World → Prop} {Q : Exit → Act → World → Prop} {v : Value} (h : (execOp a.eval o).run P w = .ok (.value v) w') (hk : K (a.put o.dst v) w') : o.wp P a w K Q := by
  unfold Oper.wp
  rw [h]
  exact hk
end Go.Proofs.YtdhokgkihaiomaaDoor.AnyC
