/- Contract: a drawn region, by what each operation leaves. Conditions: none. -/
import Derived.Test.YtkhkncgndllkjaaDoorProg
import Derived.Laws.BitsAllLaws
import Derived.Tactics
import Derived.WalkKit
import Derived.Below
import Derived.Lib.Hide
import Derived.Lib.Walk
import Derived.Laws.ResultCell
import Derived.Deep.WholeRow
import Derived.Laws.Alloc2
import Derived.Laws.NewBlocks
import Derived.Maps.AppendAt
import Derived.Deep.AppendLies
import Derived.Laws.BytesArg
import Derived.Laws.OwnMore
import Derived.Lib.AppendZeros
import Derived.OwnWalk
import Derived.BigQuiet
import Derived.Deep.QuietTactic
import Derived.Lib.SlBytesConst
import Derived.LoopTactic
import Derived.Lib.AppendStr
import Derived.Orders
import Derived.OrdersIn
import Derived.StillTail
import GoSem.Op.String
import Derived.Deep.DeepCutAuto
import Derived.Laws.CopyOwn
import Derived.Deep.OwnRows
import Derived.OneCell
namespace Go.Proofs.YtkhkncgndllkjaaDoor.Any
open Go.RowKit
variable {P : Program} {md : Region.Mode} {ops : Array Oper} {Q : Exit → Act → World → Prop}

/-- Each operation has a place of its own in the frame, and waits for earlier ones only. -/
def placed (ops : Array Oper) (size : Nat) : Bool :=
  (List.range ops.size).all fun i => match ops[i]? with
    | none => false
    | some o => (match o.dst with
      | none => false
      | some t => decide (t < size) && (List.range ops.size).all fun j => decide (i = j) || (match ops[j]? with | none => true | some o' => o'.dst != some t)) &&
      o.after.all fun e => !Region.binds .any e || decide (e.on < i)
theorem placed_one {ops : Array Oper} {size i : Nat} {o : Oper} (h : placed ops size = true) (hi : ops[i]? = some o) :
    ∃ t, o.dst = some t ∧ t < size ∧ (∀ j o', ops[j]? = some o' → i ≠ j → o'.dst ≠ some t) ∧ ∀ e ∈ o.after, Region.binds .any e = true → e.on < i := by
  have hlt : i < ops.size := (Array.getElem?_eq_some_iff.1 hi).1
  unfold placed at h
  rw [List.all_eq_true] at h
  have h1 := h i (List.mem_range.2 hlt)
  rw [hi] at h1
  simp only [Bool.and_eq_true] at h1
  obtain ⟨h2, h3⟩ := h1
  cases hd : o.dst with
  | none => rw [hd] at h2; cases h2
  | some t =>
    rw [hd] at h2
    simp only [Bool.and_eq_true, decide_eq_true_eq, List.all_eq_true] at h2
    refine ⟨t, rfl, h2.1, fun j o' hj hne => ?_, fun e he hb => ?_⟩
    · have h4 := h2.2 j (List.mem_range.2 (Array.getElem?_eq_some_iff.1 hj).1)
      rw [hj] at h4
      simpa [hne] using h4
    · rw [Array.all_eq_true_iff_forall_mem] at h3
      have h5 := h3 e he
      rw [hb] at h5
      exact of_decide_eq_true h5
theorem eval_put_same {a : Act} {t : Nat} {v : Value} (h : t < a.tmps.size) : (a.put (some t) v).eval (.tmp t) = v := by
  simp [Act.put, Act.eval, h]
structure Kept (ops : Array Oper) (a0 : Act) (w0 : World) (Φ : Nat → Value → World → Prop) (listed : Array Bool) (a : Act) (w : World) : Prop where
  below : Below w0.heap.size w0 w
  defers : a.defers = a0.defers
  size : a.tmps.size = a0.tmps.size
  frame : ∀ t : Nat, (∀ (i : Nat) (o : Oper), ops[i]? = some o → o.dst ≠ some t) → a.eval (.tmp t) = a0.eval (.tmp t)
  done : ∀ (i : Nat) (o : Oper) (t : Nat), ops[i]? = some o → o.dst = some t → listed.getD i false = true → Φ i (a.eval (.tmp t)) w
/-- What an operation leaves. -/
def Leaves (o : Oper) (φ : Value → World → Prop) (a : Act) (w : World) (a' : Act) (w' : World) : Prop := ∃ v, a' = a.put o.dst v ∧ φ v w' ∧ Below w.heap.size w w'
theorem kept_next {a0 : Act} {w0 : World} {Φ : Nat → Value → World → Prop} {listed : Array Bool} {a a' : Act} {w w' : World} {i : Nat} {o : Oper}
    (stab : ∀ (i : Nat) (v : Value) (w w' : World), Below w.heap.size w w' → Φ i v w → Φ i v w') (hp : placed ops a0.tmps.size = true) (hi : ops[i]? = some o) (h : Kept ops a0 w0 Φ listed a w)
    (hl : Leaves o (Φ i) a w a' w') : Kept ops a0 w0 Φ (listed.setIfInBounds i true) a' w' := by
  obtain ⟨v, rfl, hv, hb⟩ := hl
  obtain ⟨t, ht, hts, hdist, _⟩ := placed_one hp hi
  have hmid : Below w0.heap.size w0 w' := h.below.trans (hb.mono h.below.size)
  refine ⟨hmid, by rw [ht]; exact h.defers, by rw [ht]; simp only [Act.put, Array.size_setIfInBounds]; exact h.size, fun t' ht' => ?_, fun j o' t' hj hd hlj => ?_⟩
  · rw [Act.eval_put (fun d hd e => by
      injection e with e
      exact ht' i o hi (by rw [e]; exact hd))]
    exact h.frame t' ht'
  · by_cases hij : i = j
    · subst hij
      have : o' = o := Option.some.inj (hj.symm.trans hi)
      subst this
      have : t' = t := Option.some.inj (hd.symm.trans ht)
      subst this
      rw [ht, eval_put_same (by rw [h.size]; exact hts)]
      exact hv
    · rw [getD_set_ne false hij] at hlj
      have hne : t' ≠ t := fun e => hdist j o' hj hij (by rw [hd, e])
      rw [Act.eval_put (fun d hd' e => by
        injection e with e
        rw [ht] at hd'
        injection hd' with hd'
        exact hne (by rw [e, hd']))]
      exact stab j _ w w' hb (h.done j o' t' hj hd hlj)
theorem ready_all {listed : Array Bool} {size : Nat} (hp : placed ops size = true) (hs : listed.size = ops.size) (hr : Region.ready .any ops listed = []) : ∀ i, i < ops.size → listed.getD i false = true := by
  intro i
  induction i using Nat.strongRecOn with
  | ind i ih =>
    intro hi
    obtain ⟨o, ho⟩ : ∃ o, ops[i]? = some o := ⟨_, Array.getElem?_eq_getElem hi⟩
    obtain ⟨_, _, _, _, hback⟩ := placed_one hp ho
    cases hv : listed.getD i false with
    | true => rfl
    | false =>
      exfalso
      have hlt : i < listed.size := by omega
      have hm : i ∈ Region.ready .any ops listed := mem_ready.2 ⟨by
        rw [← hv]
        simp [Array.getD, hlt], o, ho, fun e he hb => ih e.on (hback e he hb) (by have := hback e he hb; omega)⟩
      rw [hr] at hm
      cases hm
def unl (listed : Array Bool) : Nat := listed.toList.count false
theorem unl_set {listed : Array Bool} {i : Nat} (h : listed.getD i true = false) : unl (listed.setIfInBounds i true) + 1 = unl listed := by
  have hlt : i < listed.size := by
    rcases Nat.lt_or_ge i listed.size with h' | h'
    · exact h'
    · simp [Array.getElem?_eq_none h'] at h
  have hv : listed.toList[i]'(by simpa using hlt) = false := by
    simpa [Array.getD, hlt] using h
  have hpos : 0 < listed.toList.count false := List.count_pos_iff.2 (by rw [← hv]; exact List.getElem_mem _)
  unfold unl
  rw [Array.toList_setIfInBounds, List.count_set (by simpa using hlt), hv]
  have e1 : (if (false == false) = true then 1 else 0) = 1 := rfl
  have e2 : (if (true == false) = true then 1 else 0) = 0 := rfl
  rw [e1, e2]
  omega
theorem unl_zero {listed : Array Bool} (h : unl listed = 0) (i : Nat) (hi : i < listed.size) : listed.getD i false = true := by
  cases hv : listed.getD i false with
  | true => rfl
  | false =>
    exfalso
    have : listed.toList[i]'(by simpa using hi) = false := by simpa [Array.getD, hi] using hv
    exact List.count_eq_zero.1 h (by rw [← this]; exact List.getElem_mem _)
theorem all_unl {listed : Array Bool} (h : ∀ i, i < listed.size → listed.getD i false = true) : unl listed = 0 := by
  unfold unl
  rw [List.count_eq_zero]
  intro hm
  obtain ⟨i, hi, hv⟩ := List.getElem_of_mem hm
  have hlt : i < listed.size := by simpa using hi
  have := h i hlt
  simp [Array.getD, hlt] at this
  simp [this] at hv
/-- THE LAW. -/
theorem wpAny_by {a0 : Act} {w0 : World} (Φ : Nat → Value → World → Prop) (stab : ∀ (i : Nat) (v : Value) (w w' : World), Below w.heap.size w w' → Φ i v w → Φ i v w') (hp : placed ops a0.tmps.size = true)
    (step : ∀ (i : Nat) (o : Oper) (listed : Array Bool) (a : Act) (w : World), ops[i]? = some o → Kept ops a0 w0 Φ listed a w → (∀ e ∈ o.after, Region.binds .any e = true → listed.getD e.on false = true) → wpOp P ops Q i (Leaves o (Φ i) a w) a w)
    (fin : ∀ (listed : Array Bool) (a : Act) (w : World), Kept ops a0 w0 Φ listed a w → (∀ i, i < ops.size → listed.getD i false = true) → Q .normal a w) :
    ∀ (fuel : Nat) (listed : Array Bool) (a : Act) (w : World), listed.size = ops.size → unl listed = fuel → Kept ops a0 w0 Φ listed a w → wpAny P .any ops Q fuel listed a w := by
  intro fuel
  induction fuel with
  | zero =>
    intro listed a w hs hu hk
    have hall : ∀ i, i < ops.size → listed.getD i false = true := fun i hi => unl_zero hu i (by omega)
    refine ⟨?_, fin listed a w hk hall⟩
    rw [List.eq_nil_iff_forall_not_mem]
    intro i hi
    rw [mem_ready] at hi
    obtain ⟨h0, o, ho, _⟩ := hi
    have hlt : i < listed.size := by rw [hs]; exact (Array.getElem?_eq_some_iff.1 ho).1
    have := unl_zero hu i hlt
    simp [Array.getD, hlt] at this h0
    rw [this] at h0
    cases h0
  | succ fuel ih =>
    intro listed a w hs hu hk
    refine ⟨fun hr => ?_, fun i hi => ?_⟩
    · have := all_unl (listed := listed) (fun i hi => ready_all hp hs hr i (by omega))
      omega
    · have hi' := hi
      rw [mem_ready] at hi'
      obtain ⟨h0, o, ho, hall⟩ := hi'
      refine wpOp_mono (fun a' w' hl => ?_) (step i o listed a w ho hk hall)
      exact ih _ a' w' (by simp [hs]) (by have := unl_set h0; omega) (kept_next stab hp ho hk hl)
/-- THE LAW, at a region. -/
theorem wp_region_by {id : Nat} {a : Act} {w : World} (hm : P.follows .mixedOrders = true) (Φ : Nat → Value → World → Prop) (stab : ∀ (i : Nat) (v : Value) (w w' : World), Below w.heap.size w w' → Φ i v w → Φ i v w') (hp : placed ops a.tmps.size = true)
    (step : ∀ (i : Nat) (o : Oper) (listed : Array Bool) (a' : Act) (w' : World), ops[i]? = some o → Kept ops a w Φ listed a' w' → (∀ e ∈ o.after, Region.binds .any e = true → listed.getD e.on false = true) → wpOp P ops Q i (Leaves o (Φ i) a' w') a' w')
    (fin : ∀ (listed : Array Bool) (a' : Act) (w' : World), Kept ops a w Φ listed a' w' → (∀ i, i < ops.size → listed.getD i false = true) → Q .normal a' w') : (Code.region id ops true).wp P Q a w := by
  refine wp_region_any hm (wpAny_by (a0 := a) (w0 := w) Φ stab hp step fin _ _ _ _ (by simp) ?_ ?_)
  · unfold unl
    simp
  · refine ⟨⟨rfl, rfl, rfl, Nat.le_refl _, fun _ _ => rfl⟩, rfl, rfl, fun _ _ => rfl, fun i o t hi _ hl => ?_⟩
    exfalso
    have hlt := (Array.getElem?_eq_some_iff.1 hi).1
    simp [hlt] at hl
structure Left where
  holds : Value → World → Prop
  stab : ∀ (v : Value) (w w' : World), Below w.heap.size w w' → holds v w → holds v w'
def Left.val (x : Value) : Left := ⟨fun v _ => v = x, fun _ _ _ _ h => h⟩
def Phi (L : List Left) (i : Nat) (v : Value) (w : World) : Prop := match L[i]? with
  | none => True
  | some p => p.holds v w
theorem phi_stab (L : List Left) (i : Nat) (v : Value) (w w' : World) (hb : Below w.heap.size w w') (h : Phi L i v w) : Phi L i v w' := by
  unfold Phi at h ⊢
  cases hl : L[i]? with
  | none => trivial
  | some p =>
    rw [hl] at h
    exact p.stab v w w' hb h
theorem wpOp_of {i : Nat} {o : Oper} {a : Act} {w : World} {K : Act → World → Prop} (hi : ops[i]? = some o) (hw : Region.wanted o (yielded ops a.tmps) = true) (h : o.wp P a w K Q) : wpOp P ops Q i K a w := by
  unfold wpOp
  simp only [hi, hw, if_true]
  exact .inl h
theorem wanted_of {o : Oper} {a : Act} {j t : Nat} {b : Bool} (hg : o.guard = some (j, b)) (hj : ((ops[j]?).bind (·.dst)) = some t) (h : a.eval (.tmp t) = .bool b) : Region.wanted o (yielded ops a.tmps) = true := by
  have h' : a.tmps[t]? = some (.bool b) := by
    unfold Act.eval at h
    cases ht : a.tmps[t]? with
    | none => simp [Array.getD] at h; split at h <;> simp_all [undef]
    | some v => simp [ht] at h; rw [h]
  unfold Region.wanted
  rw [hg]
  simp [yielded, hj, h']
theorem wp_value {o : Oper} {a : Act} {w : World} {v : Value} {φ : Value → World → Prop} (hr : (execOp a.eval o).run P w = .ok (.value v) w) (h : φ v w) : o.wp P a w (Leaves o φ a w) Q := by
  unfold Oper.wp
  rw [hr]
  exact ⟨v, rfl, h, Below.refl _ _⟩
theorem frame_of {t : Nat} (h : (ops.all fun o => o.dst != some t) = true) (i : Nat) (o : Oper) (hi : ops[i]? = some o) : o.dst ≠ some t := by
  rw [Array.all_eq_true_iff_forall_mem] at h
  have := h o (Array.mem_of_getElem? hi)
  simpa using this
theorem ev {a : Act} {t : Nat} {v : Value} (h : a.eval (.tmp t) = v) : a.tmps[t]?.getD undef = v := by simpa [Act.eval] using h



theorem fold_set_get (ts : List Nat) (f : Nat → Value) (T : Array Value) (j : Nat) (hj : j < T.size) : (ts.foldl (fun T t => T.setIfInBounds t (f t)) T)[j]? = some (if j ∈ ts then f j else T[j]) := by
  induction ts generalizing T with
  | nil => simp [hj]
  | cons t ts ih =>
    rw [List.foldl_cons, ih _ (by simpa using hj)]
    by_cases h1 : j ∈ ts
    · simp [h1]
    · simp only [h1, if_false]
      by_cases h2 : j = t
      · subst h2
        simp
      · have h3 : j ∉ t :: ts := by simp [h1, h2]
        rw [if_neg h3]
        congr 1
        exact Array.getElem_setIfInBounds_ne _ (Ne.symm h2)
theorem fold_set_size (ts : List Nat) (f : Nat → Value) (T : Array Value) : (ts.foldl (fun T t => T.setIfInBounds t (f t)) T).size = T.size := by
  induction ts generalizing T with
  | nil => rfl
  | cons t ts ih => rw [List.foldl_cons, ih]; simp
theorem fr_act {a0 a : Act} (ts : List Nat) (hs : a.tmps.size = a0.tmps.size) (hd : a.defers = a0.defers) (hf : ∀ t : Nat, t ∉ ts → a.eval (.tmp t) = a0.eval (.tmp t)) :
    a = { tmps := ts.foldl (fun T t => T.setIfInBounds t (a.eval (.tmp t))) a0.tmps, defers := a0.defers } := by
  obtain ⟨T, D⟩ := a
  simp only at hs hd
  subst hd
  congr 1
  apply Array.ext_getElem?
  intro j
  rcases Nat.lt_or_ge j T.size with hj | hj
  · rw [fold_set_get ts _ a0.tmps j (by omega), Array.getElem?_eq_getElem hj]
    congr 1
    by_cases h : j ∈ ts
    · rw [if_pos h]
      simp [Act.eval, hj]
    · rw [if_neg h]
      have := hf j h
      simpa [Act.eval, hj, show j < a0.tmps.size by omega] using this
  · rw [Array.getElem?_eq_none hj, Array.getElem?_eq_none (by rw [fold_set_size]; omega)]
def dstsIn (ops : Array Oper) (ts : List Nat) : Bool := ops.all fun o => match o.dst with | none => true | some t => decide (t ∈ ts)
theorem dstsIn_spec {ops : Array Oper} {ts : List Nat} (h : dstsIn ops ts = true) (t : Nat) (ht : t ∉ ts) (i : Nat) (o : Oper) (hi : ops[i]? = some o) : o.dst ≠ some t := fun e => by
  unfold dstsIn at h
  rw [Array.all_eq_true_iff_forall_mem] at h
  have := h o (Array.mem_of_getElem? hi)
  rw [e] at this
  exact ht (of_decide_eq_true this)
theorem kept_all {ops : Array Oper} {a0 a : Act} {w0 w : World} {Φ : Nat → Value → World → Prop} {listed : Array Bool} (ts : List Nat) (hf : Kept ops a0 w0 Φ listed a w) (h : dstsIn ops ts = true) : a = { tmps := ts.foldl (fun T t => T.setIfInBounds t (a.eval (.tmp t))) a0.tmps, defers := a0.defers } :=
  fr_act ts hf.size hf.defers (fun t ht => hf.frame t (dstsIn_spec h t ht))
end Go.Proofs.YtkhkncgndllkjaaDoor.Any
