/- The frame behind a region, written out. No Go program here. -/
import Derived.Test.YtckbehojcjhcgaaFAny
namespace Go.Proofs.Ytckbehojcjhcgaa.Fra
open Go.RowKit

theorem fold_set_get (ts : List Nat) (f : Nat → Value) (T : Array Value) (j : Nat) (hj : j < T.size) : (ts.foldl (fun T t => T.setIfInBounds t (f t)) T)[j]? = some (if j ∈ ts then f j else T[j]) := by
  induction ts generalizing T with
  | nil => simp [hj]
  | cons t ts ih =>
    rw [List.foldl_cons, ih _ (by simpa using hj)]
    by_cases h1 : j ∈ ts
    · simp [h1]
    · simp only [h1, if_false]
      by_cases h2 : j = t
      · subst h2
        simp
      · have h3 : j ∉ t :: ts := by simp [h1, h2]
        rw [if_neg h3]
        congr 1
        exact Array.getElem_setIfInBounds_ne _ (Ne.symm h2)
theorem fold_set_size (ts : List Nat) (f : Nat → Value) (T : Array Value) : (ts.foldl (fun T t => T.setIfInBounds t (f t)) T).size = T.size := by
  induction ts generalizing T with
  | nil => rfl
  | cons t ts ih => rw [List.foldl_cons, ih]; simp
theorem fr_act {a0 a : Act} (ts : List Nat) (hs : a.tmps.size = a0.tmps.size) (hd : a.defers = a0.defers) (hf : ∀ t : Nat, t ∉ ts → a.eval (.tmp t) = a0.eval (.tmp t)) :
    a = { tmps := ts.foldl (fun T t => T.setIfInBounds t (a.eval (.tmp t))) a0.tmps, defers := a0.defers } := by
  obtain ⟨T, D⟩ := a
  simp only at hs hd
  subst hd
  congr 1
  apply Array.ext_getElem?
  intro j
  rcases Nat.lt_or_ge j T.size with hj | hj
  · rw [fold_set_get ts _ a0.tmps j (by omega), Array.getElem?_eq_getElem hj]
    congr 1
    by_cases h : j ∈ ts
    · rw [if_pos h]
      simp [Act.eval, hj]
    · rw [if_neg h]
      have := hf j h
      simpa [Act.eval, hj, show j < a0.tmps.size by omega] using this
  · rw [Array.getElem?_eq_none hj, Array.getElem?_eq_none (by rw [fold_set_size]; omega)]
def dstsIn (ops : Array Oper) (ts : List Nat) : Bool := ops.all fun o => match o.dst with | none => true | some t => decide (t ∈ ts)
theorem dstsIn_spec {ops : Array Oper} {ts : List Nat} (h : dstsIn ops ts = true) (t : Nat) (ht : t ∉ ts) (i : Nat) (o : Oper) (hi : ops[i]? = some o) : o.dst ≠ some t := fun e => by
  unfold dstsIn at h
  rw [Array.all_eq_true_iff_forall_mem] at h
  have := h o (Array.mem_of_getElem? hi)
  rw [e] at this
  exact ht (of_decide_eq_true this)
theorem fr_all {ops : Array Oper} {a0 a : Act} {Φ : Nat → Value → Prop} {listed : Array Bool} (ts : List Nat) (hf : Fr ops a0 Φ listed a) (h : dstsIn ops ts = true) : a = { tmps := ts.foldl (fun T t => T.setIfInBounds t (a.eval (.tmp t))) a0.tmps, defers := a0.defers } :=
  fr_act ts hf.size hf.defers (fun t ht => hf.frame t (dstsIn_spec h t ht))
theorem kept_all {ops : Array Oper} {a0 a : Act} {w0 w : World} {Φ : Nat → Value → World → Prop} {listed : Array Bool} (ts : List Nat) (hf : Kept ops a0 w0 Φ listed a w) (h : dstsIn ops ts = true) : a = { tmps := ts.foldl (fun T t => T.setIfInBounds t (a.eval (.tmp t))) a0.tmps, defers := a0.defers } :=
  fr_act ts hf.size hf.defers (fun t ht => hf.frame t (dstsIn_spec h t ht))

/-! An operation whose guard is not met leaves nothing. -/
theorem wpOp_skip {P : Program} {ops : Array Oper} {Q : Exit → Act → World → Prop} {i : Nat} {o : Oper} {a : Act} {w : World} {K : Act → World → Prop} (hi : ops[i]? = some o) (hw : Region.wanted o (yielded ops a.tmps) = false) (h : K (a.put o.dst undef) w) : wpOp P ops Q i K a w := by
  unfold wpOp
  simp only [hi, hw]
  exact h
theorem unwanted_of {ops : Array Oper} {o : Oper} {a : Act} {j t : Nat} {b b' : Bool} (hg : o.guard = some (j, b)) (hj : ((ops[j]?).bind (·.dst)) = some t) (h : a.eval (.tmp t) = .bool b') (hb : b' ≠ b) : Region.wanted o (yielded ops a.tmps) = false := by
  have h' : a.tmps[t]? = some (.bool b') := by
    unfold Act.eval at h
    cases ht : a.tmps[t]? with
    | none => simp [Array.getD] at h; split at h <;> simp_all [undef]
    | some v => simp [ht] at h; rw [h]
  unfold Region.wanted
  rw [hg]
  simp [yielded, hj, h', hb]
end Go.Proofs.Ytckbehojcjhcgaa.Fra
