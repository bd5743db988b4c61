/- Contract: a drawn region of which one operation after another turns the world, by what each leaves. Conditions: none. -/
import Derived.Test.YtkhkncgndllkjaaDoorEAny
namespace Go.Proofs.YtkhkncgndllkjaaDoor.Any
open Go.RowKit
variable {P : Program} {ops : Array Oper} {Q : Exit → Act → World → Prop}

/-- Each operation that has a place has one of its own, and each waits for earlier ones only. -/
def placedM (ops : Array Oper) (size : Nat) : Bool :=
  (List.range ops.size).all fun i => match ops[i]? with
    | none => false
    | some o => (match o.dst with
      | none => true
      | some t => decide (t < size) && (List.range ops.size).all fun j => decide (i = j) || (match ops[j]? with | none => true | some o' => o'.dst != some t)) &&
      o.after.all fun e => !Region.binds .any e || decide (e.on < i)
theorem placedM_one {ops : Array Oper} {size i : Nat} {o : Oper} (h : placedM ops size = true) (hi : ops[i]? = some o) :
    (∀ t, o.dst = some t → t < size ∧ ∀ j o', ops[j]? = some o' → i ≠ j → o'.dst ≠ some t) ∧ ∀ e ∈ o.after, Region.binds .any e = true → e.on < i := by
  have hlt : i < ops.size := (Array.getElem?_eq_some_iff.1 hi).1
  unfold placedM at h
  rw [List.all_eq_true] at h
  have h1 := h i (List.mem_range.2 hlt)
  rw [hi] at h1
  simp only [Bool.and_eq_true] at h1
  obtain ⟨h2, h3⟩ := h1
  refine ⟨fun t hd => ?_, fun e he hb => ?_⟩
  · rw [hd] at h2
    simp only [Bool.and_eq_true, decide_eq_true_eq, List.all_eq_true] at h2
    refine ⟨h2.1, fun j o' hj hne => ?_⟩
    have h4 := h2.2 j (List.mem_range.2 (Array.getElem?_eq_some_iff.1 hj).1)
    rw [hj] at h4
    simpa [hne] using h4
  · rw [Array.all_eq_true_iff_forall_mem] at h3
    have h5 := h3 e he
    rw [hb] at h5
    exact of_decide_eq_true h5
structure KeptM (ops : Array Oper) (a0 : Act) (Φ : Nat → Value → Prop) (Ω : Array Bool → World → Prop) (listed : Array Bool) (a : Act) (w : World) : Prop where
  world : Ω listed w
  defers : a.defers = a0.defers
  size : a.tmps.size = a0.tmps.size
  frame : ∀ t : Nat, (∀ (i : Nat) (o : Oper), ops[i]? = some o → o.dst ≠ some t) → a.eval (.tmp t) = a0.eval (.tmp t)
  done : ∀ (i : Nat) (o : Oper) (t : Nat), ops[i]? = some o → o.dst = some t → listed.getD i false = true → Φ i (a.eval (.tmp t))
def LeavesM (o : Oper) (φ : Value → Prop) (ω : World → Prop) (a a' : Act) (w' : World) : Prop := ∃ v, a' = a.put o.dst v ∧ φ v ∧ ω w'
theorem keptM_next {a0 : Act} {Φ : Nat → Value → Prop} {Ω : Array Bool → World → Prop} {listed : Array Bool} {a a' : Act} {w w' : World} {i : Nat} {o : Oper}
    (hp : placedM ops a0.tmps.size = true) (hi : ops[i]? = some o) (h : KeptM ops a0 Φ Ω listed a w)
    (hl : LeavesM o (Φ i) (Ω (listed.setIfInBounds i true)) a a' w') : KeptM ops a0 Φ Ω (listed.setIfInBounds i true) a' w' := by
  obtain ⟨v, rfl, hv, hb⟩ := hl
  obtain ⟨hd1, _⟩ := placedM_one hp hi
  refine ⟨hb, ?_, ?_, fun t' ht' => ?_, fun j o' t' hj hd hlj => ?_⟩
  · cases hd : o.dst with
    | none => exact h.defers
    | some t => exact h.defers
  · cases hd : o.dst with
    | none => exact h.size
    | some t => simp only [Act.put, Array.size_setIfInBounds]; exact h.size
  · rw [Act.eval_put (fun d hd e => by
      injection e with e
      exact ht' i o hi (by rw [e]; exact hd))]
    exact h.frame t' ht'
  · by_cases hij : i = j
    · subst hij
      have : o' = o := Option.some.inj (hj.symm.trans hi)
      subst this
      rw [hd, eval_put_same (by rw [h.size]; exact (hd1 t' hd).1)]
      exact hv
    · rw [getD_set_ne false hij] at hlj
      rw [Act.eval_put (fun d hd' e => by
        injection e with e
        exact (hd1 d hd').2 j o' hj hij (by rw [hd, e]))]
      exact h.done j o' t' hj hd hlj
theorem readyM_all {listed : Array Bool} {size : Nat} (hp : placedM ops size = true) (hs : listed.size = ops.size) (hr : Region.ready .any ops listed = []) : ∀ i, i < ops.size → listed.getD i false = true := by
  intro i
  induction i using Nat.strongRecOn with
  | ind i ih =>
    intro hi
    obtain ⟨o, ho⟩ : ∃ o, ops[i]? = some o := ⟨_, Array.getElem?_eq_getElem hi⟩
    obtain ⟨_, hback⟩ := placedM_one hp ho
    cases hv : listed.getD i false with
    | true => rfl
    | false =>
      exfalso
      have hlt : i < listed.size := by omega
      have hm : i ∈ Region.ready .any ops listed := mem_ready.2 ⟨by
        rw [← hv]
        simp [Array.getD, hlt], o, ho, fun e he hb => ih e.on (hback e he hb) (by have := hback e he hb; omega)⟩
      rw [hr] at hm
      cases hm
theorem wpAnyM {a0 : Act} (Φ : Nat → Value → Prop) (Ω : Array Bool → World → Prop) (hp : placedM ops a0.tmps.size = true)
    (step : ∀ (i : Nat) (o : Oper) (listed : Array Bool) (a : Act) (w : World), ops[i]? = some o → i < listed.size → listed.getD i false = false → KeptM ops a0 Φ Ω listed a w → (∀ e ∈ o.after, Region.binds .any e = true → listed.getD e.on false = true) → wpOp P ops Q i (LeavesM o (Φ i) (Ω (listed.setIfInBounds i true)) a) a w)
    (fin : ∀ (listed : Array Bool) (a : Act) (w : World), KeptM ops a0 Φ Ω listed a w → (∀ i, i < ops.size → listed.getD i false = true) → Q .normal a w) :
    ∀ (fuel : Nat) (listed : Array Bool) (a : Act) (w : World), listed.size = ops.size → unl listed = fuel → KeptM ops a0 Φ Ω listed a w → wpAny P .any ops Q fuel listed a w := by
  intro fuel
  induction fuel with
  | zero =>
    intro listed a w hs hu hk
    have hall : ∀ i, i < ops.size → listed.getD i false = true := fun i hi => unl_zero hu i (by omega)
    refine ⟨?_, fin listed a w hk hall⟩
    rw [List.eq_nil_iff_forall_not_mem]
    intro i hi
    rw [mem_ready] at hi
    obtain ⟨h0, o, ho, _⟩ := hi
    have hlt : i < listed.size := by rw [hs]; exact (Array.getElem?_eq_some_iff.1 ho).1
    have := unl_zero hu i hlt
    simp [Array.getD, hlt] at this h0
    rw [this] at h0
    cases h0
  | succ fuel ih =>
    intro listed a w hs hu hk
    refine ⟨fun hr => ?_, fun i hi => ?_⟩
    · have := all_unl (listed := listed) (fun i hi => readyM_all hp hs hr i (by omega))
      omega
    · have hi' := hi
      rw [mem_ready] at hi'
      obtain ⟨h0, o, ho, hall⟩ := hi'
      have hlt : i < listed.size := by rw [hs]; exact (Array.getElem?_eq_some_iff.1 ho).1
      refine wpOp_mono (fun a' w' hl => ?_) (step i o listed a w ho hlt (by rw [← h0]; simp [Array.getD, hlt]) hk hall)
      exact ih _ a' w' (by simp [hs]) (by have := unl_set h0; omega) (keptM_next hp ho hk hl)
/-- THE LAW, at a region. -/
theorem wp_region_m {id : Nat} {a : Act} {w : World} (hm : P.follows .mixedOrders = true) (Φ : Nat → Value → Prop) (Ω : Array Bool → World → Prop) (hp : placedM ops a.tmps.size = true) (h0 : ∀ listed : Array Bool, (∀ i, listed.getD i false = false) → Ω listed w.drew)
    (step : ∀ (i : Nat) (o : Oper) (listed : Array Bool) (a' : Act) (w' : World), ops[i]? = some o → i < listed.size → listed.getD i false = false → KeptM ops a Φ Ω listed a' w' → (∀ e ∈ o.after, Region.binds .any e = true → listed.getD e.on false = true) → wpOp P ops Q i (LeavesM o (Φ i) (Ω (listed.setIfInBounds i true)) a') a' w')
    (fin : ∀ (listed : Array Bool) (a' : Act) (w' : World), KeptM ops a Φ Ω listed a' w' → (∀ i, i < ops.size → listed.getD i false = true) → Q .normal a' w') : (Code.region id ops true).wp P Q a w := by
  refine wp_region_any hm (wpAnyM (a0 := a) Φ Ω hp step fin _ _ _ _ (by simp) ?_ ?_)
  · unfold unl
    simp
  · refine ⟨h0 _ fun i => ?_, rfl, rfl, fun _ _ => rfl, fun i o t hi _ hl => ?_⟩
    · by_cases hi : i < ops.size <;> simp [Array.getD, hi]
    · exfalso
      have hlt := (Array.getElem?_eq_some_iff.1 hi).1
      simp [hlt] at hl
def PhiM (L : List Value) (i : Nat) (v : Value) : Prop := match L[i]? with
  | none => True
  | some x => v = x
theorem wpm_value {o : Oper} {a : Act} {w : World} {v : Value} {φ : Value → Prop} {ω : World → Prop} (hr : (execOp a.eval o).run P w = .ok (.value v) w) (h : φ v) (hw : ω w) : o.wp P a w (LeavesM o φ ω a) Q := by
  unfold Oper.wp
  rw [hr]
  exact ⟨v, rfl, h, hw⟩
theorem keptM_all {a0 a : Act} {w : World} {Φ : Nat → Value → Prop} {Ω : Array Bool → World → Prop} {listed : Array Bool} (ts : List Nat) (hf : KeptM ops a0 Φ Ω listed a w) (h : dstsIn ops ts = true) : a = { tmps := ts.foldl (fun T t => T.setIfInBounds t (a.eval (.tmp t))) a0.tmps, defers := a0.defers } :=
  fr_act ts hf.size hf.defers (fun t ht => hf.frame t (dstsIn_spec h t ht))
/-- Operation e turns w into w1, operation s, the last one, turns w1 into w2. -/
def Om (e s : Nat) (w w1 w2 : World) (listed : Array Bool) (W : World) : Prop :=
  (listed.getD s false = true → ∀ i, i < s → listed.getD i false = true) ∧ W = (if listed.getD s false = true then w2 else if listed.getD e false = true then w1 else w)
theorem om_start {e s : Nat} {w w1 w2 : World} {listed : Array Bool} (h : ∀ i, listed.getD i false = false) : Om e s w w1 w2 listed w := by
  refine ⟨fun h1 => ?_, ?_⟩
  · rw [h s] at h1; cases h1
  · rw [h s, h e]; rfl
theorem getD_set_eq {listed : Array Bool} {i : Nat} (h : i < listed.size) : (listed.setIfInBounds i true).getD i false = true := by simp [Array.getD, h]
theorem om_not {e s : Nat} {w w1 w2 W : World} {listed : Array Bool} {i : Nat} (h : Om e s w w1 w2 listed W) (hi : i < s) (hn : listed.getD i false = false) : listed.getD s false = false := by
  cases hs : listed.getD s false with
  | false => rfl
  | true => rw [h.1 hs i hi] at hn; cases hn
theorem om_skip {e s : Nat} {w w1 w2 W : World} {listed : Array Bool} {i : Nat} (h : Om e s w w1 w2 listed W) (hi : i < s) (he : i ≠ e) (hn : listed.getD i false = false) : Om e s w w1 w2 (listed.setIfInBounds i true) W := by
  have hs := om_not h hi hn
  have h2 := h.2
  rw [hs] at h2
  refine ⟨fun h1 => ?_, ?_⟩
  · rw [getD_set_ne false (by omega), hs] at h1; cases h1
  · rw [getD_set_ne false (by omega), getD_set_ne false he, hs]; exact h2
theorem om_is {e s : Nat} {w w1 w2 W : World} {listed : Array Bool} {i : Nat} (h : Om e s w w1 w2 listed W) (hi : i < s) (hn : listed.getD i false = false) : W = w ∨ W = w1 := by
  have h2 := h.2
  rw [om_not h hi hn, if_neg (by decide)] at h2
  split at h2
  · exact .inr h2
  · exact .inl h2
theorem om_e {e s : Nat} {w w1 w2 W : World} {listed : Array Bool} (h : Om e s w w1 w2 listed W) (hi : e < s) (hl : e < listed.size) (hn : listed.getD e false = false) : W = w ∧ Om e s w w1 w2 (listed.setIfInBounds e true) w1 := by
  have hs := om_not h hi hn
  have h2 := h.2
  rw [hs, if_neg (by decide), hn, if_neg (by decide)] at h2
  refine ⟨h2, fun h1 => ?_, ?_⟩
  · rw [getD_set_ne false (by omega), hs] at h1; cases h1
  · rw [getD_set_ne false (by omega), hs, getD_set_eq hl]; rfl
theorem om_s {e s : Nat} {w w1 w2 W : World} {listed : Array Bool} (h : Om e s w w1 w2 listed W) (hi : e < s) (hl : s < listed.size) (hn : listed.getD s false = false) (hall : ∀ i, i < s → listed.getD i false = true) : W = w1 ∧ Om e s w w1 w2 (listed.setIfInBounds s true) w2 := by
  have h2 := h.2
  rw [hn, if_neg (by decide), hall e hi, if_pos rfl] at h2
  refine ⟨h2, fun _ i h4 => ?_, ?_⟩
  · rw [getD_set_ne false (by omega)]; exact hall i h4
  · rw [getD_set_eq hl]; rfl
theorem om_fin {e s : Nat} {w w1 w2 W : World} {listed : Array Bool} (h : Om e s w w1 w2 listed W) (hs : listed.getD s false = true) : W = w2 := by
  have h2 := h.2
  rw [hs, if_pos rfl] at h2
  exact h2
end Go.Proofs.YtkhkncgndllkjaaDoor.Any
