/- The walk of the law BookEven, with what it wants of maps and of drawn regions that turn the world. Conditions: the two arrays of the program hold what their initialisers lay. -/
import Derived.Test.YtejdhemnlcbffaaDoorEAny
import Derived.Test.YtejdhemnlcbffaaDoorB21
import Derived.Maps.OwnSet
import Derived.Maps.RangeWalk
import Derived.DeepKeys4
import Derived.WideKeyEntry
namespace Go.Proofs.YtejdhemnlcbffaaDoor.Any
open Go.RowKit
variable {P : Program} {ops : Array Oper} {Q : Exit → Act → World → Prop}

/-- Each operation that has a place has one of its own, and each waits for earlier ones only. -/
def placedM (ops : Array Oper) (size : Nat) : Bool :=
  (List.range ops.size).all fun i => match ops[i]? with
    | none => false
    | some o => (match o.dst with
      | none => true
      | some t => decide (t < size) && (List.range ops.size).all fun j => decide (i = j) || (match ops[j]? with | none => true | some o' => o'.dst != some t)) &&
      o.after.all fun e => !Region.binds .any e || decide (e.on < i)
theorem placedM_one {ops : Array Oper} {size i : Nat} {o : Oper} (h : placedM ops size = true) (hi : ops[i]? = some o) :
    (∀ t, o.dst = some t → t < size ∧ ∀ j o', ops[j]? = some o' → i ≠ j → o'.dst ≠ some t) ∧ ∀ e ∈ o.after, Region.binds .any e = true → e.on < i := by
  have hlt : i < ops.size := (Array.getElem?_eq_some_iff.1 hi).1
  unfold placedM at h
  rw [List.all_eq_true] at h
  have h1 := h i (List.mem_range.2 hlt)
  rw [hi] at h1
  simp only [Bool.and_eq_true] at h1
  obtain ⟨h2, h3⟩ := h1
  refine ⟨fun t hd => ?_, fun e he hb => ?_⟩
  · rw [hd] at h2
    simp only [Bool.and_eq_true, decide_eq_true_eq, List.all_eq_true] at h2
    refine ⟨h2.1, fun j o' hj hne => ?_⟩
    have h4 := h2.2 j (List.mem_range.2 (Array.getElem?_eq_some_iff.1 hj).1)
    rw [hj] at h4
    simpa [hne] using h4
  · rw [Array.all_eq_true_iff_forall_mem] at h3
    have h5 := h3 e he
    rw [hb] at h5
    exact of_decide_eq_true h5
structure KeptM (ops : Array Oper) (a0 : Act) (Φ : Nat → Value → Prop) (Ω : Array Bool → World → Prop) (listed : Array Bool) (a : Act) (w : World) : Prop where
  world : Ω listed w
  defers : a.defers = a0.defers
  size : a.tmps.size = a0.tmps.size
  frame : ∀ t : Nat, (∀ (i : Nat) (o : Oper), ops[i]? = some o → o.dst ≠ some t) → a.eval (.tmp t) = a0.eval (.tmp t)
  done : ∀ (i : Nat) (o : Oper) (t : Nat), ops[i]? = some o → o.dst = some t → listed.getD i false = true → Φ i (a.eval (.tmp t))
def LeavesM (o : Oper) (φ : Value → Prop) (ω : World → Prop) (a a' : Act) (w' : World) : Prop := ∃ v, a' = a.put o.dst v ∧ φ v ∧ ω w'
theorem keptM_next {a0 : Act} {Φ : Nat → Value → Prop} {Ω : Array Bool → World → Prop} {listed : Array Bool} {a a' : Act} {w w' : World} {i : Nat} {o : Oper}
    (hp : placedM ops a0.tmps.size = true) (hi : ops[i]? = some o) (h : KeptM ops a0 Φ Ω listed a w)
    (hl : LeavesM o (Φ i) (Ω (listed.setIfInBounds i true)) a a' w') : KeptM ops a0 Φ Ω (listed.setIfInBounds i true) a' w' := by
  obtain ⟨v, rfl, hv, hb⟩ := hl
  obtain ⟨hd1, _⟩ := placedM_one hp hi
  refine ⟨hb, ?_, ?_, fun t' ht' => ?_, fun j o' t' hj hd hlj => ?_⟩
  · cases hd : o.dst with
    | none => exact h.defers
    | some t => exact h.defers
  · cases hd : o.dst with
    | none => exact h.size
    | some t => simp only [Act.put, Array.size_setIfInBounds]; exact h.size
  · rw [Act.eval_put (fun d hd e => by
      injection e with e
      exact ht' i o hi (by rw [e]; exact hd))]
    exact h.frame t' ht'
  · by_cases hij : i = j
    · subst hij
      have : o' = o := Option.some.inj (hj.symm.trans hi)
      subst this
      rw [hd, eval_put_same (by rw [h.size]; exact (hd1 t' hd).1)]
      exact hv
    · rw [getD_set_ne false hij] at hlj
      rw [Act.eval_put (fun d hd' e => by
        injection e with e
        exact (hd1 d hd').2 j o' hj hij (by rw [hd, e]))]
      exact h.done j o' t' hj hd hlj
theorem readyM_all {listed : Array Bool} {size : Nat} (hp : placedM ops size = true) (hs : listed.size = ops.size) (hr : Region.ready .any ops listed = []) : ∀ i, i < ops.size → listed.getD i false = true := by
  intro i
  induction i using Nat.strongRecOn with
  | ind i ih =>
    intro hi
    obtain ⟨o, ho⟩ : ∃ o, ops[i]? = some o := ⟨_, Array.getElem?_eq_getElem hi⟩
    obtain ⟨_, hback⟩ := placedM_one hp ho
    cases hv : listed.getD i false with
    | true => rfl
    | false =>
      exfalso
      have hlt : i < listed.size := by omega
      have hm : i ∈ Region.ready .any ops listed := mem_ready.2 ⟨by
        rw [← hv]
        simp [Array.getD, hlt], o, ho, fun e he hb => ih e.on (hback e he hb) (by have := hback e he hb; omega)⟩
      rw [hr] at hm
      cases hm
theorem wpAnyM {a0 : Act} (Φ : Nat → Value → Prop) (Ω : Array Bool → World → Prop) (hp : placedM ops a0.tmps.size = true)
    (step : ∀ (i : Nat) (o : Oper) (listed : Array Bool) (a : Act) (w : World), ops[i]? = some o → i < listed.size → listed.getD i false = false → KeptM ops a0 Φ Ω listed a w → (∀ e ∈ o.after, Region.binds .any e = true → listed.getD e.on false = true) → wpOp P ops Q i (LeavesM o (Φ i) (Ω (listed.setIfInBounds i true)) a) a w)
    (fin : ∀ (listed : Array Bool) (a : Act) (w : World), KeptM ops a0 Φ Ω listed a w → (∀ i, i < ops.size → listed.getD i false = true) → Q .normal a w) :
    ∀ (fuel : Nat) (listed : Array Bool) (a : Act) (w : World), listed.size = ops.size → unl listed = fuel → KeptM ops a0 Φ Ω listed a w → wpAny P .any ops Q fuel listed a w := by
  intro fuel
  induction fuel with
  | zero =>
    intro listed a w hs hu hk
    have hall : ∀ i, i < ops.size → listed.getD i false = true := fun i hi => unl_zero hu i (by omega)
    refine ⟨?_, fin listed a w hk hall⟩
    rw [List.eq_nil_iff_forall_not_mem]
    intro i hi
    rw [mem_ready] at hi
    obtain ⟨h0, o, ho, _⟩ := hi
    have hlt : i < listed.size := by rw [hs]; exact (Array.getElem?_eq_some_iff.1 ho).1
    have := unl_zero hu i hlt
    simp [Array.getD, hlt] at this h0
    rw [this] at h0
    cases h0
  | succ fuel ih =>
    intro listed a w hs hu hk
    refine ⟨fun hr => ?_, fun i hi => ?_⟩
    · have := all_unl (listed := listed) (fun i hi => readyM_all hp hs hr i (by omega))
      omega
    · have hi' := hi
      rw [mem_ready] at hi'
      obtain ⟨h0, o, ho, hall⟩ := hi'
      have hlt : i < listed.size := by rw [hs]; exact (Array.getElem?_eq_some_iff.1 ho).1
      refine wpOp_mono (fun a' w' hl => ?_) (step i o listed a w ho hlt (by rw [← h0]; simp [Array.getD, hlt]) hk hall)
      exact ih _ a' w' (by simp [hs]) (by have := unl_set h0; omega) (keptM_next hp ho hk hl)
/-- THE LAW, at a region. -/
theorem wp_region_m {id : Nat} {a : Act} {w : World} (hm : P.follows .mixedOrders = true) (Φ : Nat → Value → Prop) (Ω : Array Bool → World → Prop) (hp : placedM ops a.tmps.size = true) (h0 : ∀ listed : Array Bool, (∀ i, listed.getD i false = false) → Ω listed w.drew)
    (step : ∀ (i : Nat) (o : Oper) (listed : Array Bool) (a' : Act) (w' : World), ops[i]? = some o → i < listed.size → listed.getD i false = false → KeptM ops a Φ Ω listed a' w' → (∀ e ∈ o.after, Region.binds .any e = true → listed.getD e.on false = true) → wpOp P ops Q i (LeavesM o (Φ i) (Ω (listed.setIfInBounds i true)) a') a' w')
    (fin : ∀ (listed : Array Bool) (a' : Act) (w' : World), KeptM ops a Φ Ω listed a' w' → (∀ i, i < ops.size → listed.getD i false = true) → Q .normal a' w') : (Code.region id ops true).wp P Q a w := by
  refine wp_region_any hm (wpAnyM (a0 := a) Φ Ω hp step fin _ _ _ _ (by simp) ?_ ?_)
  · unfold unl
    simp
  · refine ⟨h0 _ fun i => ?_, rfl, rfl, fun _ _ => rfl, fun i o t hi _ hl => ?_⟩
    · by_cases hi : i < ops.size <;> simp [Array.getD, hi]
    · exfalso
      have hlt := (Array.getElem?_eq_some_iff.1 hi).1
      simp [hlt] at hl
def PhiM (L : List Value) (i : Nat) (v : Value) : Prop := match L[i]? with
  | none => True
  | some x => v = x
theorem wpm_value {o : Oper} {a : Act} {w : World} {v : Value} {φ : Value → Prop} {ω : World → Prop} (hr : (execOp a.eval o).run P w = .ok (.value v) w) (h : φ v) (hw : ω w) : o.wp P a w (LeavesM o φ ω a) Q := by
  unfold Oper.wp
  rw [hr]
  exact ⟨v, rfl, h, hw⟩
theorem keptM_all {a0 a : Act} {w : World} {Φ : Nat → Value → Prop} {Ω : Array Bool → World → Prop} {listed : Array Bool} (ts : List Nat) (hf : KeptM ops a0 Φ Ω listed a w) (h : dstsIn ops ts = true) : a = { tmps := ts.foldl (fun T t => T.setIfInBounds t (a.eval (.tmp t))) a0.tmps, defers := a0.defers } :=
  fr_act ts hf.size hf.defers (fun t ht => hf.frame t (dstsIn_spec h t ht))
/-- Operation e turns w into w1, operation s, the last one, turns w1 into w2. -/
def Om (e s : Nat) (w w1 w2 : World) (listed : Array Bool) (W : World) : Prop :=
  (listed.getD s false = true → ∀ i, i < s → listed.getD i false = true) ∧ W = (if listed.getD s false = true then w2 else if listed.getD e false = true then w1 else w)
theorem om_start {e s : Nat} {w w1 w2 : World} {listed : Array Bool} (h : ∀ i, listed.getD i false = false) : Om e s w w1 w2 listed w := by
  refine ⟨fun h1 => ?_, ?_⟩
  · rw [h s] at h1; cases h1
  · rw [h s, h e]; rfl
theorem getD_set_eq {listed : Array Bool} {i : Nat} (h : i < listed.size) : (listed.setIfInBounds i true).getD i false = true := by simp [Array.getD, h]
theorem om_not {e s : Nat} {w w1 w2 W : World} {listed : Array Bool} {i : Nat} (h : Om e s w w1 w2 listed W) (hi : i < s) (hn : listed.getD i false = false) : listed.getD s false = false := by
  cases hs : listed.getD s false with
  | false => rfl
  | true => rw [h.1 hs i hi] at hn; cases hn
theorem om_skip {e s : Nat} {w w1 w2 W : World} {listed : Array Bool} {i : Nat} (h : Om e s w w1 w2 listed W) (hi : i < s) (he : i ≠ e) (hn : listed.getD i false = false) : Om e s w w1 w2 (listed.setIfInBounds i true) W := by
  have hs := om_not h hi hn
  have h2 := h.2
  rw [hs] at h2
  refine ⟨fun h1 => ?_, ?_⟩
  · rw [getD_set_ne false (by omega), hs] at h1; cases h1
  · rw [getD_set_ne false (by omega), getD_set_ne false he, hs]; exact h2
theorem om_is {e s : Nat} {w w1 w2 W : World} {listed : Array Bool} {i : Nat} (h : Om e s w w1 w2 listed W) (hi : i < s) (hn : listed.getD i false = false) : W = w ∨ W = w1 := by
  have h2 := h.2
  rw [om_not h hi hn, if_neg (by decide)] at h2
  split at h2
  · exact .inr h2
  · exact .inl h2
theorem om_e {e s : Nat} {w w1 w2 W : World} {listed : Array Bool} (h : Om e s w w1 w2 listed W) (hi : e < s) (hl : e < listed.size) (hn : listed.getD e false = false) : W = w ∧ Om e s w w1 w2 (listed.setIfInBounds e true) w1 := by
  have hs := om_not h hi hn
  have h2 := h.2
  rw [hs, if_neg (by decide), hn, if_neg (by decide)] at h2
  refine ⟨h2, fun h1 => ?_, ?_⟩
  · rw [getD_set_ne false (by omega), hs] at h1; cases h1
  · rw [getD_set_ne false (by omega), hs, getD_set_eq hl]; rfl
theorem om_s {e s : Nat} {w w1 w2 W : World} {listed : Array Bool} (h : Om e s w w1 w2 listed W) (hi : e < s) (hl : s < listed.size) (hn : listed.getD s false = false) (hall : ∀ i, i < s → listed.getD i false = true) : W = w1 ∧ Om e s w w1 w2 (listed.setIfInBounds s true) w2 := by
  have h2 := h.2
  rw [hn, if_neg (by decide), hall e hi, if_pos rfl] at h2
  refine ⟨h2, fun _ i h4 => ?_, ?_⟩
  · rw [getD_set_ne false (by omega)]; exact hall i h4
  · rw [getD_set_eq hl]; rfl
theorem om_fin {e s : Nat} {w w1 w2 W : World} {listed : Array Bool} (h : Om e s w w1 w2 listed W) (hs : listed.getD s false = true) : W = w2 := by
  have h2 := h.2
  rw [hs, if_pos rfl] at h2
  exact h2
end Go.Proofs.YtejdhemnlcbffaaDoor.Any

namespace Go.Proofs.YtejdhemnlcbffaaDoor.Bok
open Go.RowKit Cht Ent
open Mny (Fits)

theorem laidM : laidOutB Tryd.prog = true := by kernel_rfl
theorem row27 : (27 : TypeId) < Tryd.prog.types.size := of_decide_eq_true (by kernel_rfl)
theorem wide27 : (match Tryd.prog.underlying 27 with | some (.array _ _) | some (.struct _) => true | _ => false) = true := by rw [Tryd.underlying27]
theorem law27 : WideMaps.KeyLaw Tryd.prog 27 := deep_law_laid laidM (m := 2) (by omega) row27 (by kernel_rfl) wide27
theorem keyed27 : Maps.Keyed Tryd.prog 27 := Maps.Keyed.of_law law27
theorem zero2 (w : World) : (zeroValue 2).run Tryd.prog w = .ok (.int .i64 0) w := by kernel_rfl
theorem size1 : ∃ m, Tryd.prog.types.size = m + 1 := ⟨Tryd.prog.types.size - 1, (Nat.succ_pred_eq_of_pos (Nat.lt_of_le_of_lt (Nat.zero_le 27) row27)).symm⟩
theorem type27 : Tryd.prog.keyType 27 = true := by kernel_rfl
theorem cells27 : Tryd.prog.cellsOf 27 = 2 := by kernel_rfl
theorem cells3 : Tryd.prog.cellsOf 3 = 1 := by kernel_rfl
theorem cells9 : Tryd.prog.cellsOf 9 = 1 := by kernel_rfl
theorem wfI {n : Int} (h : -9223372036854775808 ≤ n ∧ n ≤ 9223372036854775807) : (Lit.int .i64 n).wf = true := by
  simp [Lit.wf, IntKind.min, IntKind.max, IntKind.signed, IntKind.bits]
  omega
theorem key_ex (k : Int) (s : ByteArray) (hk : -9223372036854775808 ≤ k ∧ k ≤ 9223372036854775807) (hs : s.size ≤ maxLen) : ∃ l, keyOf Tryd.prog 27 (acc k s) = some l := by
  obtain ⟨m, hm⟩ := size1
  have hw := wfI hk
  unfold keyOf
  rw [Tryd.underlying27]
  simp only [type27, Bool.true_and]
  rw [if_pos (by simp [Value.formed, Tryd.underlying27, cells27])]
  rw [hm]
  unfold Program.keyLits
  rw [Tryd.underlying27]
  simp [Value.cells, cells27, cells3, cells9, Program.keyLits, Tryd.underlying3, Tryd.underlying9, hw, hs]
theorem key_inv {v : Value} {l : Lit} (h : keyOf Tryd.prog 27 v = some l) : ∃ (k : Int) (s : ByteArray), v = acc k s := by
  obtain ⟨m, hm⟩ := size1
  obtain ⟨xs, L, rfl, hl, -⟩ := keyOf_top wide27 h
  rw [hm] at hl
  unfold Program.keyLits at hl
  rw [Tryd.underlying27] at hl
  simp only at hl
  split at hl
  · rename_i h2
    obtain ⟨h2, -⟩ := h2
    rw [cells27] at h2
    obtain ⟨a, b, e⟩ : ∃ a b, xs.toList = [a, b] := match xs.toList, h2 with | [a, b], _ => ⟨a, b, rfl⟩
    rw [e] at hl
    have ex : xs = #[a, b] := by cases xs; simp_all
    subst ex
    simp only [List.mapM_cons, List.mapM_nil, List.drop_zero, cells3, cells9] at hl
    have ha : ∃ k, a = .int .i64 k := by
      cases a <;> simp [Program.keyLits, Tryd.underlying3] at hl
      rename_i q n
      by_cases hq : q = .i64
      · subst hq; exact ⟨_, rfl⟩
      · simp [hq] at hl
    obtain ⟨k, rfl⟩ := ha
    have hb : ∃ t, b = .string t := by
      cases b <;> simp [Program.keyLits, Tryd.underlying3, Tryd.underlying9] at hl
      exact ⟨_, rfl⟩
    obtain ⟨t, rfl⟩ := hb
    exact ⟨_, _, rfl⟩
  · cases hl
/-- What an account reads as, as a key. -/
noncomputable def keyL (x : Ln) : Lit := (keyOf Tryd.prog 27 (acc x.k x.s)).getD (.bool false)
theorem key_of {x : Ln} (h : fitA x) : keyOf Tryd.prog 27 (acc x.k x.s) = some (keyL x) := by
  obtain ⟨l, hl⟩ := key_ex x.k x.s h.1 (by have := h.2; unfold maxLen; omega)
  unfold keyL
  rw [hl]; rfl
theorem keyL_same {x y : Ln} (h : sameA x y = true) : keyL x = keyL y := by
  obtain ⟨h1, h2⟩ := same_iff.1 h
  unfold keyL; rw [h1, h2]
theorem keyL_inj {x y : Ln} (hx : fitA x) (hy : fitA y) (h : keyL x = keyL y) : sameA x y = true := by
  have h1 := key_of hx
  rw [h] at h1
  have := keyed27.inj h1 (key_of hy)
  injection this with this
  have e := congrArg Array.toList this
  simp at e
  exact same_iff.2 e
theorem isKey {x : Ln} (h : fitA x) : WideAt.IsKeyLit (keyL x) := keyed27.key (key_of h)
noncomputable abbrev Rm : Value → Option (DataW Unit × List MemPlace) := plainElem Tryd.prog 2
/-- Block b is a map that has, of each account, this amount; its keys are accounts. -/
def HadR (w : World) (b N : Nat) (f : Ln → Int) : Prop :=
  ∃ D : DataW Unit, w.ownsMap Tryd.prog 27 Rm b N D ∧ (∀ x, fitA x → D.atKey (keyL x) (.lit (.int .i64 0)) = .lit (.int .i64 (f x))) ∧ ∀ kl, Maps.has D kl = true → ∃ x, fitA x ∧ kl = keyL x
theorem had_new (w : World) : HadR (w.alloc (.map #[] 0)) w.heap.size 0 (fun _ => 0) :=
  ⟨.map [], World.ownsMap_made _ _ _ _, fun _ _ => rfl, fun kl h => by rw [Maps.has_eq] at h; simp at h⟩
theorem grownM {w w' : World} (h : Below w.heap.size w w') : w.grownBy w' none := ⟨h.os, h.tape, h.output, h.size, fun i hi _ => h.block i hi⟩
theorem HadR.kept {w w' : World} {b N : Nat} {f : Ln → Int} {row : Option Nat} (h : HadR w b N f) (hg : w.grownBy w' row) (hne : some b ≠ row) : HadR w' b N f := by
  obtain ⟨D, h1, h2⟩ := h
  exact ⟨D, h1.kept hg hne, h2⟩
theorem HadR.next {w w' : World} {b N : Nat} {f : Ln → Int} (h : HadR w b N f) (hb : Below w.heap.size w w') : HadR w' b N f := h.kept (grownM hb) (by simp)
theorem HadR.lt {w : World} {b N : Nat} {f : Ln → Int} (h : HadR w b N f) : b < w.heap.size := by
  obtain ⟨D, h1, h2⟩ := h
  exact h1.lt
theorem HadR.mono {w : World} {b N N' : Nat} {f : Ln → Int} (h : HadR w b N f) (hn : N ≤ N') : HadR w b N' f := by
  obtain ⟨D, h1, h2⟩ := h
  exact ⟨D, h1.mono hn, h2⟩
theorem HadR.drew {w : World} {b N : Nat} {f : Ln → Int} (h : HadR w b N f) : HadR w.drew b N f := h
theorem HadR.same {w : World} {b N : Nat} {f g : Ln → Int} (h : HadR w b N f) (hf : ∀ x, f x = g x) : HadR w b N g := by
  obtain ⟨D, h1, h2, h3⟩ := h
  exact ⟨D, h1, fun x hx => by rw [← hf x]; exact h2 x hx, h3⟩
theorem owns_heap {w w' : World} {b N : Nat} {D : DataW Unit} (h : w.ownsMap Tryd.prog 27 Rm b N D) (he : w'.heap[b]? = w.heap[b]?) : w'.ownsMap Tryd.prog 27 Rm b N D := by
  obtain ⟨es, clock, hb, h2⟩ := h
  exact ⟨es, clock, he.trans hb, h2⟩
theorem lit_inj {a b : Int} (h : (DataW.lit (.int .i64 a) : DataW Unit) = .lit (.int .i64 b)) : a = b := by
  injection h with h
  injection h
theorem ok_w {α : Type} {a b : α} {w w' : World} (h : (Result.ok a w : Result α) = .ok b w') : w = w' := by injection h
theorem ok_v {α : Type} {a b : α} {w w' : World} (h : (Result.ok a w : Result α) = .ok b w') : a = b := by injection h
theorem int_v {a b : Int} (h : Value.int .i64 a = .int .i64 b) : a = b := by injection h
open ChangeMaps (setBlock heap_setBlock_same heap_setBlock_other) in
set_option maxRecDepth 20000 in
/-- 'm[k] += n', in whatever order its parts run. -/
theorem had_step {w : World} {b N : Nat} {f : Ln → Int} (h : HadR w b N f) (hN : N ≤ 100000) (x : Ln) (hx : fitA x) :
    (Instr.lookup 42 (.map (some b)) (acc x.k x.s) false).run Tryd.prog w = .ok (.int .i64 (f x)) w ∧
    ∃ (v0 : Value) (st : Nat) (w1 : World), (Instr.mapEntry 42 (.map (some b)) (acc x.k x.s)).run Tryd.prog w = .ok (.tuple #[v0, goInt st]) w1 ∧
      (Instr.lookup 42 (.map (some b)) (acc x.k x.s) false).run Tryd.prog w1 = .ok (.int .i64 (f x)) w1 ∧ w.grownBy w1 (some b) ∧
      ∀ val : Int, (-9223372036854775808 ≤ val ∧ val ≤ 9223372036854775807) → ∃ w2, (Instr.entryStore 42 (.map (some b)) (goInt st) (.int .i64 val)).run Tryd.prog w1 = .ok () w2 ∧ HadR w2 b (N + 1) (fun a => if sameA x a = true then val else f a) ∧ w.grownBy w2 (some b) := by
  obtain ⟨D, hown, hat, hhas⟩ := h
  have hkey := key_of hx
  have hI := hown.isMap
  have hlook : ∀ w', w'.heap[b]? = w.heap[b]? → (Instr.lookup 42 (.map (some b)) (acc x.k x.s) false).run Tryd.prog w' = .ok (.int .i64 (f x)) w' := fun w' he => by
    obtain ⟨c, h1, h2, -⟩ := (owns_heap hown he).lookup_int keyed27 Tryd.underlying42 Tryd.underlying2 (zero2 w') hkey
    rw [hat x hx] at h2
    rw [lit_inj h2]; exact h1
  refine ⟨hlook w rfl, ?_⟩
  obtain ⟨es, clock, hb, F, hs, hD⟩ := id hown
  obtain ⟨v0, st, es1, clock1, he1, -, hst⟩ := WideElems.entry_then_store law27 Tryd.underlying42 zero2 hb F hkey
  have hg : ∀ o, w.grownBy (setBlock w b o) (some b) := fun o => ⟨rfl, rfl, rfl, by simp [setBlock], fun i _ hi => heap_setBlock_other hb _ (fun e => hi (by rw [e]))⟩
  have hb1 : (setBlock w b (.map es1 clock1)).heap[b]? = some (.map es1 clock1) := heap_setBlock_same hb _
  refine ⟨v0, st, _, he1, ?_, hg _, fun val hval => ?_⟩
  · rcases law27.find w hkey es.toList F.keys with ⟨h1, h2⟩ | ⟨j, e0, h1, h2, h3⟩
    · have r1 : (Instr.mapEntry 42 (.map (some b)) (acc x.k x.s)).run Tryd.prog w = .ok (.tuple #[.int .i64 0, goInt clock]) (setBlock w b (.map (es.push ⟨acc x.k x.s, .int .i64 0, clock⟩) (clock + 1))) := by
        simp [Instr.mapEntry, run_underlying Tryd.underlying42, MapKept.run_getObj_map hb, law27.check w false hkey, h1, MapKept.run_setObj_map _ hb, Result.andThen, setBlock]
      have r2 : (Instr.mapUpdate 42 (.map (some b)) (acc x.k x.s) (.int .i64 0)).run Tryd.prog w = .ok () (setBlock w b (.map (es.push ⟨acc x.k x.s, .int .i64 0, clock⟩) (clock + 1))) := by
        simp [Instr.mapUpdate, run_underlying Tryd.underlying42, MapKept.run_getObj_map hb, law27.check w false hkey, h1, MapKept.run_setObj_map _ hb, Result.andThen, setBlock]
      have r3 : (Instr.lookup 42 (.map (some b)) (acc x.k x.s) false).run Tryd.prog w = .ok (.int .i64 0) w := by
        simp [Instr.lookup, run_underlying Tryd.underlying42, MapKept.run_getObj_map hb, law27.check w _ hkey, h1, Result.andThen]
      have hf0 : f x = 0 := int_v (ok_v ((hlook w rfl).symm.trans r3))
      obtain ⟨w', u1, u2, -⟩ := hown.update keyed27 Tryd.underlying42 (by unfold maxLen; omega) hkey (plainElem_int (H := Unit) Tryd.underlying2 (a := 0) (wfI (by omega)))
      have u1 := ok_w (r2.symm.trans u1)
      have r1 := ok_w (he1.symm.trans r1)
      rw [r1, u1]
      obtain ⟨c, q1, q2, -⟩ := u2.lookup_int keyed27 Tryd.underlying42 Tryd.underlying2 (zero2 w') hkey
      rw [Maps.atKey_put_same hI (isKey hx)] at q2
      rw [hf0, lit_inj q2]; exact q1
    · have hj : es[j]? = some e0 := by simpa using h2
      have hsame : es.modify j (fun e => { e with key := acc x.k x.s }) = es := by
        apply Array.ext_getElem?
        intro i
        rw [Array.getElem?_modify]
        split
        · rename_i hij
          subst hij
          rw [hj, ← h3]; rfl
        · rfl
      have r1 : (Instr.mapEntry 42 (.map (some b)) (acc x.k x.s)).run Tryd.prog w = .ok (.tuple #[e0.val, goInt e0.born]) (setBlock w b (.map es clock)) := by
        simp [Instr.mapEntry, run_underlying Tryd.underlying42, MapKept.run_getObj_map hb, law27.check w false hkey, h1, hj, h3, law27.stays w hkey, hsame, MapKept.run_setObj_map _ hb, Result.andThen, setBlock]
      have r1 := ok_w (he1.symm.trans r1)
      rw [r1]
      exact hlook _ ((heap_setBlock_same hb _).trans hb.symm)
  · obtain ⟨es', clock', hrun, hupd⟩ := hst (setBlock w b (.map es1 clock1)) (.int .i64 val) hb1
    obtain ⟨w', u1, u2, -⟩ := hown.update keyed27 Tryd.underlying42 (by unfold maxLen; omega) hkey (plainElem_int (H := Unit) Tryd.underlying2 (wfI hval))
    have u1 := ok_w (hupd.symm.trans u1)
    refine ⟨_, hrun, ⟨_, owns_heap u2 ?_, fun a ha => ?_, fun kl hkl => ?_⟩, ?_⟩
    · rw [← u1, heap_setBlock_same hb, heap_setBlock_same hb1]
    · dsimp only
      cases hs9 : sameA x a with
      | true => rw [if_pos rfl, ← keyL_same hs9, Maps.atKey_put_same hI (isKey hx)]
      | false =>
        rw [if_neg (by decide), Maps.atKey_put_other (fun e => by rw [keyL_inj hx ha e.symm] at hs9; cases hs9)]
        exact hat a ha
    · by_cases e : kl = keyL x
      · exact ⟨x, hx, e⟩
      · rw [Maps.has_put_other e] at hkl
        exact hhas kl hkl
    · exact ⟨rfl, rfl, rfl, by simp [setBlock], fun i hi hne => (heap_setBlock_other hb1 _ (fun e => hne (by rw [e]))).trans (heap_setBlock_other hb _ (fun e => hne (by rw [e])))⟩
end Go.Proofs.YtejdhemnlcbffaaDoor.Bok

namespace Go.Proofs.YtejdhemnlcbffaaDoor.Bok
open Go.RowKit Cht Ent
open Mny (Fits)

/-- How many balances there are whose key is still to come. -/
noncomputable def toCome (b : List Ln) (left : Lit → Bool) : Nat := (b.filter (fun x => left (keyL x))).length
theorem come_none {b : List Ln} {left : Lit → Bool} (h : ∀ kl, left kl = false) : toCome b left = 0 := by
  unfold toCome
  rw [List.filter_eq_nil_iff.2 fun x _ => by rw [h]; decide]; rfl
theorem come_all {b : List Ln} {left : Lit → Bool} (h : ∀ x ∈ b, left (keyL x) = true) : toCome b left = b.length := by
  unfold toCome
  rw [List.filter_eq_self.2 h]
theorem ris_pair {l : List Ln} (h : Ris l) : l.Pairwise (fun x y => sameA x y = false) := List.pairwise_iff_getElem.2 fun i j hi hj hij => lt_not_same (List.pairwise_iff_getElem.1 h.lt i j hi hj hij)
attribute [local irreducible] keyL in
theorem come_step {b : List Ln} {left : Lit → Bool} {a : Ln} (hp : b.Pairwise (fun x y => sameA x y = false)) (hz : ∀ x ∈ b, x.n ≠ 0) (hf : ∀ x ∈ b, fitA x) (ha : fitA a) (hl : left (keyL a) = true) :
    toCome b left = toCome b (fun z => left z && !z.sameKey (keyL a)) + (if onL b a = 0 then 0 else 1) := by
  have hk : ∀ x, fitA x → (keyL x).sameKey (keyL a) = sameA x a := fun x hx => by
    cases hs : sameA x a with
    | true => rw [keyL_same hs]; exact WideAt.sameKey_self (isKey ha)
    | false =>
      cases h2 : (keyL x).sameKey (keyL a) with
      | false => rfl
      | true => rw [keyL_inj hx ha (WideAt.sameKey_eq h2)] at hs; cases hs
  unfold toCome
  induction b with
  | nil => rfl
  | cons y b ih =>
    obtain ⟨hp1, hp2⟩ := List.pairwise_cons.1 hp
    have ih' := ih hp2 (fun x hx => hz x (List.mem_cons_of_mem _ hx)) (fun x hx => hf x (List.mem_cons_of_mem _ hx))
    have hy := hf y List.mem_cons_self
    rw [onL_cons]
    cases hs : sameA y a with
    | true =>
      have h1 : left (keyL y) = true := by rw [keyL_same hs]; exact hl
      have hno : ∀ x ∈ b, sameA x a = false := fun x hx => by
        cases h2 : sameA x a with
        | false => rfl
        | true =>
          have := hp1 x hx
          rw [same_trans hs (same_symm h2)] at this; cases this
      rw [onL_none hno, if_pos rfl, Nat.add_zero] at ih'
      rw [if_pos rfl, if_neg (hz y List.mem_cons_self), List.filter_cons_of_pos (by simpa using h1), List.filter_cons_of_neg (by show ¬ (left (keyL y) && !(keyL y).sameKey (keyL a)) = true; rw [hk y hy, hs]; simp), List.length_cons, ih']
    | false =>
      have e9 : (if false = true then y.n else onL b a) = onL b a := if_neg (by decide)
      rw [e9]
      cases h1 : left (keyL y) with
      | true => rw [List.filter_cons_of_pos (by simpa using h1), List.filter_cons_of_pos (by show (left (keyL y) && !(keyL y).sameKey (keyL a)) = true; rw [hk y hy, hs, h1]; rfl), List.length_cons, List.length_cons, ih']; omega
      | false => rw [List.filter_cons_of_neg (by rw [h1]; decide), List.filter_cons_of_neg (by show ¬ (left (keyL y) && !(keyL y).sameKey (keyL a)) = true; rw [h1]; simp), ih']
end Go.Proofs.YtejdhemnlcbffaaDoor.Bok

namespace Go.Proofs.YtejdhemnlcbffaaDoor.Bok
open Go.RowKit Cht Ent
open Go.Proofs.YtejdhemnlcbffaaDoor.Any
open Mny (Fits)

/-- A row of cells stays where a map turns. -/
theorem own_mapped {W W' : World} {base e s n b N : Nat} {v : Value} {xs : List Value} {f : Ln → Int} (h : W.ownsRow base e s v n xs) (hm : HadR W b N f) (hg : W.grownBy W' (some b)) : W'.ownsRow base e s v n xs := by
  refine h.kept hg ?_
  rcases h.2 with ⟨rfl, _⟩ | ⟨g, cap, cur, rfl, _, hgb, _⟩
  · exact .inl rfl
  · refine .inr fun e9 => ?_
    obtain ⟨D, ⟨es, clock, hb, _⟩, _⟩ := hm
    simp [Value.ownBlock] at e9
    subst e9
    rw [hgb] at hb; cases hb
theorem below_map {B b : Nat} {w W W' : World} (h : Below B w W) (hg : W.grownBy W' (some b)) (hb : B ≤ b) (hz : B ≤ W.heap.size) : Below B w W' := h.grown hg hz (fun j hj => by injection hj with hj; omega)
theorem cell_map {W W' : World} {b : Nat} {p : Addr} {u : Value} (hg : W.grownBy W' (some b)) (h : W.cell? p = some u) (hp : p.block < b) : W'.cell? p = some u := hg.cell h (fun e => by injection e with e; omega)
theorem onS_take {l : List Ln} {j : Nat} (h : j < l.length) (a : Ln) : onS (l.take (j + 1)) a = onS (l.take j) a + (if sameA l[j] a = true then l[j].n else 0) := by
  rw [List.take_succ_eq_append_getElem h, onS_append, onS_cons, onS_nil]; omega
theorem onS_before {l : List Ln} (hm : mayL l = true) {j : Nat} (h : j < l.length) : onS (l.take j) l[j] = 0 := by
  unfold onS
  rw [List.filter_eq_nil_iff.2]
  · rfl
  · intro x hx
    obtain ⟨t, ht, rfl⟩ := List.getElem_of_mem hx
    rw [List.length_take] at ht
    rw [List.getElem_take, mayL_apart hm (i := t) (j := j) (by omega) h]; decide
theorem onS_same (xs : List Ln) {a b : Ln} (h : sameA a b = true) : onS xs a = onS xs b := by
  obtain ⟨h1, h2⟩ := same_iff.1 h
  unfold onS sameA
  rw [h1, h2]

set_option maxRecDepth 100000 in
set_option maxHeartbeats 6400000 in
theorem even_walk (A' : Option Addr) (inp : List Ev) (m' c' : Nat) (w : World) (hE : Env w) (h' : RdEs w A' inp m' c') :
    Calls Tryd.prog 4 #[.slice A' m' c'] w fun e w' => e = .returned (.bool true) ∧ Below w.heap.size w w' := by
  have HFitE := Lib.hid (fun (evs : List Ev) (he : evs.map Ev.en = fewEs inp) => fewEs_in he (fun i hi x hx => (h'.rd i hi).fit x hx))
  have HE := Lib.hid hE
  have HFe := Lib.hid (ents_at w w.heap.size A' inp m' c' h' (Below.refl _ _) (Nat.le_refl _) w (Below.refl _ _))
  have HAw := Lib.hid (fun W (hb : Below w.heap.size w W) => awake_any W (HE.out.below hb))
  clear hE h'
  have hmm := @run_makeMap Tryd.prog
  go_enter Tryd.func4, Tryd.ntmps4
  go_wp2_with fail
  refine HFe.out.mono ?_
  rintro e w1 ⟨Ae, ne, E, rfl, hoe, hme, hle, hb1⟩
  obtain ⟨hE20, hFE⟩ := HFitE.out E hme
  have HFE := Lib.hid hFE
  have HEV := Lib.hid (evat_of hoe rfl)
  have HLE := Lib.hid hle
  have HB1 := Lib.hid hb1
  have hz1 := hb1.size
  obtain ⟨n, hn⟩ : ∃ n, n = E.length := ⟨_, rfl⟩
  have HN := Lib.hid hn
  rw [← hn] at hE20 ⊢
  clear hn hFE hoe hme hle hb1 HFitE HFe
  obtain ⟨w2, hw2⟩ : ∃ w2, w2 = w1.alloc (.map #[] 0) := ⟨_, rfl⟩
  have hz2 : w2.heap.size = w1.heap.size + 1 := by rw [hw2, World.size_alloc]
  have HM2 : Hid (HadR w2 w1.heap.size 0 (onL [])) := by
    show HadR _ _ _ _
    rw [hw2]; exact (had_new w1).same fun x => rfl
  have HB2 : Hid (Below w1.heap.size w1 w2) := by rw [hw2]; exact (Below.refl _ _).alloc (Nat.le_refl _) _
  have HW2 := Lib.hid hw2
  clear hw2
  go_upto_region 4 with fail
  rw [← HW2.out]
  clear HW2
  obtain ⟨bm, hbm⟩ : ∃ bm, bm = w1.heap.size := ⟨_, rfl⟩
  have HBM := Lib.hid hbm
  rw [← hbm] at HM2 HB2 hz2 ⊢
  clear hbm hmm
  go_wp2_with fail
  go_loopw [3, 5] (fun v i wr => ∃ (k N : Nat) (l : List Ln), k ≤ n ∧ i = .int .i64 k ∧ N ≤ 10 * k ∧ l.length ≤ 200 ∧ Hid (OwnB wr w.heap.size v l) ∧ Hid (mayB l = true) ∧ Hid (FitB l) ∧ Hid (HadR wr bm N (onL l)) ∧ Hid (Below bm w1 wr)) (fun _ i _ => n - (intOf i).toNat)
  case atStart => exact ⟨0, 0, [], Nat.zero_le _, rfl, Nat.zero_le _, Nat.zero_le _, World.ownsRow_nil _ _ _ _, by show _ = _; decide +kernel, fun x hx => absurd hx (by simp), HM2.out, HB2.out⟩
  case round =>
    obtain ⟨k, N, l, hk, rfl, hN, hl200, HO, HMY, HF, HM, HB⟩ := hrel
    have hwr : bm ≤ wr.heap.size := by have := HM.out.lt; omega
    have HBw : Hid (Below w.heap.size w wr) := HB1.out.trans (HB.out.mono (by rw [HBM.out]; exact hz1))
    by_cases hlt : k < n
    · have hki : (k : Int) < n := by omega
      have hlt' : k < E.length := by have := HN.out; omega
      have hmem := List.getElem_mem hlt'
      obtain ⟨f1, f2, f3⟩ := HFE.out _ hmem
      have hle : wr.ownsRow w.heap.size 44 3 (.slice E[k].A E[k].l.length E[k].c) E[k].l.length (lcs E[k].l) ∧ E[k].l.length ≤ E[k].c := by
        obtain ⟨g1, g2⟩ := HLE.out _ hmem
        exact ⟨own_below g1 (by rw [← HBM.out]; exact HB.out), g2⟩
      have HEK : Hid (∀ W, Below bm w1 W → ∃ b0 o0, Ae = some ⟨b0, o0, none⟩ ∧ b0 < bm ∧ W.cell? ⟨b0, o0 + k * 3, none⟩ = some (.int .i64 E[k].b) ∧ W.cell? ⟨b0, o0 + k * 3 + 1, none⟩ = some (.string E[k].r) ∧ W.cell? ⟨b0, o0 + k * 3 + 2, none⟩ = some (.slice E[k].A E[k].l.length E[k].c)) := fun W hW => by
        have := (HEV.out.below (B' := bm) hW (by rw [HBM.out]; exact Nat.le_refl _)) k hlt'
        rw [← HBM.out] at this
        exact this
      have HLN : Hid (∀ W, Below bm w1 W → Lns W bm E[k].A E[k].l ) := fun W hW => by
        have := (lns_of (HLE.out _ hmem).1 rfl)
        rw [← HBM.out] at this
        exact this.below hW (Nat.le_refl _)
      generalize E[k] = y at *
      obtain ⟨yb, yr, yA, yc, yl⟩ := y
      dsimp only at *
      obtain ⟨Ab, nb, rfl, hnb⟩ := own_sl HO.out
      obtain ⟨ml, hml⟩ : ∃ ml, ml = l.length := ⟨_, rfl⟩
      have HML := Lib.hid hml
      obtain ⟨yn, hyn⟩ : ∃ yn, yn = yl.length := ⟨_, rfl⟩
      have HYN := Lib.hid hyn
      have hP := post1_any Ab l ml nb yb yr yA yl yn yc wr (HE.out.below HBw.out) (own_lns HO.out rfl) hml.symm (by omega) HF.out (lns_of hle.1 rfl) hyn.symm (by omega) (by rw [hyn]; exact hle.2) f3
      have HP := Lib.hid hP
      have HFX := Lib.hid f3
      obtain ⟨b0, o0, rfl, hb0, q1, q2, q3⟩ := HEK.out wr HB.out
      rw [← hyn] at q3 f2 HEK
      rw [← hml] at hl200 hnb ⊢
      clear hP hle hyn hml f1 f3 hmem
      go_wp2_with fail
      refine HP.out.mono ?_
      rintro e w3 hpo
      obtain ⟨Ac, nc, rfl, hoc, hnc, hb3⟩ := posted_sl hpo
      have hpl := post1_len l yl yb yr
      have hbk0 := fun h0 => post1_book (l := l) (xs := yl) (b := yb) (r := yr) h0 HF.out HFX.out
      have hchk := fun h0 => chk_zero (postL_in (post1_in (l := l) (xs := yl) (b := yb) (r := yr) h0).2.1).1
      have hno := post1_two l yl yb yr
      have HO3 := Lib.hid (own_below HO.out hb3)
      have HM3 := Lib.hid (HM.out.next hb3)
      have HB3 := Lib.hid (HB.out.trans (hb3.mono hwr))
      have hz3 := hb3.size
      have HBw3 : Hid (Below w.heap.size w w3) := HB1.out.trans (HB3.out.mono (by rw [HBM.out]; exact hz1))
      have HOC := Lib.hid (own_mono (base' := w.heap.size) hoc HBw.out.size)
      clear hpo hoc hb3 q1 q2 q3 HP HO HM HB HBw
      generalize (post1 l yb yr yl).1 = pc at *
      generalize (post1 l yb yr yl).2 = C at *
      obtain ⟨mc, hmc⟩ : ∃ mc, mc = C.length := ⟨_, rfl⟩
      have HMC := Lib.hid hmc
      rw [← hmc] at hpl hnc ⊢
      by_cases hpc : pc = 0
      case neg =>
        have hp' : (pc != 0) = true := by simpa using hpc
        obtain rfl : mc = 0 := by rw [hmc, hno hpc]; rfl
        have HO9 : Hid (OwnB w3 w.heap.size (.slice Ab ml nb) l) := by rw [HML.out]; exact HO3.out
        clear hpc hmc hno hbk0 hchk HO3
        go_wp2_with fail
        go_roundw
        case rel => exact ⟨k + 1, N, l, by omega, by go_num, by omega, by rw [← HML.out]; exact hl200, HO9.out, HMY.out, HF.out, HM3.out, HB3.out⟩
        case measure => simp [intOf]; omega
      case pos =>
      subst hpc
      obtain ⟨hm0, hf0, hon⟩ := hbk0 rfl
      have HMYC := Lib.hid hm0
      have HFC := Lib.hid hf0
      have HON := Lib.hid hon
      have HCH := Lib.hid (hchk rfl).1
      have HO9 : Hid (OwnB w3 w.heap.size (.slice Ac mc nc) C) := by rw [hmc]; exact HOC.out
      clear hm0 hf0 hon hbk0 hchk hno hmc HOC HO3
      obtain ⟨wo, rfl⟩ : ∃ z, z = wr := ⟨wr, rfl⟩
      go_wp2_with fail
      go_loopw [8] (fun q wr => ∃ j : Nat, j ≤ yn ∧ q = .int .i64 j ∧ Hid (HadR wr bm (N + j) (fun a => onL l a + onS (yl.take j) a)) ∧ Hid (OwnB wr w.heap.size (.slice Ac mc nc) C) ∧ Hid (Below bm w1 wr)) (fun q _ => yn - (intOf q).toNat)
      case atStart => exact ⟨0, Nat.zero_le _, rfl, HM3.out.same (fun x => by rw [List.take_zero, onS_nil]; omega), HO9.out, HB3.out⟩
      case round =>
        obtain ⟨j, hj, rfl, HM, HO, HB⟩ := hrel
        have hwr : bm < wr.heap.size := HM.out.lt
        have HBw : Hid (Below w.heap.size w wr) := HB1.out.trans (HB.out.mono (by rw [HBM.out]; exact hz1))
        obtain ⟨b9, o9, e9, -, q1, q2, q3⟩ := HEK.out wr HB.out
        injection e9 with e9
        injection e9 with e8 e9
        subst e8 e9
        by_cases hlt2 : j < yn
        · have hji : (j : Int) < yn := by omega
          have hj' : j < yl.length := by have := HYN.out; omega
          obtain ⟨b8, o8, rfl, hb8, z1, z2, z3⟩ := HLN.out wr HB.out j hj'
          have hfz := HFX.out _ (List.getElem_mem hj')
          have hzon : onL yl yl[j] = yl[j].n := by
            rw [← onS_may HCH.out]
            exact (onS_may HCH.out _).trans (onL_self (List.pairwise_iff_getElem.2 fun _ _ _ hj hij => mayL_apart HCH.out hij hj) _ (List.getElem_mem hj'))
          obtain ⟨fz, hfz0⟩ : ∃ fz, fz = onL l yl[j] := ⟨_, rfl⟩
          have hft : onL l yl[j] + onS (yl.take j) yl[j] = fz := by rw [onS_before HCH.out hj', hfz0]; omega
          obtain ⟨vz, hvz⟩ : ∃ vz, vz = fz + yl[j].n := ⟨_, rfl⟩
          have hvC : vz = onL C yl[j] := by rw [HON.out, hzon, hvz, hfz0]
          have hvb : -9223372036854775808 ≤ vz ∧ vz ≤ 9223372036854775807 := by rw [hvC]; exact onL_fit HFC.out _
          have HST : Hid (∀ a, (if sameA yl[j] a = true then vz else onL l a + onS (yl.take j) a) = onL l a + onS (yl.take (j + 1)) a) := fun a => by
            rw [onS_take hj']
            cases hs : sameA yl[j] a with
            | false => simp
            | true => simp only [if_true]; rw [← onL_same hs, ← onS_same _ hs, hvz, ← hft]; omega
          obtain ⟨h10, v0, st, w5, h21, h10b, hg5, hst⟩ := had_step HM.out.drew (by omega) yl[j] ⟨hfz.1, hfz.2.1⟩
          obtain ⟨w6, h23, had6, hg6⟩ := hst vz hvb
          rw [hft] at h10 h10b
          have HHAD : Hid (HadR w6 bm (N + (j + 1)) (fun a => onL l a + onS (yl.take (j + 1)) a)) := had6.same HST.out
          have HOW := Lib.hid (own_mapped (W := wr.drew) HO.out HM.out.drew hg6)
          have HB6 : Hid (Below bm w1 w6) := below_map (W := wr.drew) (drewB1 HB.out) hg6 (Nat.le_refl _) (Nat.le_of_lt hwr)
          have HFCL : Hid (∀ W, (W = wr.drew ∨ W = w5) → W.cell? ⟨b0, o0 + k * 3 + 2, none⟩ = some (.slice (some ⟨b8, o8, none⟩) yn yc) ∧ W.cell? ⟨b8, o8 + j * 3, none⟩ = some (.int .i64 yl[j].k) ∧ W.cell? ⟨b8, o8 + j * 3 + 1, none⟩ = some (.string yl[j].s) ∧ W.cell? ⟨b8, o8 + j * 3 + 2, none⟩ = some (.int .i64 yl[j].n)) := fun W hW => by
            rcases hW with rfl | rfl
            · exact ⟨q3, z1, z2, z3⟩
            · exact ⟨cell_map hg5 (W := wr.drew) q3 hb0, cell_map hg5 (W := wr.drew) z1 hb8, cell_map hg5 (W := wr.drew) z2 hb8, cell_map hg5 (W := wr.drew) z3 hb8⟩
          have HVZ := Lib.hid hvz
          have HVB := Lib.hid hvb
          have H10 := Lib.hid h10
          have H10b := Lib.hid h10b
          have H21 := Lib.hid h21
          have H23 := Lib.hid h23
          have HFC := HFCL
          clear hfz hzon hfz0 hft hvz hvC hvb HST h10 h21 h10b hg5 hst h23 had6 hg6 HFCL z1 z2 z3
          generalize yl[j] = z at *
          go_upto_region 15 with fail
          clear q1 q2 q3
          refine wp_region_m (by kernel_rfl) (PhiM [.map (some bm), .slice (some ⟨b0, o0, none⟩) n ne, .int .i64 k, .pointer (some ⟨b0, o0 + k * 3, none⟩), .pointer (some ⟨b0, o0 + k * 3 + 2, none⟩), .slice (some ⟨b8, o8, none⟩) yn yc, .int .i64 j, .pointer (some ⟨b8, o8 + j * 3, none⟩), .pointer (some ⟨b8, o8 + j * 3, none⟩), acc z.k z.s, .int .i64 fz, .slice (some ⟨b0, o0, none⟩) n ne, .int .i64 k, .pointer (some ⟨b0, o0 + k * 3, none⟩), .pointer (some ⟨b0, o0 + k * 3 + 2, none⟩), .slice (some ⟨b8, o8, none⟩) yn yc, .int .i64 j, .pointer (some ⟨b8, o8 + j * 3, none⟩), .pointer (some ⟨b8, o8 + j * 3 + 2, none⟩), .int .i64 z.n, .int .i64 vz, .tuple #[v0, .int .i64 st], .int .i64 st]) (Om 21 23 wr.drew w5 w6) (by kernel_rfl) (fun _ h => om_start h) ?step15 ?fin15
          case step15 =>
            intro i o listed a1 w9 ho hls hn hk hdep
            have hi : i < 24 := (Array.getElem?_eq_some_iff.1 ho).1
            have e0 := ev (show a1.eval (.tmp 0) = .slice (some ⟨b0, o0, none⟩) n ne from hk.frame 0 (frame_of (by kernel_rfl)))
            have e4 := ev (show a1.eval (.tmp 4) = .map (some bm) from hk.frame 4 (frame_of (by kernel_rfl)))
            have e5 := ev (show a1.eval (.tmp 5) = .int .i64 k from hk.frame 5 (frame_of (by kernel_rfl)))
            have e8 := ev (show a1.eval (.tmp 8) = .int .i64 j from hk.frame 8 (frame_of (by kernel_rfl)))
            have hii : i = 0 ∨ i = 1 ∨ i = 2 ∨ i = 3 ∨ i = 4 ∨ i = 5 ∨ i = 6 ∨ i = 7 ∨ i = 8 ∨ i = 9 ∨ i = 10 ∨ i = 11 ∨ i = 12 ∨ i = 13 ∨ i = 14 ∨ i = 15 ∨ i = 16 ∨ i = 17 ∨ i = 18 ∨ i = 19 ∨ i = 20 ∨ i = 21 ∨ i = 22 ∨ i = 23 := by omega
            rcases hii with rfl | rfl | rfl | rfl | rfl | rfl | rfl | rfl | rfl | rfl | rfl | rfl | rfl | rfl | rfl | rfl | rfl | rfl | rfl | rfl | rfl | rfl | rfl | rfl
            · cases ho
              refine wpOp_of rfl rfl (wpm_value (v := .map (some bm)) ?_ rfl (om_skip hk.world (by omega) (by decide) hn))
              simp [execOp, e4, Act.eval]
            · cases ho
              refine wpOp_of rfl rfl (wpm_value (v := .slice (some ⟨b0, o0, none⟩) n ne) ?_ rfl (om_skip hk.world (by omega) (by decide) hn))
              simp [execOp, e0, Act.eval]
            · cases ho
              refine wpOp_of rfl rfl (wpm_value (v := .int .i64 k) ?_ rfl (om_skip hk.world (by omega) (by decide) hn))
              simp [execOp, e5, Act.eval]
            · cases ho
              have d1 := ev (show a1.eval (.tmp 47) = .slice (some ⟨b0, o0, none⟩) n ne from hk.done 1 _ 47 rfl rfl (hdep ⟨1, .data⟩ (by simp) rfl))
              have d2 := ev (show a1.eval (.tmp 48) = .int .i64 k from hk.done 2 _ 48 rfl rfl (hdep ⟨2, .data⟩ (by simp) rfl))
              refine wpOp_of rfl rfl (wpm_value (v := .pointer (some ⟨b0, o0 + k * 3, none⟩)) ?_ rfl (om_skip hk.world (by omega) (by decide) hn))
              go_simp
            · cases ho
              have d3 := ev (show a1.eval (.tmp 49) = .pointer (some ⟨b0, o0 + k * 3, none⟩) from hk.done 3 _ 49 rfl rfl (hdep ⟨3, .data⟩ (by simp) rfl))
              refine wpOp_of rfl rfl (wpm_value (v := .pointer (some ⟨b0, o0 + k * 3 + 2, none⟩)) ?_ rfl (om_skip hk.world (by omega) (by decide) hn))
              go_simp
            · cases ho
              have d4 := ev (show a1.eval (.tmp 50) = .pointer (some ⟨b0, o0 + k * 3 + 2, none⟩) from hk.done 4 _ 50 rfl rfl (hdep ⟨4, .data⟩ (by simp) rfl))
              refine wpOp_of rfl rfl (wpm_value (v := .slice (some ⟨b8, o8, none⟩) yn yc) ?_ rfl (om_skip hk.world (by omega) (by decide) hn))
              obtain ⟨t1, t2, t3, t4⟩ := HFC.out w9 (om_is hk.world (by omega) hn)
              go_simp
            · cases ho
              refine wpOp_of rfl rfl (wpm_value (v := .int .i64 j) ?_ rfl (om_skip hk.world (by omega) (by decide) hn))
              simp [execOp, e8, Act.eval]
            · cases ho
              have d5 := ev (show a1.eval (.tmp 51) = .slice (some ⟨b8, o8, none⟩) yn yc from hk.done 5 _ 51 rfl rfl (hdep ⟨5, .data⟩ (by simp) rfl))
              have d6 := ev (show a1.eval (.tmp 52) = .int .i64 j from hk.done 6 _ 52 rfl rfl (hdep ⟨6, .data⟩ (by simp) rfl))
              refine wpOp_of rfl rfl (wpm_value (v := .pointer (some ⟨b8, o8 + j * 3, none⟩)) ?_ rfl (om_skip hk.world (by omega) (by decide) hn))
              go_simp
            · cases ho
              have d7 := ev (show a1.eval (.tmp 53) = .pointer (some ⟨b8, o8 + j * 3, none⟩) from hk.done 7 _ 53 rfl rfl (hdep ⟨7, .data⟩ (by simp) rfl))
              refine wpOp_of rfl rfl (wpm_value (v := .pointer (some ⟨b8, o8 + j * 3, none⟩)) ?_ rfl (om_skip hk.world (by omega) (by decide) hn))
              go_simp
            · cases ho
              have d8 := ev (show a1.eval (.tmp 54) = .pointer (some ⟨b8, o8 + j * 3, none⟩) from hk.done 8 _ 54 rfl rfl (hdep ⟨8, .data⟩ (by simp) rfl))
              refine wpOp_of rfl rfl (wpm_value (v := acc z.k z.s) ?_ rfl (om_skip hk.world (by omega) (by decide) hn))
              obtain ⟨t1, t2, t3, t4⟩ := HFC.out w9 (om_is hk.world (by omega) hn)
              go_simp
            · cases ho
              have d0 := ev (show a1.eval (.tmp 46) = .map (some bm) from hk.done 0 _ 46 rfl rfl (hdep ⟨0, .data⟩ (by simp) rfl))
              have d9 := ev (show a1.eval (.tmp 55) = acc z.k z.s from hk.done 9 _ 55 rfl rfl (hdep ⟨9, .data⟩ (by simp) rfl))
              refine wpOp_of rfl rfl ?_
              unfold Oper.wp
              rcases om_is hk.world (by omega) hn with hw9 | hw9
              · have hr := H10.out
                rw [← hw9] at hr
                simp [execOp, Act.eval, d0, d9, hr, Result.andThen]
                exact ⟨_, rfl, rfl, (om_skip hk.world (by omega) (by decide) hn)⟩
              · have hr := H10b.out
                rw [← hw9] at hr
                simp [execOp, Act.eval, d0, d9, hr, Result.andThen]
                exact ⟨_, rfl, rfl, (om_skip hk.world (by omega) (by decide) hn)⟩
            · cases ho
              refine wpOp_of rfl rfl (wpm_value (v := .slice (some ⟨b0, o0, none⟩) n ne) ?_ rfl (om_skip hk.world (by omega) (by decide) hn))
              simp [execOp, e0, Act.eval]
            · cases ho
              refine wpOp_of rfl rfl (wpm_value (v := .int .i64 k) ?_ rfl (om_skip hk.world (by omega) (by decide) hn))
              simp [execOp, e5, Act.eval]
            · cases ho
              have d11 := ev (show a1.eval (.tmp 57) = .slice (some ⟨b0, o0, none⟩) n ne from hk.done 11 _ 57 rfl rfl (hdep ⟨11, .data⟩ (by simp) rfl))
              have d12 := ev (show a1.eval (.tmp 58) = .int .i64 k from hk.done 12 _ 58 rfl rfl (hdep ⟨12, .data⟩ (by simp) rfl))
              refine wpOp_of rfl rfl (wpm_value (v := .pointer (some ⟨b0, o0 + k * 3, none⟩)) ?_ rfl (om_skip hk.world (by omega) (by decide) hn))
              go_simp
            · cases ho
              have d13 := ev (show a1.eval (.tmp 59) = .pointer (some ⟨b0, o0 + k * 3, none⟩) from hk.done 13 _ 59 rfl rfl (hdep ⟨13, .data⟩ (by simp) rfl))
              refine wpOp_of rfl rfl (wpm_value (v := .pointer (some ⟨b0, o0 + k * 3 + 2, none⟩)) ?_ rfl (om_skip hk.world (by omega) (by decide) hn))
              go_simp
            · cases ho
              have d14 := ev (show a1.eval (.tmp 60) = .pointer (some ⟨b0, o0 + k * 3 + 2, none⟩) from hk.done 14 _ 60 rfl rfl (hdep ⟨14, .data⟩ (by simp) rfl))
              refine wpOp_of rfl rfl (wpm_value (v := .slice (some ⟨b8, o8, none⟩) yn yc) ?_ rfl (om_skip hk.world (by omega) (by decide) hn))
              obtain ⟨t1, t2, t3, t4⟩ := HFC.out w9 (om_is hk.world (by omega) hn)
              go_simp
            · cases ho
              refine wpOp_of rfl rfl (wpm_value (v := .int .i64 j) ?_ rfl (om_skip hk.world (by omega) (by decide) hn))
              simp [execOp, e8, Act.eval]
            · cases ho
              have d15 := ev (show a1.eval (.tmp 61) = .slice (some ⟨b8, o8, none⟩) yn yc from hk.done 15 _ 61 rfl rfl (hdep ⟨15, .data⟩ (by simp) rfl))
              have d16 := ev (show a1.eval (.tmp 62) = .int .i64 j from hk.done 16 _ 62 rfl rfl (hdep ⟨16, .data⟩ (by simp) rfl))
              refine wpOp_of rfl rfl (wpm_value (v := .pointer (some ⟨b8, o8 + j * 3, none⟩)) ?_ rfl (om_skip hk.world (by omega) (by decide) hn))
              go_simp
            · cases ho
              have d17 := ev (show a1.eval (.tmp 63) = .pointer (some ⟨b8, o8 + j * 3, none⟩) from hk.done 17 _ 63 rfl rfl (hdep ⟨17, .data⟩ (by simp) rfl))
              refine wpOp_of rfl rfl (wpm_value (v := .pointer (some ⟨b8, o8 + j * 3 + 2, none⟩)) ?_ rfl (om_skip hk.world (by omega) (by decide) hn))
              go_simp
            · cases ho
              have d18 := ev (show a1.eval (.tmp 64) = .pointer (some ⟨b8, o8 + j * 3 + 2, none⟩) from hk.done 18 _ 64 rfl rfl (hdep ⟨18, .data⟩ (by simp) rfl))
              refine wpOp_of rfl rfl (wpm_value (v := .int .i64 z.n) ?_ rfl (om_skip hk.world (by omega) (by decide) hn))
              obtain ⟨t1, t2, t3, t4⟩ := HFC.out w9 (om_is hk.world (by omega) hn)
              go_simp
            · cases ho
              have d10 := ev (show a1.eval (.tmp 56) = .int .i64 fz from hk.done 10 _ 56 rfl rfl (hdep ⟨10, .data⟩ (by simp) rfl))
              have d19 := ev (show a1.eval (.tmp 65) = .int .i64 z.n from hk.done 19 _ 65 rfl rfl (hdep ⟨19, .data⟩ (by simp) rfl))
              refine wpOp_of rfl rfl (wpm_value (v := .int .i64 vz) ?_ rfl (om_skip hk.world (by omega) (by decide) hn))
              go_simp
              rw [IntKind.wrap_i64]
              have h9 := HVB.out
              have h8 := HVZ.out
              omega
            · cases ho
              have d0 := ev (show a1.eval (.tmp 46) = .map (some bm) from hk.done 0 _ 46 rfl rfl (hdep ⟨0, .data⟩ (by simp) rfl))
              have d9 := ev (show a1.eval (.tmp 55) = acc z.k z.s from hk.done 9 _ 55 rfl rfl (hdep ⟨9, .data⟩ (by simp) rfl))
              refine wpOp_of rfl rfl ?_
              obtain ⟨hw9, hom⟩ := om_e hk.world (by omega) (by omega) hn
              unfold Oper.wp
              have hr := H21.out
              rw [← hw9] at hr
              simp [execOp, Act.eval, d0, d9, hr, Result.andThen, goInt]
              exact ⟨_, rfl, rfl, hom⟩
            · cases ho
              have d21 := ev (show a1.eval (.tmp 67) = .tuple #[v0, .int .i64 st] from hk.done 21 _ 67 rfl rfl (hdep ⟨21, .data⟩ (by simp) rfl))
              refine wpOp_of rfl rfl (wpm_value (v := .int .i64 st) ?_ rfl (om_skip hk.world (by omega) (by decide) hn))
              go_simp
            · cases ho
              have d0 := ev (show a1.eval (.tmp 46) = .map (some bm) from hk.done 0 _ 46 rfl rfl (hdep ⟨0, .data⟩ (by simp) rfl))
              have d22 := ev (show a1.eval (.tmp 68) = .int .i64 st from hk.done 22 _ 68 rfl rfl (hdep ⟨22, .data⟩ (by simp) rfl))
              have d20 := ev (show a1.eval (.tmp 66) = .int .i64 vz from hk.done 20 _ 66 rfl rfl (hdep ⟨20, .data⟩ (by simp) rfl))
              refine wpOp_of rfl rfl ?_
              have hall : ∀ i, i < 23 → listed.getD i false = true := fun i hi => by
                have hii : i = 0 ∨ i = 1 ∨ i = 2 ∨ i = 3 ∨ i = 4 ∨ i = 5 ∨ i = 6 ∨ i = 7 ∨ i = 8 ∨ i = 9 ∨ i = 10 ∨ i = 11 ∨ i = 12 ∨ i = 13 ∨ i = 14 ∨ i = 15 ∨ i = 16 ∨ i = 17 ∨ i = 18 ∨ i = 19 ∨ i = 20 ∨ i = 21 ∨ i = 22 := by omega
                rcases hii with rfl | rfl | rfl | rfl | rfl | rfl | rfl | rfl | rfl | rfl | rfl | rfl | rfl | rfl | rfl | rfl | rfl | rfl | rfl | rfl | rfl | rfl | rfl
                · exact hdep ⟨0, .data⟩ (by simp) rfl
                · exact hdep ⟨1, .phase⟩ (by simp) rfl
                · exact hdep ⟨2, .phase⟩ (by simp) rfl
                · exact hdep ⟨3, .phase⟩ (by simp) rfl
                · exact hdep ⟨4, .phase⟩ (by simp) rfl
                · exact hdep ⟨5, .phase⟩ (by simp) rfl
                · exact hdep ⟨6, .phase⟩ (by simp) rfl
                · exact hdep ⟨7, .phase⟩ (by simp) rfl
                · exact hdep ⟨8, .phase⟩ (by simp) rfl
                · exact hdep ⟨9, .phase⟩ (by simp) rfl
                · exact hdep ⟨10, .phase⟩ (by simp) rfl
                · exact hdep ⟨11, .phase⟩ (by simp) rfl
                · exact hdep ⟨12, .phase⟩ (by simp) rfl
                · exact hdep ⟨13, .phase⟩ (by simp) rfl
                · exact hdep ⟨14, .phase⟩ (by simp) rfl
                · exact hdep ⟨15, .phase⟩ (by simp) rfl
                · exact hdep ⟨16, .phase⟩ (by simp) rfl
                · exact hdep ⟨17, .phase⟩ (by simp) rfl
                · exact hdep ⟨18, .phase⟩ (by simp) rfl
                · exact hdep ⟨19, .phase⟩ (by simp) rfl
                · exact hdep ⟨20, .data⟩ (by simp) rfl
                · exact hdep ⟨21, .chain⟩ (by simp) rfl
                · exact hdep ⟨22, .data⟩ (by simp) rfl
              obtain ⟨hw9, hom⟩ := om_s hk.world (by omega) (by omega) hn hall
              unfold Oper.wp
              have hr := H23.out
              rw [← hw9] at hr
              simp only [goInt] at hr
              simp [execOp, Act.eval, d0, d22, d20, hr, Result.andThen]
              exact ⟨_, rfl, trivial, hom⟩
          case fin15 =>
            intro listed a2 w2 hk hall
            have hw := om_fin hk.world (hall 23 (by decide))
            have h8 : a2.eval (.tmp 8) = .int .i64 j := hk.frame 8 (frame_of (by kernel_rfl))
            have hact := keptM_all [46, 47, 48, 49, 50, 51, 52, 53, 54, 55, 56, 57, 58, 59, 60, 61, 62, 63, 64, 65, 66, 67, 68] hk (by kernel_rfl)
            simp only [List.foldl_cons, List.foldl_nil, List.setIfInBounds_toArray, List.set_cons_succ, List.set_cons_zero] at hact
            generalize a2.eval (.tmp 46) = u46 at hact
            generalize a2.eval (.tmp 47) = u47 at hact
            generalize a2.eval (.tmp 48) = u48 at hact
            generalize a2.eval (.tmp 49) = u49 at hact
            generalize a2.eval (.tmp 50) = u50 at hact
            generalize a2.eval (.tmp 51) = u51 at hact
            generalize a2.eval (.tmp 52) = u52 at hact
            generalize a2.eval (.tmp 53) = u53 at hact
            generalize a2.eval (.tmp 54) = u54 at hact
            generalize a2.eval (.tmp 55) = u55 at hact
            generalize a2.eval (.tmp 56) = u56 at hact
            generalize a2.eval (.tmp 57) = u57 at hact
            generalize a2.eval (.tmp 58) = u58 at hact
            generalize a2.eval (.tmp 59) = u59 at hact
            generalize a2.eval (.tmp 60) = u60 at hact
            generalize a2.eval (.tmp 61) = u61 at hact
            generalize a2.eval (.tmp 62) = u62 at hact
            generalize a2.eval (.tmp 63) = u63 at hact
            generalize a2.eval (.tmp 64) = u64 at hact
            generalize a2.eval (.tmp 65) = u65 at hact
            generalize a2.eval (.tmp 66) = u66 at hact
            generalize a2.eval (.tmp 67) = u67 at hact
            generalize a2.eval (.tmp 68) = u68 at hact
            rw [hact]
            clear hact
            subst hw
            go_wp2_with fail
            go_roundw
            case rel => exact ⟨j + 1, by omega, by go_num, HHAD.out, HOW.out, HB6.out⟩
            case measure => simp [intOf]; omega
        · obtain rfl : j = yn := by omega
          have HM9 : Hid (HadR wr bm (N + j) (onL C)) := HM.out.same fun a => by
            rw [HYN.out, List.take_length, onS_may HCH.out, HON.out]
          have hmay := may_any Ac C mc nc wr (HE.out.below HBw.out) (by
            have := HO.out
            unfold OwnB at this
            rw [← HMC.out] at this
            exact own_lns this HMC.out) HMC.out.symm (by omega) HFC.out
          rw [HMYC.out] at hmay
          have HMAY := Lib.hid hmay
          clear hmay
          go_wp2_with fail
          refine HMAY.out.mono ?_
          rintro e w4 ⟨rfl, hb4⟩
          have HO4 := Lib.hid (own_below HO.out hb4)
          have HM4 := Lib.hid (HM9.out.next hb4)
          have HB4 := Lib.hid (HB.out.trans (hb4.mono (Nat.le_of_lt hwr)))
          clear hb4 q1 q2 q3
          go_wp2_with fail
          go_roundw
          case rel => exact ⟨k + 1, N + j, C, by omega, by go_num, by omega, by rw [← HMC.out]; exact hpl, HO4.out, HMYC.out, HFC.out, HM4.out, HB4.out⟩
          case measure => simp [intOf]; omega
    · obtain rfl : k = n := by omega
      obtain ⟨Ab, nb, rfl, hnb⟩ := own_sl HO.out
      obtain ⟨ml, hml⟩ : ∃ ml, ml = l.length := ⟨_, rfl⟩
      have HML := Lib.hid hml
      obtain ⟨wo, rfl⟩ : ∃ z, z = wr := ⟨wr, rfl⟩
      obtain ⟨-, hris, -⟩ := mayB_in HMY.out
      have HRI := Lib.hid hris
      have HOL := Lib.hid (own_lns HO.out rfl)
      have HGET : Hid (∀ a, fitA a → ∀ W, Below wo.heap.size wo W → Calls Tryd.prog 15 #[.slice Ab ml nb, acc a.k a.s] W fun e w' => e = .returned (.int .i64 (onL l a)) ∧ Below W.heap.size W w') := fun a ha W hW => by
        have g1 := get_any Ab l ml nb a W (HE.out.below (HBw.out.trans (hW.mono HBw.out.size))) (HOL.out.next hW) HML.out.symm (by rw [HML.out]; omega) HF.out ha
        rw [if_pos HMY.out] at g1
        exact g1
      obtain ⟨D, hown, hat, hhas⟩ := HM.out
      have HOWN := Lib.hid hown
      have HAT := Lib.hid hat
      have HHAS := Lib.hid hhas
      have HST : Hid (∀ x ∈ l, Maps.has D (keyL x) = true) := fun x hx => by
        cases h1 : Maps.has D (keyL x) with
        | true => rfl
        | false =>
          have hfx : fitA x := ⟨(HF.out x hx).1, (HF.out x hx).2.1⟩
          have h2 := Maps.atKey_of_not_has h1 (.lit (.int .i64 0))
          rw [HAT.out x hfx] at h2
          have h3 := lit_inj h2
          rw [onL_self (ris_pair HRI.out) x hx] at h3
          exact absurd h3 (HRI.out.ok x hx).2
      rw [← hml]
      clear hml hown hat hhas hris HM HO
      go_wp2_with (at_range; refine wpList_range_own _ rfl _ 42 rfl 27 2 keyed27 Tryd.underlying42 _ bm N _ rfl HOWN.out ?_; intro w0 hrg0 hg0 hs0)
      have HRG0 := Lib.hid hrg0
      have HBG0 : Hid (Below wo.heap.size wo w0) := (Below.refl _ _).grown hg0 (Nat.le_refl _) (fun j hj => by cases hj)
      clear hrg0 hg0 hs0
      go_frame
      go_loopw [9] (fun s wr => ∃ (left : Lit → Bool) (cnt sm : Nat), s = .int .i64 sm ∧ Hid (wr.ranges Tryd.prog 27 Rm bm wo.heap.size N D left cnt) ∧ Hid (sm + toCome l left = ml) ∧ Hid (∀ kl, left kl = true → Maps.has D kl = true) ∧ Hid (Below wo.heap.size wo wr)) (fun _ wr => wr.rangeLeft bm wo.heap.size)
      case atStart => exact ⟨_, _, 0, rfl, HRG0.out, by show _ = _; rw [come_all HST.out, HML.out]; omega, fun _ h => h, HBG0.out⟩
      case round =>
        obtain ⟨left, cnt, sm, rfl, HRG, HCN, HLF, HB⟩ := hrel
        have hwz := HB.out.size
        have HBwr : Hid (Below w.heap.size w wr) := HBw.out.trans (HB.out.mono HBw.out.size)
        go_wp2_with (at_next; refine wpList_next_ranges _ rfl _ rfl 27 keyed27 Rm (fun x : Int × ByteArray => acc x.1 x.2) (Value.int .i64) (fun key kl h => by obtain ⟨k, s, rfl⟩ := key_inv h; exact ⟨(k, s), rfl⟩) (fun v y hv => by obtain ⟨c, rfl, _⟩ := plainElem_int_inv Tryd.underlying2 hv; exact ⟨c, rfl⟩) bm wo.heap.size N _ _ _ rfl HRG.out ?_ ?_)
        · intro hc0 hl0
          obtain rfl : sm = ml := by have := HCN.out; rw [come_none hl0] at this; omega
          clear hc0 hl0
          go_wp2_with fail
          refine (HAw.out wr HBwr.out).mono ?_
          rintro e w9 ⟨rfl, hb9⟩
          go_wp2_with fail
          go_ret
          exact ⟨by rfl, Below.on HBwr.out hb9⟩
        · intro x1 x2 c kl yA yB w1' cnt1 hkey hlk hv hatk hrg1 hlt1 hg1 hs1 hen
          obtain ⟨a, ha, rfl⟩ := HHAS.out kl (HLF.out kl hlk)
          have hacc := keyed27.inj hkey (key_of ha)
          try dsimp only at hacc hen ⊢
          rw [hacc] at hen ⊢
          obtain ⟨c', hc', hy0, -⟩ := plainElem_int_inv Tryd.underlying2 hv
          have hy := congrArg Prod.fst hy0
          dsimp only at hy
          have hce : c = onL l a := by
            have h1 := hatk (.lit (.int .i64 0))
            rw [HAT.out a ha, hy] at h1
            rw [int_v hc']
            exact (lit_inj h1).symm
          have HCS := Lib.hid (come_step (b := l) (left := left) (ris_pair HRI.out) (fun x hx => (HRI.out.ok x hx).2) (fun x hx => ⟨(HF.out x hx).1, (HF.out x hx).2.1⟩) ha hlk)
          have HGA := Lib.hid (HGET.out a ha)
          rw [hce] at hen ⊢
          clear hacc hkey hlk hv hatk hc' hy hy0 hce
          obtain ⟨w2', hw2'⟩ : ∃ w2', w2' = w1'.alloc (.cells #[.int .i64 a.k, .string a.s] 27) := ⟨_, rfl⟩
          have hb2 : Below w1'.heap.size w1' w2' := by rw [hw2']; exact (Below.refl _ _).alloc (Nat.le_refl _) _
          have hba : BoxA w1'.heap.size a.k a.s w2' := by rw [hw2']; exact World.alloc_heap_new _ _
          have HB1' : Hid (Below wo.heap.size wo w1') := HB.out.grown hg1 hwz (fun j hj => by injection hj with hj; omega)
          have HB2' : Hid (Below wo.heap.size wo w2') := HB1'.out.trans (hb2.mono HB1'.out.size)
          have HR2 := Lib.hid (hrg1.kept (grownM hb2) (by simp) (by simp))
          have HW2' := Lib.hid hw2'
          have HLT := Lib.hid hlt1
          obtain ⟨y0, y1, yf⟩ := hba.cells
          have HG := Lib.hid (HGA.out w2' HB2'.out)
          have hz2' := HB2'.out.size
          clear hw2' hb2 hba hrg1 hlt1 hg1 hs1 HGA
          generalize onL l a = g at *
          go_upto_region 22 with fail
          rw [← HW2'.out]
          clear HW2'
          go_wp2_with fail
          refine HG.out.mono ?_
          rintro e w3' ⟨rfl, hb3⟩
          have HR3 := Lib.hid (HR2.out.kept (grownM hb3) (by simp) (by simp))
          have HB3' := Lib.hid (HB2'.out.trans (hb3.mono hz2'))
          have HL3 : Hid (∀ kl, (left kl && !kl.sameKey (keyL a)) = true → Maps.has D kl = true) := fun kl h => HLF.out kl (Bool.and_eq_true_iff.1 h).1
          have hq : (g != g) = false := by simp
          clear hb3 HG y0 y1 yf hen
          by_cases hg0 : g = 0
          · have HC3 : Hid (sm + toCome l (fun z => left z && !z.sameKey (keyL a)) = ml) := by
              have h1 := HCS.out
              rw [if_pos hg0] at h1
              show _ = _
              rw [← HCN.out, h1]; omega
            subst hg0
            go_wp2_with fail
            go_roundw
            case rel => exact ⟨_, cnt1, sm, rfl, HR3.out, HC3.out, HL3.out, HB3'.out⟩
            case measure => rw [HR3.out.left_eq, HRG.out.left_eq]; exact HLT.out
          · have HC3 : Hid (sm + 1 + toCome l (fun z => left z && !z.sameKey (keyL a)) = ml) := by
              have h1 := HCS.out
              rw [if_neg hg0] at h1
              show _ = _
              rw [← HCN.out, h1]; omega
            have hg9 : (g != 0) = true := by simpa using hg0
            have hsm : sm ≤ 200 := by have h1 := HC3.out; have h2 := HML.out; omega
            clear hg0
            go_wp2_with fail
            go_roundw
            case rel => exact ⟨_, cnt1, sm + 1, by go_num, HR3.out, HC3.out, HL3.out, HB3'.out⟩
            case measure => rw [HR3.out.left_eq, HRG.out.left_eq]; exact HLT.out
end Go.Proofs.YtejdhemnlcbffaaDoor.Bok
