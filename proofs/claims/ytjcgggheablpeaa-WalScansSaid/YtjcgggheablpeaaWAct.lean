/- A region that draws its order, with any number of stores of whole structs into boxes, met by what each operation leaves: what a call leaves lasts behind a store into a box, as no box has such cells. No Go program here but for the numbers of two types. -/
import Derived.Test.YtjcgggheablpeaaGD
import Derived.Test.YtjcgggheablpeaaGF
namespace Go.Proofs.Ytjcgggheablpeaa.Wal
open Go.RowKit Dis

/-- The octets of the chapter's example. -/
abbrev c3 : Array Value := #[.int .u8 97, .int .u8 98, .int .u8 99]
/-- Boxes of two kinds, disks, and logs; and a row of three octets (whose mark may turn). -/
def Shp (K : Nat) (o : Obj) : Prop := match K with
  | 0 => ∃ A n c A' m c' L O, o = .cells #[.slice A n c, .slice A' m c', .int .i64 L, .bool O] 25 (0, 0) ∧ n ≠ 64
  | 1 => ∃ a b c d, o = .cells #[.int .i64 a, .int .i64 b, .int .i64 c, .int .i64 d] 27 (0, 0)
  | 2 => ∃ fr, o = .cells c3 5 fr
  | _ => False
/-- At most boxes of one kind have turned. -/
structure RK (K : Nat) (w w' : World) : Prop where
  size : w.heap.size ≤ w'.heap.size
  at_ : ∀ (b : Nat) (o : Obj), w.heap[b]? = some o → (Shp K o ∧ ∃ o', w'.heap[b]? = some o' ∧ Shp K o') ∨ w'.heap[b]? = some o
theorem RK.far {K : Nat} {w w' : World} (h : RK K w w') {b : Nat} {o : Obj} (hb : w.heap[b]? = some o) (hn : ¬ Shp K o) : w'.heap[b]? = some o := by
  rcases h.at_ b o hb with ⟨h1, _⟩ | h1
  · exact absurd h1 hn
  · exact h1
structure LeftK where
  holds : Value → World → Prop
  kind : Option Nat
  stab : ∀ (v : Value) (w w' : World), Below w.heap.size w w' → holds v w → holds v w'
  stabK : ∀ (K : Nat) (v : Value) (w w' : World), kind ≠ some K → RK K w w' → holds v w → holds v w'
def PhK (L : List LeftK) (i : Nat) (v : Value) (w : World) : Prop := match L[i]? with
  | none => True
  | some p => p.holds v w
theorem phK_stab (L : List LeftK) (i : Nat) (v : Value) (w w' : World) (hb : Below w.heap.size w w') (h : PhK L i v w) : PhK L i v w' := by
  unfold PhK at h ⊢
  cases hl : L[i]? with
  | none => trivial
  | some p =>
    rw [hl] at h
    exact p.stab v w w' hb h
def kindAt (L : List LeftK) (i : Nat) : Option Nat := (L[i]?).bind (·.kind)
theorem phK_stabK (L : List LeftK) (i K : Nat) (v : Value) (w w' : World) (hk : kindAt L i ≠ some K) (hb : RK K w w') (h : PhK L i v w) : PhK L i v w' := by
  unfold PhK at h ⊢
  unfold kindAt at hk
  cases hl : L[i]? with
  | none => trivial
  | some p =>
    rw [hl] at h hk
    exact p.stabK K v w w' hk hb h
/-- Each operation has a place of its own in the frame, or stores by a pointer that stands there before it; no two store into boxes of one kind. -/
def placedA (ops : Array Oper) (key : List Nat) (kinds : List (Option Nat)) (size : Nat) : Bool :=
  (List.range ops.size).all fun i => match ops[i]? with
    | none => false
    | some o => match o.dst with
      | some t => decide (t < size) && (kinds.getD i none == none) && (List.range ops.size).all fun j => decide (i = j) || (match ops[j]? with | none => true | some o' => o'.dst != some t)
      | none => (kinds.getD i none != none) && ((List.range ops.size).all fun j => decide (i = j) || (kinds.getD i none != kinds.getD j none)) && (List.range ops.size).all fun j => (match ops[j]? with | none => true | some o' => o'.dst != some (key.getD i 0)) || Region.waitsFor .any ops i j
theorem placedA_one {ops : Array Oper} {key : List Nat} {kinds : List (Option Nat)} {size i : Nat} {o : Oper} {t : Nat} (h : placedA ops key kinds size = true) (hi : ops[i]? = some o) (ht : o.dst = some t) :
    t < size ∧ ∀ (j : Nat) (o' : Oper), ops[j]? = some o' → i ≠ j → o'.dst ≠ some t := by
  have hlt : i < ops.size := (Array.getElem?_eq_some_iff.1 hi).1
  unfold placedA at h
  rw [List.all_eq_true] at h
  have h1 := h i (List.mem_range.2 hlt)
  rw [hi] at h1
  simp only [ht] at h1
  simp only [Bool.and_eq_true, decide_eq_true_eq, List.all_eq_true] at h1
  refine ⟨h1.1.1, fun j o' hj hne => ?_⟩
  have h4 := h1.2 j (List.mem_range.2 (Array.getElem?_eq_some_iff.1 hj).1)
  rw [hj] at h4
  simpa [hne] using h4
theorem placedA_act {ops : Array Oper} {key : List Nat} {kinds : List (Option Nat)} {size i : Nat} {o : Oper} (h : placedA ops key kinds size = true) (hi : ops[i]? = some o) (ht : o.dst = none) :
    ∃ K, kinds.getD i none = some K ∧ (∀ j, j < ops.size → i ≠ j → kinds.getD j none ≠ some K) ∧ ∀ (j : Nat) (o' : Oper), ops[j]? = some o' → o'.dst = some (key.getD i 0) → Region.waitsFor .any ops i j = true := by
  have hlt : i < ops.size := (Array.getElem?_eq_some_iff.1 hi).1
  unfold placedA at h
  rw [List.all_eq_true] at h
  have h1 := h i (List.mem_range.2 hlt)
  rw [hi] at h1
  simp only [ht] at h1
  rw [Bool.and_eq_true, Bool.and_eq_true] at h1
  obtain ⟨⟨h1, h2⟩, h3⟩ := h1
  rw [List.all_eq_true] at h2 h3
  cases hK : kinds.getD i none with
  | none => rw [hK] at h1; simp at h1
  | some K =>
    refine ⟨K, rfl, fun j hj hne e => ?_, fun j o' hj hd => ?_⟩
    · have := h2 j (List.mem_range.2 hj)
      rw [hK, e] at this
      simp [hne] at this
    · have := h3 j (List.mem_range.2 (Array.getElem?_eq_some_iff.1 hj).1)
      rw [hj] at this
      simpa [hd] using this
def placedK (ops : Array Oper) (key : List Nat) (kinds : List (Option Nat)) (size : Nat) : Bool :=
  (List.range ops.size).all fun i => match ops[i]? with
    | none => false
    | some o => match o.dst with
      | some t => decide (t < size) && ((kinds.getD i none == none) || (List.range ops.size).all fun j => decide (i = j) || (kinds.getD i none != kinds.getD j none)) && (List.range ops.size).all fun j => decide (i = j) || (match ops[j]? with | none => true | some o' => o'.dst != some t)
      | none => (kinds.getD i none != none) && ((List.range ops.size).all fun j => decide (i = j) || (kinds.getD i none != kinds.getD j none)) && (List.range ops.size).all fun j => (match ops[j]? with | none => true | some o' => o'.dst != some (key.getD i 0)) || Region.waitsFor .any ops i j
theorem placedK_kind {ops : Array Oper} {key : List Nat} {kinds : List (Option Nat)} {size i : Nat} {o : Oper} {t K : Nat} (h : placedK ops key kinds size = true) (hi : ops[i]? = some o) (ht : o.dst = some t) (hK : kinds.getD i none = some K) : ∀ j, j < ops.size → i ≠ j → kinds.getD j none ≠ some K := by
  have hlt : i < ops.size := (Array.getElem?_eq_some_iff.1 hi).1
  unfold placedK at h
  rw [List.all_eq_true] at h
  have h1 := h i (List.mem_range.2 hlt)
  rw [hi] at h1
  simp only [ht] at h1
  rw [Bool.and_eq_true, Bool.and_eq_true, Bool.or_eq_true] at h1
  obtain ⟨⟨_, h2⟩, _⟩ := h1
  intro j hj hne e
  rcases h2 with h2 | h2
  · rw [hK] at h2; simp at h2
  · rw [List.all_eq_true] at h2
    have := h2 j (List.mem_range.2 hj)
    rw [hK, e] at this
    simp [hne] at this
theorem placedK_one {ops : Array Oper} {key : List Nat} {kinds : List (Option Nat)} {size i : Nat} {o : Oper} {t : Nat} (h : placedK ops key kinds size = true) (hi : ops[i]? = some o) (ht : o.dst = some t) :
    t < size ∧ ∀ (j : Nat) (o' : Oper), ops[j]? = some o' → i ≠ j → o'.dst ≠ some t := by
  have hlt : i < ops.size := (Array.getElem?_eq_some_iff.1 hi).1
  unfold placedK at h
  rw [List.all_eq_true] at h
  have h1 := h i (List.mem_range.2 hlt)
  rw [hi] at h1
  simp only [ht] at h1
  simp only [Bool.and_eq_true, decide_eq_true_eq, List.all_eq_true] at h1
  refine ⟨h1.1.1, fun j o' hj hne => ?_⟩
  have h4 := h1.2 j (List.mem_range.2 (Array.getElem?_eq_some_iff.1 hj).1)
  rw [hj] at h4
  simpa [hne] using h4
theorem placedK_act {ops : Array Oper} {key : List Nat} {kinds : List (Option Nat)} {size i : Nat} {o : Oper} (h : placedK ops key kinds size = true) (hi : ops[i]? = some o) (ht : o.dst = none) :
    ∃ K, kinds.getD i none = some K ∧ (∀ j, j < ops.size → i ≠ j → kinds.getD j none ≠ some K) ∧ ∀ (j : Nat) (o' : Oper), ops[j]? = some o' → o'.dst = some (key.getD i 0) → Region.waitsFor .any ops i j = true := by
  have hlt : i < ops.size := (Array.getElem?_eq_some_iff.1 hi).1
  unfold placedK at h
  rw [List.all_eq_true] at h
  have h1 := h i (List.mem_range.2 hlt)
  rw [hi] at h1
  simp only [ht] at h1
  rw [Bool.and_eq_true, Bool.and_eq_true] at h1
  obtain ⟨⟨h1, h2⟩, h3⟩ := h1
  rw [List.all_eq_true] at h2 h3
  cases hK : kinds.getD i none with
  | none => rw [hK] at h1; simp at h1
  | some K =>
    refine ⟨K, rfl, fun j hj hne e => ?_, fun j o' hj hd => ?_⟩
    · have := h2 j (List.mem_range.2 hj)
      rw [hK, e] at this
      simp [hne] at this
    · have := h3 j (List.mem_range.2 (Array.getElem?_eq_some_iff.1 hj).1)
      rw [hj] at this
      simpa [hd] using this
structure KeptA (ops : Array Oper) (key : List Nat) (a0 : Act) (w0 : World) (lo : Nat) (L : List LeftK) (Γ : Array Bool → World → Prop) (listed : Array Bool) (a : Act) (w : World) : Prop where
  below : Below lo w0 w
  defers : a.defers = a0.defers
  size : a.tmps.size = a0.tmps.size
  frame : ∀ t : Nat, (∀ (i : Nat) (o : Oper), ops[i]? = some o → o.dst ≠ some t) → a.eval (.tmp t) = a0.eval (.tmp t)
  done : ∀ (i : Nat) (o : Oper) (t : Nat), ops[i]? = some o → o.dst = some t → listed.getD i false = true → PhK L i (a.eval (.tmp t)) w
  acts : ∀ (i : Nat) (o : Oper), ops[i]? = some o → o.dst = none → listed.getD i false = true → PhK L i (a.eval (.tmp (key.getD i 0))) w
  gam : Γ listed w
variable {P : Program} {ops : Array Oper} {Q : Exit → Act → World → Prop}
theorem wpAny_inv2 {md : Region.Mode} (Inv : Array Bool → Act → World → Prop)
    (step : ∀ (i : Nat) (o : Oper) (listed : Array Bool) (a : Act) (w : World), ops[i]? = some o → listed.getD i true = false → Closed md ops listed → (∀ e ∈ o.after, Region.binds md e = true → listed.getD e.on false = true) → Inv listed a w →
      wpOp P ops Q i (fun a' w' => Inv (listed.setIfInBounds i true) a' w') a w)
    (fin : ∀ (listed : Array Bool) (a : Act) (w : World), (∀ i, i < ops.size → listed.getD i false = true) → Inv listed a w → Q .normal a w)
    (back : ∀ (i : Nat) (o : Oper), ops[i]? = some o → ∀ e ∈ o.after, Region.binds md e = true → e.on < i) :
    ∀ (fuel : Nat) (listed : Array Bool) (a : Act) (w : World), unl listed = fuel → Closed md ops listed → Inv listed a w → wpAny P md ops Q fuel listed a w := by
  intro fuel
  induction fuel with
  | zero =>
    intro listed a w hu hc hi
    have hall : ∀ i, i < listed.size → listed.getD i false = true := fun i hi => unl_zero hu i hi
    exact wpAny_full hall 0 (fin listed a w (fun i h => hall i (by rw [hc.1]; exact h)) hi)
  | succ fuel ih =>
    intro listed a w hu hc hinv
    refine ⟨fun hr => ?_, fun i hi => ?_⟩
    · exfalso
      have hpl : ∀ i, i < ops.size → listed.getD i false = true := by
        intro i
        induction i using Nat.strongRecOn with
        | ind i ihi =>
          intro hiN
          obtain ⟨o, ho⟩ : ∃ o, ops[i]? = some o := ⟨_, Array.getElem?_eq_getElem hiN⟩
          cases hv : listed.getD i false with
          | true => rfl
          | false =>
            exfalso
            have hlt : i < listed.size := by rw [hc.1]; exact hiN
            have hm : i ∈ Region.ready md ops listed := mem_ready.2 ⟨by
              rw [← hv]
              simp [Array.getD, hlt], o, ho, fun e he hbd => ihi e.on (back i o ho e he hbd) (by have := back i o ho e he hbd; omega)⟩
            rw [hr] at hm
            cases hm
      have := all_unl (listed := listed) (fun i hi => hpl i (by rw [← hc.1]; exact hi))
      omega
    · have hi' := hi
      rw [mem_ready] at hi'
      obtain ⟨h0, o, ho, hall⟩ := hi'
      refine wpOp_mono (fun a' w' h' => ?_) (step i o listed a w ho h0 hc hall hinv)
      exact ih _ a' w' (by have := unl_set h0; omega) (closed_next ho hc hall) h'
/-- What a store leaves. -/
structure LeavesK (K : Nat) (lo : Nat) (L : List LeftK) (Γ : Array Bool → World → Prop) (listed : Array Bool) (i key : Nat) (a : Act) (w : World) (a' : Act) (w' : World) : Prop where
  same : a' = a
  phi : PhK L i (a.eval (.tmp key)) w'
  below : Below lo w w'
  rk : RK K w w'
  gam : Γ (listed.setIfInBounds i true) w'
theorem wp_region_acts {id : Nat} {a0 : Act} {w0 : World} (hm : P.follows .mixedOrders = true) (lo : Nat) (hlo : lo ≤ w0.heap.size) (L : List LeftK) (key : List Nat) (kinds : List (Option Nat)) (hkinds : kinds = L.map (·.kind)) (Γ : Array Bool → World → Prop)
    (hΓ : ∀ (listed : Array Bool) (i : Nat) (w w' : World), kinds.getD i none = none → lo ≤ w.heap.size → Below w.heap.size w w' → Γ listed w → Γ (listed.setIfInBounds i true) w')
    (hp : placedA ops key kinds a0.tmps.size = true) (back : ∀ (i : Nat) (o : Oper), ops[i]? = some o → ∀ e ∈ o.after, Region.binds .any e = true → e.on < i)
    (start : Γ (Array.replicate ops.size false) { w0 with drawn := w0.drawn + 1 })
    (step : ∀ (i : Nat) (o : Oper) (listed : Array Bool) (a : Act) (w : World), kinds.getD i none = none → ops[i]? = some o → listed.getD i true = false → Closed .any ops listed → KeptA ops key a0 w0 lo L Γ listed a w → (∀ e ∈ o.after, Region.binds .any e = true → listed.getD e.on false = true) →
      wpOp P ops Q i (Dis.Leaves o (PhK L i) a w) a w)
    (store : ∀ (i K : Nat) (o : Oper) (listed : Array Bool) (a : Act) (w : World), kinds.getD i none = some K → ops[i]? = some o → listed.getD i true = false → Closed .any ops listed → KeptA ops key a0 w0 lo L Γ listed a w → (∀ e ∈ o.after, Region.binds .any e = true → listed.getD e.on false = true) →
      wpOp P ops Q i (LeavesK K lo L Γ listed i (key.getD i 0) a w) a w)
    (fin : ∀ (listed : Array Bool) (a : Act) (w : World), (∀ i, i < ops.size → listed.getD i false = true) → KeptA ops key a0 w0 lo L Γ listed a w → Q .normal a w) : (Code.region id ops true).wp P Q a0 w0 := by
  have hkA : ∀ i, kindAt L i = kinds.getD i none := fun i => by
    rw [hkinds]
    unfold kindAt
    cases h : L[i]? with
    | none => simp [List.getD, h]
    | some p => simp [List.getD, h]
  refine wp_region_any hm (wpAny_inv2 (fun listed a w => KeptA ops key a0 w0 lo L Γ listed a w ∧ Closed .any ops listed) ?_ (fun listed a w h1 h2 => fin listed a w h1 h2.1) back _ _ _ _ ?_ ⟨by simp, ?_⟩ ⟨?_, ⟨by simp, ?_⟩⟩)
  · intro i o listed a w ho h0 hc hdep ⟨hk, _⟩
    have hc2 := closed_next ho hc hdep
    have hlow : lo ≤ w.heap.size := Nat.le_trans hlo hk.below.size
    cases hd : o.dst with
    | none =>
      obtain ⟨K, hK, hK2, hkey⟩ := placedA_act hp ho hd
      refine wpOp_mono (fun a' w' hl => ?_) (store i K o listed a w hK ho h0 hc hk hdep)
      obtain ⟨rfl, hv, hb, hr, hg⟩ := hl
      refine ⟨⟨hk.below.trans hb, hk.defers, hk.size, hk.frame, fun j o' t hj hdj hlj => ?_, fun j o' hj hdj hlj => ?_, hg⟩, hc2⟩
      · by_cases hij : i = j
        · subst hij
          have : o' = o := Option.some.inj (hj.symm.trans ho)
          subst this
          rw [hd] at hdj; cases hdj
        · rw [getD_set_ne false hij] at hlj
          exact phK_stabK L j K _ _ _ (by rw [hkA]; exact hK2 j (Array.getElem?_eq_some_iff.1 hj).1 hij) hr (hk.done j o' t hj hdj hlj)
      · by_cases hij : i = j
        · subst hij
          exact hv
        · rw [getD_set_ne false hij] at hlj
          exact phK_stabK L j K _ _ _ (by rw [hkA]; exact hK2 j (Array.getElem?_eq_some_iff.1 hj).1 hij) hr (hk.acts j o' hj hdj hlj)
    | some t =>
      obtain ⟨hts, hdist⟩ := placedA_one hp ho hd
      have hkn : kinds.getD i none = none := by
        have hlt : i < ops.size := (Array.getElem?_eq_some_iff.1 ho).1
        unfold placedA at hp
        rw [List.all_eq_true] at hp
        have h1 := hp i (List.mem_range.2 hlt)
        rw [ho] at h1
        simp only [hd] at h1
        rw [Bool.and_eq_true, Bool.and_eq_true] at h1
        simpa using h1.1.2
      refine wpOp_mono (fun a' w' hl => ?_) (step i o listed a w hkn ho h0 hc hk hdep)
      obtain ⟨v, rfl, hv, hb⟩ := hl
      have hmid : Below lo w0 w' := hk.below.trans (hb.mono hlow)
      refine ⟨⟨hmid, by rw [hd]; exact hk.defers, by rw [hd]; simp only [Act.put, Array.size_setIfInBounds]; exact hk.size, fun t' ht' => ?_, fun j o' t' hj hdj hlj => ?_, fun j o' hj hdj hlj => ?_, hΓ listed i w w' hkn hlow hb hk.gam⟩, hc2⟩
      · rw [Act.eval_put (fun d hd e => by
          injection e with e
          exact ht' i o ho (by rw [e]; exact hd))]
        exact hk.frame t' ht'
      · by_cases hij : i = j
        · subst hij
          have : o' = o := Option.some.inj (hj.symm.trans ho)
          subst this
          have : t' = t := Option.some.inj (hdj.symm.trans hd)
          subst this
          rw [hd, eval_put_same (by rw [hk.size]; exact hts)]
          exact hv
        · rw [getD_set_ne false hij] at hlj
          have hne : t' ≠ t := fun e => hdist j o' hj hij (by rw [hdj, e])
          rw [Act.eval_put (fun d hd' e => by
            injection e with e
            rw [hd] at hd'
            injection hd' with hd'
            exact hne (by rw [e, hd']))]
          exact phK_stab L j _ _ _ hb (hk.done j o' t' hj hdj hlj)
      · have hij : i ≠ j := fun e => by
          subst e
          have : o' = o := Option.some.inj (hj.symm.trans ho)
          subst this
          rw [hd] at hdj; cases hdj
        rw [getD_set_ne false hij] at hlj
        obtain ⟨K, hK, hK2, hkey⟩ := placedA_act hp hj hdj
        have hne : key.getD j 0 ≠ t := fun e => by
          have h3 := closed_of hc (hkey i o ho (by rw [hd, e])) hlj
          rw [getD_tf h0] at h3
          cases h3
        rw [Act.eval_put (fun d hd' e => by
          injection e with e
          rw [hd] at hd'
          injection hd' with hd'
          exact hne (by rw [e, hd']))]
        exact phK_stab L j _ _ _ hb (hk.acts j o' hj hdj hlj)
  · unfold unl
    simp
  · intro i o hi hl
    exfalso
    have hlt := (Array.getElem?_eq_some_iff.1 hi).1
    simp [hlt] at hl
  · refine ⟨⟨rfl, rfl, rfl, Nat.le_refl _, fun _ _ => rfl⟩, rfl, rfl, fun _ _ => rfl, fun i o t hi _ hl => ?_, fun i o hi _ hl => ?_, start⟩
    · exfalso
      have hlt := (Array.getElem?_eq_some_iff.1 hi).1
      simp [hlt] at hl
    · exfalso
      have hlt := (Array.getElem?_eq_some_iff.1 hi).1
      simp [hlt] at hl
  · intro i o hi hl
    exfalso
    have hlt := (Array.getElem?_eq_some_iff.1 hi).1
    simp [hlt] at hl
theorem wp_region_acts2 {id : Nat} {a0 : Act} {w0 : World} (hm : P.follows .mixedOrders = true) (lo : Nat) (hlo : lo ≤ w0.heap.size) (L : List LeftK) (key : List Nat) (kinds : List (Option Nat)) (hkinds : kinds = L.map (·.kind)) (Γ : Array Bool → World → Prop)
    (hΓ : ∀ (listed : Array Bool) (i : Nat) (w w' : World), kinds.getD i none = none → lo ≤ w.heap.size → Below w.heap.size w w' → Γ listed w → Γ (listed.setIfInBounds i true) w')
    (hp : placedK ops key kinds a0.tmps.size = true) (back : ∀ (i : Nat) (o : Oper), ops[i]? = some o → ∀ e ∈ o.after, Region.binds .any e = true → e.on < i)
    (start : Γ (Array.replicate ops.size false) { w0 with drawn := w0.drawn + 1 })
    (step : ∀ (i : Nat) (o : Oper) (listed : Array Bool) (a : Act) (w : World), kinds.getD i none = none → ops[i]? = some o → listed.getD i true = false → Closed .any ops listed → KeptA ops key a0 w0 lo L Γ listed a w → (∀ e ∈ o.after, Region.binds .any e = true → listed.getD e.on false = true) →
      wpOp P ops Q i (Dis.Leaves o (PhK L i) a w) a w)
    (conv : ∀ (i K t : Nat) (o : Oper) (listed : Array Bool) (a : Act) (w : World), kinds.getD i none = some K → ops[i]? = some o → o.dst = some t → listed.getD i true = false → Closed .any ops listed → KeptA ops key a0 w0 lo L Γ listed a w → (∀ e ∈ o.after, Region.binds .any e = true → listed.getD e.on false = true) →
      wpOp P ops Q i (fun a' w' => ∃ v, a' = a.put o.dst v ∧ PhK L i v w' ∧ Below lo w w' ∧ RK K w w' ∧ Γ (listed.setIfInBounds i true) w') a w)
    (store : ∀ (i K : Nat) (o : Oper) (listed : Array Bool) (a : Act) (w : World), kinds.getD i none = some K → o.dst = none → ops[i]? = some o → listed.getD i true = false → Closed .any ops listed → KeptA ops key a0 w0 lo L Γ listed a w → (∀ e ∈ o.after, Region.binds .any e = true → listed.getD e.on false = true) →
      wpOp P ops Q i (LeavesK K lo L Γ listed i (key.getD i 0) a w) a w)
    (fin : ∀ (listed : Array Bool) (a : Act) (w : World), (∀ i, i < ops.size → listed.getD i false = true) → KeptA ops key a0 w0 lo L Γ listed a w → Q .normal a w) : (Code.region id ops true).wp P Q a0 w0 := by
  have hkA : ∀ i, kindAt L i = kinds.getD i none := fun i => by
    rw [hkinds]
    unfold kindAt
    cases h : L[i]? with
    | none => simp [List.getD, h]
    | some p => simp [List.getD, h]
  refine wp_region_any hm (wpAny_inv2 (fun listed a w => KeptA ops key a0 w0 lo L Γ listed a w ∧ Closed .any ops listed) ?_ (fun listed a w h1 h2 => fin listed a w h1 h2.1) back _ _ _ _ ?_ ⟨by simp, ?_⟩ ⟨?_, ⟨by simp, ?_⟩⟩)
  · intro i o listed a w ho h0 hc hdep ⟨hk, _⟩
    have hc2 := closed_next ho hc hdep
    have hlow : lo ≤ w.heap.size := Nat.le_trans hlo hk.below.size
    cases hd : o.dst with
    | none =>
      obtain ⟨K, hK, hK2, hkey⟩ := placedK_act hp ho hd
      refine wpOp_mono (fun a' w' hl => ?_) (store i K o listed a w hK hd ho h0 hc hk hdep)
      obtain ⟨rfl, hv, hb, hr, hg⟩ := hl
      refine ⟨⟨hk.below.trans hb, hk.defers, hk.size, hk.frame, fun j o' t hj hdj hlj => ?_, fun j o' hj hdj hlj => ?_, hg⟩, hc2⟩
      · by_cases hij : i = j
        · subst hij
          have : o' = o := Option.some.inj (hj.symm.trans ho)
          subst this
          rw [hd] at hdj; cases hdj
        · rw [getD_set_ne false hij] at hlj
          exact phK_stabK L j K _ _ _ (by rw [hkA]; exact hK2 j (Array.getElem?_eq_some_iff.1 hj).1 hij) hr (hk.done j o' t hj hdj hlj)
      · by_cases hij : i = j
        · subst hij
          exact hv
        · rw [getD_set_ne false hij] at hlj
          exact phK_stabK L j K _ _ _ (by rw [hkA]; exact hK2 j (Array.getElem?_eq_some_iff.1 hj).1 hij) hr (hk.acts j o' hj hdj hlj)
    | some t =>
      obtain ⟨hts, hdist⟩ := placedK_one hp ho hd
      cases hkn : kinds.getD i none with
      | some K =>
        have hK2 := placedK_kind hp ho hd hkn
        refine wpOp_mono (fun a' w' hl => ?_) (conv i K t o listed a w hkn ho hd h0 hc hk hdep)
        obtain ⟨v, rfl, hv, hb, hr, hg⟩ := hl
        refine ⟨⟨hk.below.trans hb, by rw [hd]; exact hk.defers, by rw [hd]; simp only [Act.put, Array.size_setIfInBounds]; exact hk.size, fun t' ht' => ?_, fun j o' t' hj hdj hlj => ?_, fun j o' hj hdj hlj => ?_, hg⟩, hc2⟩
        · rw [Act.eval_put (fun d hd e => by
            injection e with e
            exact ht' i o ho (by rw [e]; exact hd))]
          exact hk.frame t' ht'
        · by_cases hij : i = j
          · subst hij
            have : o' = o := Option.some.inj (hj.symm.trans ho)
            subst this
            have : t' = t := Option.some.inj (hdj.symm.trans hd)
            subst this
            rw [hd, eval_put_same (by rw [hk.size]; exact hts)]
            exact hv
          · rw [getD_set_ne false hij] at hlj
            have hne : t' ≠ t := fun e => hdist j o' hj hij (by rw [hdj, e])
            rw [Act.eval_put (fun d hd' e => by
              injection e with e
              rw [hd] at hd'
              injection hd' with hd'
              exact hne (by rw [e, hd']))]
            exact phK_stabK L j K _ _ _ (by rw [hkA]; exact hK2 j (Array.getElem?_eq_some_iff.1 hj).1 hij) hr (hk.done j o' t' hj hdj hlj)
        · have hij : i ≠ j := fun e => by
            subst e
            have : o' = o := Option.some.inj (hj.symm.trans ho)
            subst this
            rw [hd] at hdj; cases hdj
          rw [getD_set_ne false hij] at hlj
          obtain ⟨K', hK', hK2', hkey⟩ := placedK_act hp hj hdj
          have hne : key.getD j 0 ≠ t := fun e => by
            have h3 := closed_of hc (hkey i o ho (by rw [hd, e])) hlj
            rw [getD_tf h0] at h3
            cases h3
          rw [Act.eval_put (fun d hd' e => by
            injection e with e
            rw [hd] at hd'
            injection hd' with hd'
            exact hne (by rw [e, hd']))]
          exact phK_stabK L j K _ _ _ (by rw [hkA]; exact hK2 j (Array.getElem?_eq_some_iff.1 hj).1 hij) hr (hk.acts j o' hj hdj hlj)
      | none =>
        refine wpOp_mono (fun a' w' hl => ?_) (step i o listed a w hkn ho h0 hc hk hdep)
        obtain ⟨v, rfl, hv, hb⟩ := hl
        have hmid : Below lo w0 w' := hk.below.trans (hb.mono hlow)
        refine ⟨⟨hmid, by rw [hd]; exact hk.defers, by rw [hd]; simp only [Act.put, Array.size_setIfInBounds]; exact hk.size, fun t' ht' => ?_, fun j o' t' hj hdj hlj => ?_, fun j o' hj hdj hlj => ?_, hΓ listed i w w' hkn hlow hb hk.gam⟩, hc2⟩
        · rw [Act.eval_put (fun d hd e => by
            injection e with e
            exact ht' i o ho (by rw [e]; exact hd))]
          exact hk.frame t' ht'
        · by_cases hij : i = j
          · subst hij
            have : o' = o := Option.some.inj (hj.symm.trans ho)
            subst this
            have : t' = t := Option.some.inj (hdj.symm.trans hd)
            subst this
            rw [hd, eval_put_same (by rw [hk.size]; exact hts)]
            exact hv
          · rw [getD_set_ne false hij] at hlj
            have hne : t' ≠ t := fun e => hdist j o' hj hij (by rw [hdj, e])
            rw [Act.eval_put (fun d hd' e => by
              injection e with e
              rw [hd] at hd'
              injection hd' with hd'
              exact hne (by rw [e, hd']))]
            exact phK_stab L j _ _ _ hb (hk.done j o' t' hj hdj hlj)
        · have hij : i ≠ j := fun e => by
            subst e
            have : o' = o := Option.some.inj (hj.symm.trans ho)
            subst this
            rw [hd] at hdj; cases hdj
          rw [getD_set_ne false hij] at hlj
          obtain ⟨K, hK, hK2, hkey⟩ := placedK_act hp hj hdj
          have hne : key.getD j 0 ≠ t := fun e => by
            have h3 := closed_of hc (hkey i o ho (by rw [hd, e])) hlj
            rw [getD_tf h0] at h3
            cases h3
          rw [Act.eval_put (fun d hd' e => by
            injection e with e
            rw [hd] at hd'
            injection hd' with hd'
            exact hne (by rw [e, hd']))]
          exact phK_stab L j _ _ _ hb (hk.acts j o' hj hdj hlj)
  · unfold unl
    simp
  · intro i o hi hl
    exfalso
    have hlt := (Array.getElem?_eq_some_iff.1 hi).1
    simp [hlt] at hl
  · refine ⟨⟨rfl, rfl, rfl, Nat.le_refl _, fun _ _ => rfl⟩, rfl, rfl, fun _ _ => rfl, fun i o t hi _ hl => ?_, fun i o hi _ hl => ?_, start⟩
    · exfalso
      have hlt := (Array.getElem?_eq_some_iff.1 hi).1
      simp [hlt] at hl
    · exfalso
      have hlt := (Array.getElem?_eq_some_iff.1 hi).1
      simp [hlt] at hl
  · intro i o hi hl
    exfalso
    have hlt := (Array.getElem?_eq_some_iff.1 hi).1
    simp [hlt] at hl
theorem keptA_all {key : List Nat} {a0 a : Act} {w0 w : World} {lo : Nat} {L : List LeftK} {Γ : Array Bool → World → Prop} {listed : Array Bool} (ts : List Nat) (hf : KeptA ops key a0 w0 lo L Γ listed a w) (h : dstsIn ops ts = true) :
    a = { tmps := ts.foldl (fun T t => T.setIfInBounds t (a.eval (.tmp t))) a0.tmps, defers := a0.defers } :=
  fr_act ts hf.size hf.defers (fun t ht => hf.frame t (dstsIn_spec h t ht))
end Go.Proofs.Ytjcgggheablpeaa.Wal
