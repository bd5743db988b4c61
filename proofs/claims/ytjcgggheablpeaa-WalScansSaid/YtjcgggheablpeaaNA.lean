/- A drawn region with a chain of acts: NAny and NAnyB of the node seat. -/
import Derived.Test.YtjcgggheablpeaaGD
/- A region that draws its order, of which some operations come one after the other and turn memory as they like; all others only read what lasts. No Go program here. -/
namespace Go.Proofs.Ytjcgggheablpeaa.Wal.Vx
open Go.RowKit Dis
variable {P : Program} {ops : Array Oper} {Q : Exit → Act → World → Prop}

/-- What the last one of the chain has left. -/
def St (ops : Array Oper) (cs : List Nat) (R : Nat → Value → World → Prop) (k : Nat) (a : Act) (w : World) : Prop :=
  (k = 0 → R 0 (.bool false) w) ∧ ∀ (k' i : Nat) (o : Oper) (t : Nat), k = k' + 1 → cs[k']? = some i → ops[i]? = some o → o.dst = some t → R k (a.eval (.tmp t)) w
def InvC (ops : Array Oper) (a0 : Act) (val : Nat → Value) (cs ds : List Nat) (F : World → Prop) (R : Nat → Value → World → Prop) (listed : Array Bool) (a : Act) (w : World) : Prop :=
  ∃ k, k ≤ cs.length ∧ (∀ j i : Nat, cs[j]? = some i → listed.getD i false = decide (j < k)) ∧ F w ∧ St ops cs R k a w ∧ Fr ops a0 (fun i v => i ∉ ds → v = val i) listed a ∧ ∀ (i : Nat) (o : Oper) (t : Nat), ops[i]? = some o → o.dst = some t → listed.getD i false = false → a.eval (.tmp t) = a0.eval (.tmp t)
/-- What waits for it has not come up: its place is as it was. -/
abbrev Und (ops : Array Oper) (a0 a : Act) (i : Nat) : Prop := ∀ (j : Nat) (o : Oper) (t : Nat), ops[j]? = some o → o.dst = some t → Region.waitsFor .any ops j i = true → a.eval (.tmp t) = a0.eval (.tmp t)
theorem wp_region_chain {id : Nat} {a0 : Act} {w0 : World} (hm : P.follows .mixedOrders = true) (val : Nat → Value) (cs ds : List Nat) (F : World → Prop) (R : Nat → Value → World → Prop)
    (hF : F { w0 with drawn := w0.drawn + 1 }) (hR : R 0 (.bool false) { w0 with drawn := w0.drawn + 1 })
    (hp : placedS ops ops.size a0.tmps.size = true) (back : ∀ (i : Nat) (o : Oper), ops[i]? = some o → ∀ e ∈ o.after, Region.binds .any e = true → e.on < i) (hch : chained ops cs = true) (hnd : cs.Nodup) (hlt : ∀ i ∈ cs, i < ops.size)
    (pure : ∀ (i : Nat) (o : Oper) (listed : Array Bool) (a : Act) (w : World), i ∉ cs → ops[i]? = some o → F w → Fr ops a0 (fun i v => i ∉ ds → v = val i) listed a → Und ops a0 a i → (∀ e ∈ o.after, Region.binds .any e = true → listed.getD e.on false = true) →
      Region.wanted o (yielded ops a.tmps) = true ∧ (execOp a.eval o).run P w = .ok (.value (val i)) w)
    (acts : ∀ (i k : Nat) (o : Oper) (listed : Array Bool) (a : Act) (w : World), cs[k]? = some i → ops[i]? = some o → F w → St ops cs R k a w → Fr ops a0 (fun i v => i ∉ ds → v = val i) listed a → Und ops a0 a i → (∀ e ∈ o.after, Region.binds .any e = true → listed.getD e.on false = true) →
      Region.wanted o (yielded ops a.tmps) = true ∧ o.wp P a w (fun a' w' => ∃ v, a' = a.put o.dst v ∧ (i ∉ ds → v = val i) ∧ F w' ∧ R (k + 1) v w') Q)
    (fin : ∀ (listed : Array Bool) (a : Act) (w : World), (∀ i, i < ops.size → listed.getD i false = true) → F w → St ops cs R cs.length a w → Fr ops a0 (fun i v => i ∉ ds → v = val i) listed a → Q .normal a w) : (Code.region id ops true).wp P Q a0 w0 := by
  refine wp_region_inv hm (InvC ops a0 val cs ds F R) back ?_ ?_ ?_
  · refine ⟨0, Nat.zero_le _, fun j i hj => ?_, hF, ⟨fun _ => hR, fun k' i o t h => by omega⟩, ⟨rfl, rfl, fun _ _ => rfl, fun i o t hi _ hl => ?_⟩, fun _ _ _ _ _ _ => rfl⟩
    · have := hlt i (List.mem_of_getElem? hj)
      simp [this]
    · exfalso
      have hlt := (Array.getElem?_eq_some_iff.1 hi).1
      simp [hlt] at hl
  · intro i o listed a w ho h0 hc hdep hinv
    obtain ⟨k, hk, hst, hFw, hSt, hf, hu⟩ := hinv
    have h0' := getD_tf h0
    have hiN : i < ops.size := (Array.getElem?_eq_some_iff.1 ho).1
    have hiS : i ≠ ops.size := by omega
    have hund : Und ops a0 a i := fun j o' t hj hd hwf => hu j o' t hj hd (by
      cases h : listed.getD j false with
      | false => rfl
      | true =>
        have := closed_of hc hwf h
        rw [h0'] at this; cases this)
    have hnext : ∀ v, ∀ (j : Nat) (o' : Oper) (t : Nat), ops[j]? = some o' → o'.dst = some t → (listed.setIfInBounds i true).getD j false = false → (a.put o.dst v).eval (.tmp t) = a0.eval (.tmp t) := fun v j o' t hj hd hl => by
      obtain ⟨t', ht, hts, hdist⟩ := placedS_one hp ho hiS
      have hij : i ≠ j := by
        rintro rfl
        rw [getD_set_self h0] at hl; cases hl
      rw [getD_set_ne false hij] at hl
      have hne : t ≠ t' := fun e => hdist j o' hj hij (by rw [hd, e])
      rw [Act.eval_put (fun d hd' e => by
        injection e with e
        rw [ht] at hd'
        injection hd' with hd'
        exact hne (by rw [e, hd']))]
      exact hu j o' t hj hd hl
    by_cases hic : i ∈ cs
    · obtain ⟨k', hk'⟩ := List.getElem?_of_mem hic
      have hkk : k' = k := by
        have h1 := hst k' i hk'
        rw [h0'] at h1
        have h2 : ¬ k' < k := by
          intro h
          simp [h] at h1
        rcases Nat.eq_zero_or_pos k' with hz | hz
        · omega
        · obtain ⟨p, rfl⟩ : ∃ p, k' = p + 1 := ⟨k' - 1, by omega⟩
          have hp2 : p < cs.length := by
            have := (List.getElem?_eq_some_iff.1 hk').1
            omega
          obtain ⟨q, hq⟩ : ∃ q, cs[p]? = some q := ⟨_, List.getElem?_eq_getElem hp2⟩
          obtain ⟨o', ho', e, he, hb, hq2⟩ := Region.waitsFor_spec (chained_at hch hq hk')
          have : o' = o := Option.some.inj (ho'.symm.trans ho)
          subst this
          have h3 := hdep e he hb
          rw [hq2, hst p q hq] at h3
          have := of_decide_eq_true h3
          omega
      subst hkk
      obtain ⟨hw, hwp⟩ := acts i k' o listed a w hk' ho hFw hSt hf hund hdep
      refine ⟨hw, Oper.wp_mono (fun a' w' hl => ?_) hwp⟩
      obtain ⟨v, rfl, hv, hF', hR'⟩ := hl
      have hkl : k' < cs.length := (List.getElem?_eq_some_iff.1 hk').1
      refine ⟨k' + 1, hkl, fun j q hj => ?_, hF', ⟨fun e => by omega, fun k2 i2 o2 t2 e1 e2 e3 e4 => ?_⟩, fr_next hp ho hiS hf (fun _ _ h => h) hv, hnext v⟩
      · by_cases hjk : j = k'
        · subst hjk
          have : q = i := Option.some.inj (hj.symm.trans hk')
          subst this
          rw [getD_set_self h0]; simp
        · have hqi : i ≠ q := by
            rintro rfl
            exact hjk (nodup_at hnd hj hk')
          rw [getD_set_ne false hqi, hst j q hj]
          have : (j < k') ↔ (j < k' + 1) := by omega
          simp [this]
      · have : k2 = k' := by omega
        subst this
        have : i2 = i := Option.some.inj (e2.symm.trans hk')
        subst this
        have : o2 = o := Option.some.inj (e3.symm.trans ho)
        subst this
        obtain ⟨t, ht, hts, -⟩ := placedS_one hp ho hiS
        have : t2 = t := Option.some.inj (e4.symm.trans ht)
        subst this
        rw [ht, eval_put_same (by rw [hf.size]; exact hts)]
        exact hR'
    · obtain ⟨hw, hr⟩ := pure i o listed a w hic ho hFw hf hund hdep
      refine ⟨hw, Oper.wp_mono (fun a' w' hl => ?_) (wp_value (φ := fun v w' => v = val i ∧ w' = w) hr ⟨rfl, rfl⟩)⟩
      obtain ⟨v, rfl, ⟨rfl, rfl⟩, _⟩ := hl
      obtain ⟨t, ht, hts, hdist⟩ := placedS_one hp ho hiS
      refine ⟨k, hk, fun j q hj => ?_, hFw, ⟨hSt.1, fun k2 i2 o2 t2 e1 e2 e3 e4 => ?_⟩, fr_next hp ho hiS hf (fun _ _ h => h) (fun _ => rfl), hnext _⟩
      · have hqi : i ≠ q := fun e => hic (e ▸ List.mem_of_getElem? hj)
        rw [getD_set_ne false hqi]
        exact hst j q hj
      · have hqi : i ≠ i2 := fun e => hic (e ▸ List.mem_of_getElem? e2)
        have hne : t2 ≠ t := fun e => hdist i2 o2 e3 hqi (by rw [e4, e])
        rw [Act.eval_put (fun d hd' e => by
          injection e with e
          rw [ht] at hd'
          injection hd' with hd'
          exact hne (by rw [e, hd']))]
        exact hSt.2 k2 i2 o2 t2 e1 e2 e3 e4
  · intro listed a w hall hinv
    obtain ⟨k, hk, hst, hFw, hSt, hf, -⟩ := hinv
    have hkl : k = cs.length := by
      rcases Nat.lt_or_ge k cs.length with h | h
      · exfalso
        obtain ⟨q, hq⟩ : ∃ q, cs[k]? = some q := ⟨_, List.getElem?_eq_getElem h⟩
        have h1 := hst k q hq
        rw [hall q (hlt q (List.mem_of_getElem? hq))] at h1
        simp at h1
      · omega
    subst hkl
    exact fin listed a w hall hFw hSt hf
end Go.Proofs.Ytjcgggheablpeaa.Wal.Vx

/- A region that draws its order, of which some operations, stores among them, come one after the other and turn memory as they like; all others only read. No Go program here. -/
namespace Go.Proofs.Ytjcgggheablpeaa.Wal.Vx
open Go.RowKit Dis
variable {P : Program} {ops : Array Oper} {Q : Exit → Act → World → Prop}

/-- Each operation that has a place has one of its own. -/
def placedN (ops : Array Oper) (size : Nat) : Bool :=
  (List.range ops.size).all fun i => match ops[i]? with
    | none => false
    | some o => (match o.dst with
      | none => true
      | some t => decide (t < size) && (List.range ops.size).all fun j => decide (i = j) || (match ops[j]? with | none => true | some o' => o'.dst != some t))
theorem placedN_one {ops : Array Oper} {size i t : Nat} {o : Oper} (h : placedN ops size = true) (hi : ops[i]? = some o) (ht : o.dst = some t) :
    t < size ∧ ∀ (j : Nat) (o' : Oper), ops[j]? = some o' → i ≠ j → o'.dst ≠ some t := by
  have hlt : i < ops.size := (Array.getElem?_eq_some_iff.1 hi).1
  unfold placedN at h
  rw [List.all_eq_true] at h
  have h1 := h i (List.mem_range.2 hlt)
  rw [hi] at h1
  simp only [ht] at h1
  simp only [Bool.and_eq_true, decide_eq_true_eq, List.all_eq_true] at h1
  refine ⟨h1.1, fun j o' hj hne => ?_⟩
  have h4 := h1.2 j (List.mem_range.2 (Array.getElem?_eq_some_iff.1 hj).1)
  rw [hj] at h4
  simpa [hne] using h4
theorem put_far {ops : Array Oper} {size i j t : Nat} {o o' : Oper} {a : Act} {v : Value} (h : placedN ops size = true) (hi : ops[i]? = some o) (hj : ops[j]? = some o') (hij : i ≠ j) (hd : o'.dst = some t) : (a.put o.dst v).eval (.tmp t) = a.eval (.tmp t) :=
  Act.eval_put (fun d hd' e => by
    injection e with e
    obtain ⟨-, h2⟩ := placedN_one h hi hd'
    exact h2 j o' hj hij (by rw [hd, e]))
theorem frN_next {a0 a : Act} {Φ : Nat → Value → Prop} {listed : Array Bool} {i : Nat} {o : Oper} {v : Value} (hp : placedN ops a0.tmps.size = true) (hi : ops[i]? = some o) (h : Fr ops a0 Φ listed a) (hv : Φ i v) : Fr ops a0 Φ (listed.setIfInBounds i true) (a.put o.dst v) := by
  refine ⟨by cases ht : o.dst <;> exact h.defers, ?_, fun t' ht' => ?_, fun j o' t' hj hd hlj => ?_⟩
  · cases ht : o.dst with
    | none => exact h.size
    | some t => simp only [Act.put, Array.size_setIfInBounds]; exact h.size
  · rw [Act.eval_put (fun d hd e => by
      injection e with e
      exact ht' i o hi (by rw [e]; exact hd))]
    exact h.frame t' ht'
  · by_cases hij : i = j
    · subst hij
      have : o' = o := Option.some.inj (hj.symm.trans hi)
      subst this
      obtain ⟨hts, -⟩ := placedN_one hp hi hd
      rw [hd, eval_put_same (by rw [h.size]; exact hts)]
      exact hv
    · rw [getD_set_ne false hij] at hlj
      rw [put_far hp hi hj hij hd]
      exact h.done j o' t' hj hd hlj
/-- What those of the chain that have come up have left. -/
def Evs (ops : Array Oper) (cs : List Nat) (vs : List Value) (a : Act) : Prop := ∀ (j c : Nat) (o : Oper) (t : Nat) (v : Value), vs[j]? = some v → cs[j]? = some c → ops[c]? = some o → o.dst = some t → a.eval (.tmp t) = v
def InvC2 (ops : Array Oper) (a0 : Act) (val : Nat → Value) (cs ds : List Nat) (R : List Value → World → Prop) (listed : Array Bool) (a : Act) (w : World) : Prop :=
  ∃ vs : List Value, vs.length ≤ cs.length ∧ (∀ j i : Nat, cs[j]? = some i → listed.getD i false = decide (j < vs.length)) ∧ Evs ops cs vs a ∧ R vs w ∧ Fr ops a0 (fun i v => i ∉ ds → v = val i) listed a ∧ ∀ (i : Nat) (o : Oper) (t : Nat), ops[i]? = some o → o.dst = some t → listed.getD i false = false → a.eval (.tmp t) = a0.eval (.tmp t)
theorem wp_region_chain2 {id : Nat} {a0 : Act} {w0 : World} (hm : P.follows .mixedOrders = true) (val : Nat → Value) (cs ds : List Nat) (R : List Value → World → Prop)
    (hR : R [] { w0 with drawn := w0.drawn + 1 })
    (hp : placedN ops a0.tmps.size = true) (back : ∀ (i : Nat) (o : Oper), ops[i]? = some o → ∀ e ∈ o.after, Region.binds .any e = true → e.on < i) (hch : chained ops cs = true) (hnd : cs.Nodup) (hlt : ∀ i ∈ cs, i < ops.size)
    (pure : ∀ (i : Nat) (vs : List Value) (o : Oper) (listed : Array Bool) (a : Act) (w : World), i ∉ cs → ops[i]? = some o → R vs w → (∀ j c : Nat, cs[j]? = some c → Region.waitsFor .any ops c i = true → vs.length ≤ j) → vs.length ≤ cs.length → Fr ops a0 (fun i v => i ∉ ds → v = val i) listed a → Und ops a0 a i → (∀ e ∈ o.after, Region.binds .any e = true → listed.getD e.on false = true) →
      Region.wanted o (yielded ops a.tmps) = true ∧ (execOp a.eval o).run P w = .ok (.value (val i)) w)
    (acts : ∀ (i : Nat) (vs : List Value) (o : Oper) (listed : Array Bool) (a : Act) (w : World), cs[vs.length]? = some i → ops[i]? = some o → Evs ops cs vs a → R vs w → Fr ops a0 (fun i v => i ∉ ds → v = val i) listed a → Und ops a0 a i → (∀ e ∈ o.after, Region.binds .any e = true → listed.getD e.on false = true) →
      Region.wanted o (yielded ops a.tmps) = true ∧ o.wp P a w (fun a' w' => ∃ v, a' = a.put o.dst v ∧ (i ∉ ds → v = val i) ∧ R (vs ++ [v]) w') Q)
    (fin : ∀ (vs : List Value) (listed : Array Bool) (a : Act) (w : World), (∀ i, i < ops.size → listed.getD i false = true) → vs.length = cs.length → Evs ops cs vs a → R vs w → Fr ops a0 (fun i v => i ∉ ds → v = val i) listed a → Q .normal a w) : (Code.region id ops true).wp P Q a0 w0 := by
  refine wp_region_inv hm (InvC2 ops a0 val cs ds R) back ?_ ?_ ?_
  · refine ⟨[], Nat.zero_le _, fun j i hj => ?_, fun j c o t v h => by simp at h, hR, ⟨rfl, rfl, fun _ _ => rfl, fun i o t hi _ hl => ?_⟩, fun _ _ _ _ _ _ => rfl⟩
    · have := hlt i (List.mem_of_getElem? hj)
      simp [this]
    · exfalso
      have hlt := (Array.getElem?_eq_some_iff.1 hi).1
      simp [hlt] at hl
  · intro i o listed a w ho h0 hc hdep hinv
    obtain ⟨vs, hk, hst, hev, hSt, hf, hu⟩ := hinv
    have h0' := getD_tf h0
    have hund : Und ops a0 a i := fun j o' t hj hd hwf => hu j o' t hj hd (by
      cases h : listed.getD j false with
      | false => rfl
      | true =>
        have := closed_of hc hwf h
        rw [h0'] at this; cases this)
    have hnext : ∀ v, ∀ (j : Nat) (o' : Oper) (t : Nat), ops[j]? = some o' → o'.dst = some t → (listed.setIfInBounds i true).getD j false = false → (a.put o.dst v).eval (.tmp t) = a0.eval (.tmp t) := fun v j o' t hj hd hl => by
      have hij : i ≠ j := by
        rintro rfl
        rw [getD_set_self h0] at hl; cases hl
      rw [getD_set_ne false hij] at hl
      rw [put_far hp ho hj hij hd]
      exact hu j o' t hj hd hl
    by_cases hic : i ∈ cs
    · obtain ⟨k', hk'⟩ := List.getElem?_of_mem hic
      have hkk : k' = vs.length := by
        have h1 := hst k' i hk'
        rw [h0'] at h1
        have h2 : ¬ k' < vs.length := by
          intro h
          simp [h] at h1
        rcases Nat.eq_zero_or_pos k' with hz | hz
        · omega
        · obtain ⟨p, rfl⟩ : ∃ p, k' = p + 1 := ⟨k' - 1, by omega⟩
          have hp2 : p < cs.length := by
            have := (List.getElem?_eq_some_iff.1 hk').1
            omega
          obtain ⟨q, hq⟩ : ∃ q, cs[p]? = some q := ⟨_, List.getElem?_eq_getElem hp2⟩
          obtain ⟨o', ho', e, he, hb, hq2⟩ := Region.waitsFor_spec (chained_at hch hq hk')
          have : o' = o := Option.some.inj (ho'.symm.trans ho)
          subst this
          have h3 := hdep e he hb
          rw [hq2, hst p q hq] at h3
          have := of_decide_eq_true h3
          omega
      subst hkk
      obtain ⟨hw, hwp⟩ := acts i vs o listed a w hk' ho hev hSt hf hund hdep
      refine ⟨hw, Oper.wp_mono (fun a' w' hl => ?_) hwp⟩
      obtain ⟨v, rfl, hv, hR'⟩ := hl
      have hkl : vs.length < cs.length := (List.getElem?_eq_some_iff.1 hk').1
      refine ⟨vs ++ [v], by simp; omega, fun j q hj => ?_, fun j c o2 t v2 e1 e2 e3 e4 => ?_, hR', frN_next hp ho hf hv, hnext v⟩
      · by_cases hjk : j = vs.length
        · subst hjk
          have : q = i := Option.some.inj (hj.symm.trans hk')
          subst this
          rw [getD_set_self h0]; simp
        · have hqi : i ≠ q := by
            rintro rfl
            exact hjk (nodup_at hnd hj hk')
          rw [getD_set_ne false hqi, hst j q hj]
          have : (j < vs.length) ↔ (j < (vs ++ [v]).length) := by simp; omega
          simp only [this]
      · rcases Nat.lt_or_ge j vs.length with h | h
        · rw [List.getElem?_append_left h] at e1
          have hci : i ≠ c := by
            rintro rfl
            have := nodup_at hnd e2 hk'
            omega
          rw [put_far hp ho e3 hci e4]
          exact hev j c o2 t v2 e1 e2 e3 e4
        · have hjv : j = vs.length := by
            have := (List.getElem?_eq_some_iff.1 e1).1
            simp at this; omega
          subst hjv
          have : c = i := Option.some.inj (e2.symm.trans hk')
          subst this
          have : o2 = o := Option.some.inj (e3.symm.trans ho)
          subst this
          have : v2 = v := by simpa using e1.symm
          subst this
          rw [e4, eval_put_same (by rw [hf.size]; exact (placedN_one hp ho e4).1)]
    · have hkle : ∀ j c : Nat, cs[j]? = some c → Region.waitsFor .any ops c i = true → vs.length ≤ j := fun j c hj hw => by
        rcases Nat.lt_or_ge j vs.length with h | h
        · exfalso
          have h1 := hst j c hj
          simp only [h, decide_true] at h1
          have := closed_of hc hw h1
          rw [h0'] at this; cases this
        · exact h
      obtain ⟨hw, hr⟩ := pure i vs o listed a w hic ho hSt hkle hk hf hund hdep
      refine ⟨hw, Oper.wp_mono (fun a' w' hl => ?_) (wp_value (φ := fun v w' => v = val i ∧ w' = w) hr ⟨rfl, rfl⟩)⟩
      obtain ⟨v, rfl, ⟨rfl, rfl⟩, _⟩ := hl
      refine ⟨vs, hk, fun j q hj => ?_, fun j c o2 t v2 e1 e2 e3 e4 => ?_, hSt, frN_next hp ho hf (fun _ => rfl), hnext _⟩
      · have hqi : i ≠ q := fun e => hic (e ▸ List.mem_of_getElem? hj)
        rw [getD_set_ne false hqi]
        exact hst j q hj
      · have hqi : i ≠ c := fun e => hic (e ▸ List.mem_of_getElem? e2)
        rw [put_far hp ho e3 hqi e4]
        exact hev j c o2 t v2 e1 e2 e3 e4
  · intro listed a w hall hinv
    obtain ⟨vs, hk, hst, hev, hSt, hf, -⟩ := hinv
    have hkl : vs.length = cs.length := by
      rcases Nat.lt_or_ge vs.length cs.length with h | h
      · exfalso
        obtain ⟨q, hq⟩ : ∃ q, cs[vs.length]? = some q := ⟨_, List.getElem?_eq_getElem h⟩
        have h1 := hst _ q hq
        rw [hall q (hlt q (List.mem_of_getElem? hq))] at h1
        simp at h1
      · omega
    exact fin vs listed a w hall hkl hev hSt hf
end Go.Proofs.Ytjcgggheablpeaa.Wal.Vx
