/- A region that draws its order, of which some operations come one after the other and turn memory as they like; all others only read what lasts. No Go program here. -/
import Derived.Test.YtckbehojcjhcgaaFAnyC
namespace Go.Proofs.Ytckbehojcjhcgaa.Nod
open Go.RowKit Fra
variable {P : Program} {ops : Array Oper} {Q : Exit → Act → World → Prop}

/-- What the last one of the chain has left. -/
def St (ops : Array Oper) (cs : List Nat) (R : Nat → Value → World → Prop) (k : Nat) (a : Act) (w : World) : Prop :=
  (k = 0 → R 0 (.bool false) w) ∧ ∀ (k' i : Nat) (o : Oper) (t : Nat), k = k' + 1 → cs[k']? = some i → ops[i]? = some o → o.dst = some t → R k (a.eval (.tmp t)) w
def InvC (ops : Array Oper) (a0 : Act) (val : Nat → Value) (cs ds : List Nat) (F : World → Prop) (R : Nat → Value → World → Prop) (listed : Array Bool) (a : Act) (w : World) : Prop :=
  ∃ k, k ≤ cs.length ∧ (∀ j i : Nat, cs[j]? = some i → listed.getD i false = decide (j < k)) ∧ F w ∧ St ops cs R k a w ∧ Fr ops a0 (fun i v => i ∉ ds → v = val i) listed a ∧ ∀ (i : Nat) (o : Oper) (t : Nat), ops[i]? = some o → o.dst = some t → listed.getD i false = false → a.eval (.tmp t) = a0.eval (.tmp t)
/-- What waits for it has not come up: its place is as it was. -/
abbrev Und (ops : Array Oper) (a0 a : Act) (i : Nat) : Prop := ∀ (j : Nat) (o : Oper) (t : Nat), ops[j]? = some o → o.dst = some t → Region.waitsFor .any ops j i = true → a.eval (.tmp t) = a0.eval (.tmp t)
theorem wp_region_chain {id : Nat} {a0 : Act} {w0 : World} (hm : P.follows .mixedOrders = true) (val : Nat → Value) (cs ds : List Nat) (F : World → Prop) (R : Nat → Value → World → Prop)
    (hF : F { w0 with drawn := w0.drawn + 1 }) (hR : R 0 (.bool false) { w0 with drawn := w0.drawn + 1 })
    (hp : placedS ops ops.size a0.tmps.size = true) (back : ∀ (i : Nat) (o : Oper), ops[i]? = some o → ∀ e ∈ o.after, Region.binds .any e = true → e.on < i) (hch : chained ops cs = true) (hnd : cs.Nodup) (hlt : ∀ i ∈ cs, i < ops.size)
    (pure : ∀ (i : Nat) (o : Oper) (listed : Array Bool) (a : Act) (w : World), i ∉ cs → ops[i]? = some o → F w → Fr ops a0 (fun i v => i ∉ ds → v = val i) listed a → Und ops a0 a i → (∀ e ∈ o.after, Region.binds .any e = true → listed.getD e.on false = true) →
      Region.wanted o (yielded ops a.tmps) = true ∧ (execOp a.eval o).run P w = .ok (.value (val i)) w)
    (acts : ∀ (i k : Nat) (o : Oper) (listed : Array Bool) (a : Act) (w : World), cs[k]? = some i → ops[i]? = some o → F w → St ops cs R k a w → Fr ops a0 (fun i v => i ∉ ds → v = val i) listed a → Und ops a0 a i → (∀ e ∈ o.after, Region.binds .any e = true → listed.getD e.on false = true) →
      Region.wanted o (yielded ops a.tmps) = true ∧ o.wp P a w (fun a' w' => ∃ v, a' = a.put o.dst v ∧ (i ∉ ds → v = val i) ∧ F w' ∧ R (k + 1) v w') Q)
    (fin : ∀ (listed : Array Bool) (a : Act) (w : World), (∀ i, i < ops.size → listed.getD i false = true) → F w → St ops cs R cs.length a w → Fr ops a0 (fun i v => i ∉ ds → v = val i) listed a → Q .normal a w) : (Code.region id ops true).wp P Q a0 w0 := by
  refine wp_region_inv hm (InvC ops a0 val cs ds F R) back ?_ ?_ ?_
  · refine ⟨0, Nat.zero_le _, fun j i hj => ?_, hF, ⟨fun _ => hR, fun k' i o t h => by omega⟩, ⟨rfl, rfl, fun _ _ => rfl, fun i o t hi _ hl => ?_⟩, fun _ _ _ _ _ _ => rfl⟩
    · have := hlt i (List.mem_of_getElem? hj)
      simp [this]
    · exfalso
      have hlt := (Array.getElem?_eq_some_iff.1 hi).1
      simp [hlt] at hl
  · intro i o listed a w ho h0 hc hdep hinv
    obtain ⟨k, hk, hst, hFw, hSt, hf, hu⟩ := hinv
    have h0' := getD_tf h0
    have hiN : i < ops.size := (Array.getElem?_eq_some_iff.1 ho).1
    have hiS : i ≠ ops.size := by omega
    have hund : Und ops a0 a i := fun j o' t hj hd hwf => hu j o' t hj hd (by
      cases h : listed.getD j false with
      | false => rfl
      | true =>
        have := closed_of hc hwf h
        rw [h0'] at this; cases this)
    have hnext : ∀ v, ∀ (j : Nat) (o' : Oper) (t : Nat), ops[j]? = some o' → o'.dst = some t → (listed.setIfInBounds i true).getD j false = false → (a.put o.dst v).eval (.tmp t) = a0.eval (.tmp t) := fun v j o' t hj hd hl => by
      obtain ⟨t', ht, hts, hdist⟩ := placedS_one hp ho hiS
      have hij : i ≠ j := by
        rintro rfl
        rw [getD_set_self h0] at hl; cases hl
      rw [getD_set_ne false hij] at hl
      have hne : t ≠ t' := fun e => hdist j o' hj hij (by rw [hd, e])
      rw [Act.eval_put (fun d hd' e => by
        injection e with e
        rw [ht] at hd'
        injection hd' with hd'
        exact hne (by rw [e, hd']))]
      exact hu j o' t hj hd hl
    by_cases hic : i ∈ cs
    · obtain ⟨k', hk'⟩ := List.getElem?_of_mem hic
      have hkk : k' = k := by
        have h1 := hst k' i hk'
        rw [h0'] at h1
        have h2 : ¬ k' < k := by
          intro h
          simp [h] at h1
        rcases Nat.eq_zero_or_pos k' with hz | hz
        · omega
        · obtain ⟨p, rfl⟩ : ∃ p, k' = p + 1 := ⟨k' - 1, by omega⟩
          have hp2 : p < cs.length := by
            have := (List.getElem?_eq_some_iff.1 hk').1
            omega
          obtain ⟨q, hq⟩ : ∃ q, cs[p]? = some q := ⟨_, List.getElem?_eq_getElem hp2⟩
          obtain ⟨o', ho', e, he, hb, hq2⟩ := Region.waitsFor_spec (chained_at hch hq hk')
          have : o' = o := Option.some.inj (ho'.symm.trans ho)
          subst this
          have h3 := hdep e he hb
          rw [hq2, hst p q hq] at h3
          have := of_decide_eq_true h3
          omega
      subst hkk
      obtain ⟨hw, hwp⟩ := acts i k' o listed a w hk' ho hFw hSt hf hund hdep
      refine ⟨hw, Oper.wp_mono (fun a' w' hl => ?_) hwp⟩
      obtain ⟨v, rfl, hv, hF', hR'⟩ := hl
      have hkl : k' < cs.length := (List.getElem?_eq_some_iff.1 hk').1
      refine ⟨k' + 1, hkl, fun j q hj => ?_, hF', ⟨fun e => by omega, fun k2 i2 o2 t2 e1 e2 e3 e4 => ?_⟩, fr_next hp ho hiS hf (fun _ _ h => h) hv, hnext v⟩
      · by_cases hjk : j = k'
        · subst hjk
          have : q = i := Option.some.inj (hj.symm.trans hk')
          subst this
          rw [getD_set_self h0]; simp
        · have hqi : i ≠ q := by
            rintro rfl
            exact hjk (nodup_at hnd hj hk')
          rw [getD_set_ne false hqi, hst j q hj]
          have : (j < k') ↔ (j < k' + 1) := by omega
          simp [this]
      · have : k2 = k' := by omega
        subst this
        have : i2 = i := Option.some.inj (e2.symm.trans hk')
        subst this
        have : o2 = o := Option.some.inj (e3.symm.trans ho)
        subst this
        obtain ⟨t, ht, hts, -⟩ := placedS_one hp ho hiS
        have : t2 = t := Option.some.inj (e4.symm.trans ht)
        subst this
        rw [ht, eval_put_same (by rw [hf.size]; exact hts)]
        exact hR'
    · obtain ⟨hw, hr⟩ := pure i o listed a w hic ho hFw hf hund hdep
      refine ⟨hw, Oper.wp_mono (fun a' w' hl => ?_) (wp_value (φ := fun v w' => v = val i ∧ w' = w) hr ⟨rfl, rfl⟩)⟩
      obtain ⟨v, rfl, ⟨rfl, rfl⟩, _⟩ := hl
      obtain ⟨t, ht, hts, hdist⟩ := placedS_one hp ho hiS
      refine ⟨k, hk, fun j q hj => ?_, hFw, ⟨hSt.1, fun k2 i2 o2 t2 e1 e2 e3 e4 => ?_⟩, fr_next hp ho hiS hf (fun _ _ h => h) (fun _ => rfl), hnext _⟩
      · have hqi : i ≠ q := fun e => hic (e ▸ List.mem_of_getElem? hj)
        rw [getD_set_ne false hqi]
        exact hst j q hj
      · have hqi : i ≠ i2 := fun e => hic (e ▸ List.mem_of_getElem? e2)
        have hne : t2 ≠ t := fun e => hdist i2 o2 e3 hqi (by rw [e4, e])
        rw [Act.eval_put (fun d hd' e => by
          injection e with e
          rw [ht] at hd'
          injection hd' with hd'
          exact hne (by rw [e, hd']))]
        exact hSt.2 k2 i2 o2 t2 e1 e2 e3 e4
  · intro listed a w hall hinv
    obtain ⟨k, hk, hst, hFw, hSt, hf, -⟩ := hinv
    have hkl : k = cs.length := by
      rcases Nat.lt_or_ge k cs.length with h | h
      · exfalso
        obtain ⟨q, hq⟩ : ∃ q, cs[k]? = some q := ⟨_, List.getElem?_eq_getElem h⟩
        have h1 := hst k q hq
        rw [hall q (hlt q (List.mem_of_getElem? hq))] at h1
        simp at h1
      · omega
    subst hkl
    exact fin listed a w hall hFw hSt hf
end Go.Proofs.Ytckbehojcjhcgaa.Nod
