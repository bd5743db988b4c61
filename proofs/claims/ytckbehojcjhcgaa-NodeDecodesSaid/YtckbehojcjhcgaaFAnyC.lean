/- A region that draws its order though its values and its worlds do not hang on it: the operations that make or write memory come up one after the other, one of them stores, and all others come before it. No Go program here. -/
import Derived.Test.YtckbehojcjhcgaaFAny
import Derived.StillTail
namespace Go.Proofs.Ytckbehojcjhcgaa.Fra
open Go.RowKit
variable {P : Program} {ops : Array Oper} {Q : Exit → Act → World → Prop}

/-- Each waits for the one before it. -/
def chained (ops : Array Oper) (cs : List Nat) : Bool := (cs.zip cs.tail).all fun p => Region.waitsFor .any ops p.2 p.1
theorem chained_at {cs : List Nat} (h : chained ops cs = true) {k i j : Nat} (h1 : cs[k]? = some i) (h2 : cs[k + 1]? = some j) : Region.waitsFor .any ops j i = true := by
  unfold chained at h
  rw [List.all_eq_true] at h
  refine h (i, j) (List.mem_of_getElem? (i := k) ?_)
  rw [List.getElem?_zip_eq_some]
  exact ⟨h1, by rw [List.getElem?_tail]; exact h2⟩
/-- All others come before it. -/
def covers (ops : Array Oper) (S : Nat) : Bool := (List.range ops.size).all fun i => decide (i = S) || Region.waitsFor .any ops S i
theorem covers_at {S i : Nat} (h : covers ops S = true) (hi : i < ops.size) (hS : i ≠ S) : Region.waitsFor .any ops S i = true := by
  unfold covers at h
  rw [List.all_eq_true] at h
  simpa [hS] using h i (List.mem_range.2 hi)
theorem closed_of {listed : Array Bool} {i j : Nat} (hc : Closed .any ops listed) (h : Region.waitsFor .any ops j i = true) (hj : listed.getD j false = true) : listed.getD i false = true := by
  obtain ⟨o, ho, e, he, hb, rfl⟩ := Region.waitsFor_spec h
  exact hc.2 j o ho hj e he hb

theorem nodup_at {cs : List Nat} (h : cs.Nodup) {j k i : Nat} (h1 : cs[j]? = some i) (h2 : cs[k]? = some i) : j = k := by
  obtain ⟨a1, b1⟩ := List.getElem?_eq_some_iff.1 h1
  obtain ⟨a2, b2⟩ := List.getElem?_eq_some_iff.1 h2
  have hp := List.pairwise_iff_getElem.1 h
  rcases Nat.lt_trichotomy j k with h | h | h
  · exact absurd (b1.trans b2.symm) (hp j k a1 a2 h)
  · exact h
  · exact absurd (b2.trans b1.symm) (hp k j a2 a1 h)
def InvX (ops : Array Oper) (a0 : Act) (val : Nat → Value) (cs : List Nat) (X : Nat → World) (listed : Array Bool) (a : Act) (w : World) : Prop :=
  ∃ k, k ≤ cs.length ∧ (∀ j i : Nat, cs[j]? = some i → listed.getD i false = decide (j < k)) ∧ w = X k ∧ Fr ops a0 (fun i v => v = val i) listed a
theorem wp_region_exact {id S : Nat} {a0 : Act} {w0 : World} (hm : P.follows .mixedOrders = true) (val : Nat → Value) (cs : List Nat) (X : Nat → World) (hX : X 0 = { w0 with drawn := w0.drawn + 1 })
    (hp : placedS ops S a0.tmps.size = true) (back : ∀ (i : Nat) (o : Oper), ops[i]? = some o → ∀ e ∈ o.after, Region.binds .any e = true → e.on < i) (hch : chained ops cs = true) (hcv : covers ops S = true) (hnd : cs.Nodup) (hS : cs[cs.length - 1]? = some S) (hlt : ∀ i ∈ cs, i < ops.size)
    (pure : ∀ (i k : Nat) (o : Oper) (listed : Array Bool) (a : Act), i ∉ cs → k < cs.length → ops[i]? = some o → Fr ops a0 (fun i v => v = val i) listed a → (∀ e ∈ o.after, Region.binds .any e = true → listed.getD e.on false = true) →
      Region.wanted o (yielded ops a.tmps) = true ∧ (execOp a.eval o).run P (X k) = .ok (.value (val i)) (X k))
    (acts : ∀ (i k : Nat) (o : Oper) (listed : Array Bool) (a : Act), cs[k]? = some i → ops[i]? = some o → Fr ops a0 (fun i v => v = val i) listed a → (∀ e ∈ o.after, Region.binds .any e = true → listed.getD e.on false = true) →
      Region.wanted o (yielded ops a.tmps) = true ∧ o.wp P a (X k) (fun a' w' => a' = (if i = S then a else a.put o.dst (val i)) ∧ w' = X (k + 1)) Q)
    (fin : ∀ (listed : Array Bool) (a : Act), (∀ i, i < ops.size → listed.getD i false = true) → Fr ops a0 (fun i v => v = val i) listed a → Q .normal a (X cs.length)) : (Code.region id ops true).wp P Q a0 w0 := by
  refine wp_region_inv hm (InvX ops a0 val cs X) back ?_ ?_ ?_
  · refine ⟨0, Nat.zero_le _, fun j i hj => ?_, hX.symm, rfl, rfl, fun _ _ => rfl, fun i o t hi _ hl => ?_⟩
    · have := hlt i (List.mem_of_getElem? hj)
      simp [this]
    · exfalso
      have hlt := (Array.getElem?_eq_some_iff.1 hi).1
      simp [hlt] at hl
  · intro i o listed a w ho h0 hc hdep hinv
    obtain ⟨k, hk, hst, rfl, hf⟩ := hinv
    have h0' := getD_tf h0
    have hiN : i < ops.size := (Array.getElem?_eq_some_iff.1 ho).1
    by_cases hic : i ∈ cs
    · obtain ⟨k', hk'⟩ := List.getElem?_of_mem hic
      have hkk : k' = k := by
        have h1 := hst k' i hk'
        rw [h0'] at h1
        have h2 : ¬ k' < k := by
          intro h
          simp [h] at h1
        rcases Nat.eq_zero_or_pos k' with hz | hz
        · omega
        · obtain ⟨p, rfl⟩ : ∃ p, k' = p + 1 := ⟨k' - 1, by omega⟩
          have hp2 : p < cs.length := by
            have := (List.getElem?_eq_some_iff.1 hk').1
            omega
          obtain ⟨q, hq⟩ : ∃ q, cs[p]? = some q := ⟨_, List.getElem?_eq_getElem hp2⟩
          obtain ⟨o', ho', e, he, hb, hq2⟩ := Region.waitsFor_spec (chained_at hch hq hk')
          have : o' = o := Option.some.inj (ho'.symm.trans ho)
          subst this
          have h3 := hdep e he hb
          rw [hq2, hst p q hq] at h3
          have := of_decide_eq_true h3
          omega
      subst hkk
      obtain ⟨hw, hwp⟩ := acts i k' o listed a hk' ho hf hdep
      refine ⟨hw, Oper.wp_mono (fun a' w' hl => ?_) hwp⟩
      obtain ⟨rfl, rfl⟩ := hl
      have hkl : k' < cs.length := (List.getElem?_eq_some_iff.1 hk').1
      refine ⟨k' + 1, hkl, fun j q hj => ?_, rfl, ?_⟩
      · by_cases hjk : j = k'
        · subst hjk
          have : q = i := Option.some.inj (hj.symm.trans hk')
          subst this
          rw [getD_set_self h0]; simp
        · have hqi : i ≠ q := by
            rintro rfl
            exact hjk (nodup_at hnd hj hk')
          rw [getD_set_ne false hqi, hst j q hj]
          have : (j < k') ↔ (j < k' + 1) := by omega
          simp [this]
      · by_cases hiS : i = S
        · rw [if_pos hiS]
          subst hiS
          refine ⟨hf.defers, hf.size, hf.frame, fun j o' t hj hd hlj => ?_⟩
          by_cases hij : i = j
          · subst hij
            have : o' = o := Option.some.inj (hj.symm.trans ho)
            subst this
            rw [placedS_store hp ho] at hd
            cases hd
          · rw [getD_set_ne false hij] at hlj
            exact hf.done j o' t hj hd hlj
        · rw [if_neg hiS]
          exact fr_next hp ho hiS hf (fun _ _ h => h) rfl
    · have hiS : i ≠ S := fun e => hic (e ▸ List.mem_of_getElem? hS)
      have hSl : listed.getD S false = false := by
        cases h : listed.getD S false with
        | false => rfl
        | true =>
          have := closed_of hc (covers_at hcv hiN hiS) h
          rw [h0'] at this; cases this
      have hkl : k < cs.length := by
        rcases Nat.lt_or_ge k cs.length with h | h
        · exact h
        · exfalso
          have h1 := hst _ _ hS
          have h2 := (List.getElem?_eq_some_iff.1 hS).1
          rw [hSl] at h1
          have : cs.length - 1 < k := by omega
          simp [this] at h1
      obtain ⟨hw, hr⟩ := pure i k o listed a hic hkl ho hf hdep
      refine ⟨hw, Oper.wp_mono (fun a' w' hl => ?_) (wp_value (φ := fun v w' => v = val i ∧ w' = X k) hr ⟨rfl, rfl⟩)⟩
      obtain ⟨v, rfl, ⟨rfl, rfl⟩, _⟩ := hl
      refine ⟨k, hk, fun j q hj => ?_, rfl, fr_next hp ho hiS hf (fun _ _ h => h) rfl⟩
      have hqi : i ≠ q := fun e => hic (e ▸ List.mem_of_getElem? hj)
      rw [getD_set_ne false hqi]
      exact hst j q hj
  · intro listed a w hall hinv
    obtain ⟨k, hk, hst, rfl, hf⟩ := hinv
    have hkl : k = cs.length := by
      rcases Nat.lt_or_ge k cs.length with h | h
      · exfalso
        obtain ⟨q, hq⟩ : ∃ q, cs[k]? = some q := ⟨_, List.getElem?_eq_getElem h⟩
        have h1 := hst k q hq
        rw [hall q (hlt q (List.mem_of_getElem? hq))] at h1
        simp at h1
      · omega
    subst hkl
    exact fin listed a hall hf
end Go.Proofs.Ytckbehojcjhcgaa.Fra
