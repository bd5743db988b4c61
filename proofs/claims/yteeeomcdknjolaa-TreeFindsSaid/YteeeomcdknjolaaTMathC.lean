/- Plain facts on layer 9's trees: the way from the root to the leaf in which a key is, or would be. No Go here. -/
import Derived.Test.YteeeomcdknjolaaTMathB
namespace Go.Proofs.Yteeeomcdknjolaa.Tre
open Nod

/-- The leaf in which a key is, or would be. -/
def tgtF (l : List P) (x : T) : Nat → Nat
  | 0 => 0
  | k + 1 => if ltB x (lst l (k + 1)) = true then tgtF l x k else k + 1
def tgt (l : List P) (x : T) : Nat := tgtF l x (lev0 l.length - 1)
theorem tgtF_le (l : List P) (x : T) (k : Nat) : tgtF l x k ≤ k := by
  induction k with
  | zero => exact Nat.le_refl _
  | succ k ih => unfold tgtF; split <;> omega
theorem tgtF_ge (l : List P) (x : T) (k : Nat) : tgtF l x k = 0 ∨ ltB x (lst l (tgtF l x k)) = false := by
  induction k with
  | zero => exact .inl rfl
  | succ k ih =>
    unfold tgtF
    split
    · exact ih
    · rename_i h; exact .inr (by simpa using h)
theorem tgtF_gt (l : List P) (x : T) (k : Nat) : ∀ j, tgtF l x k < j → j ≤ k → ltB x (lst l j) = true := by
  induction k with
  | zero => intro j h1 h2; omega
  | succ k ih =>
    intro j h1 h2
    unfold tgtF at h1
    split at h1
    · rename_i h
      rcases Nat.lt_or_ge k j with h3 | h3
      · rw [show j = k + 1 by omega]; exact h
      · exact ih j h1 h3
    · omega
theorem tgt_lt (l : List P) (x : T) : tgt l x < lev0 l.length := by
  have := tgtF_le l x (lev0 l.length - 1)
  have := lev0_pos l.length
  unfold tgt; omega
theorem lst_lt {l : List P} (h : mayP l = true) {i j : Nat} (hij : i < j) (hj : j < lev0 l.length) : ltB (lst l i) (lst l j) = true :=
  may_lt h (by omega) (lev_at hj (by omega))
/-- A key is behind what is the least of a leaf, if that leaf is not behind its own. -/
theorem tgt_iff {l : List P} (h : mayP l = true) (x : T) {k : Nat} (h0 : 0 < k) (hk : k < lev0 l.length) : ltB x (lst l k) = decide (tgt l x < k) := by
  by_cases h1 : tgt l x < k
  · rw [decide_eq_true h1]; exact tgtF_gt l x _ k h1 (by omega)
  · rw [decide_eq_false h1]
    cases h2 : ltB x (lst l k) with
    | false => rfl
    | true =>
      rcases tgtF_ge l x (lev0 l.length - 1) with h3 | h3
      · exact absurd (show tgt l x < k by unfold tgt; omega) h1
      · rcases Nat.lt_or_ge k (tgt l x) with h4 | h4
        · have := lt_tr h2 (lst_lt h h4 (tgt_lt l x))
          unfold tgt at this
          rw [h3] at this; cases this
        · have h5 : k = tgt l x := by omega
          rw [h5] at h2
          unfold tgt at h2
          rw [h3] at h2; cases h2
/-- The next step of the way. -/
theorem spn_step {l : List P} (hm : mayP l = true) {out : List Nd} {d i x y : Nat} (h : Spn l out d i x y) (key : T) (h1 : x ≤ tgt l key) (h2 : tgt l key < y) :
    (d = 1 ∧ out[i]? = some (leafN l (tgt l key))) ∨
    ∃ (nd : Nd) (c i' d' x' y' : Nat), out[i]? = some nd ∧ nd.ps = [] ∧ d = d' + 1 ∧ 0 < d' ∧ c < nd.cs.length ∧ 2 ≤ nd.cs.length ∧ nd.cs.length ≤ 8 ∧ nd.ks.length + 1 = nd.cs.length ∧ nd.cs[c]? = some (i' : Int) ∧ i' < i ∧ Spn l out d' i' x' y' ∧ x' ≤ tgt l key ∧ tgt l key < y' ∧
      ∀ j, j < nd.ks.length → ltB key (nd.ks.getD j []) = decide (c ≤ j) := by
  cases h with
  | leaf _ h3 h4 =>
    have : i = tgt l key := by omega
    rw [← this]
    exact .inl ⟨rfl, h3⟩
  | node d _ a m b h3 h4 h8 ha hk =>
    obtain ⟨c, hc, hc1, hc2⟩ : ∃ c, c < m ∧ b c ≤ tgt l key ∧ tgt l key < b (c + 1) := by
      have : ∀ k, k ≤ m → tgt l key < b k → ∃ c, c < k ∧ b c ≤ tgt l key ∧ tgt l key < b (c + 1) := fun k => by
        induction k with
        | zero => intro _ h9; omega
        | succ k ih =>
          intro h8 h9
          by_cases h7 : tgt l key < b k
          · obtain ⟨c, q1, q2⟩ := ih (by omega) h7
            exact ⟨c, by omega, q2⟩
          · exact ⟨k, by omega, by omega, h9⟩
      obtain ⟨c, q1, q2⟩ := this m (Nat.le_refl _) h2
      exact ⟨c, q1, q2⟩
    have hup : ∀ k j, j + k ≤ m → b j + k ≤ b (j + k) := fun k => by
      induction k with
      | zero => intro j _; exact Nat.le_refl _
      | succ k ih => intro j hj; have := ih j (by omega); have := (hk (j + k) (by omega)).lt; rw [show j + (k + 1) = j + k + 1 by omega]; omega
    have hle : b m ≤ lev0 l.length := by have := (hk (m - 1) (by omega)).le; rwa [show m - 1 + 1 = m by omega] at this
    refine .inr ⟨_, c, a + c, d, b c, b (c + 1), h3, rfl, rfl, (hk c hc).deep, by simpa using hc, by simpa using h4, by simpa using h8, by simp; omega, ?_, by omega, hk c hc, hc1, hc2, fun j hj => ?_⟩
    · rw [List.getElem?_map, List.getElem?_range' hc]
      simp
    · have hj : j < m - 1 := by simpa using hj
      rw [List.getD_eq_getElem?_getD, List.getElem?_map, List.getElem?_range' hj]
      simp only [Option.map_some, Option.getD_some, Nat.one_mul]
      have q1 := hup (1 + j) 0 (by omega)
      have q2 := hup (m - (1 + j)) (1 + j) (by omega)
      rw [Nat.zero_add] at q1
      rw [show 1 + j + (m - (1 + j)) = m by omega] at q2
      rw [tgt_iff hm key (by omega) (by omega), decide_eq_decide]
      constructor
      · intro h7
        rcases Nat.lt_or_ge j c with h6 | h6
        · have := hup (c - (1 + j)) (1 + j) (by omega)
          rw [show 1 + j + (c - (1 + j)) = c by omega] at this
          omega
        · exact h6
      · intro h7
        have := hup (1 + j - (c + 1)) (c + 1) (by omega)
        rw [show c + 1 + (1 + j - (c + 1)) = 1 + j by omega] at this
        omega
/-- Where a pair is, is its key's leaf. -/
theorem tgt_at {l : List P} (h : mayP l = true) {i : Nat} (hi : i < l.length) : tgt l (kAt l i) = i / 5 := by
  have hk : i / 5 < lev0 l.length := by unfold lev0; split <;> omega
  have hle : ltB (kAt l i) (lst l (i / 5)) = false := by
    rw [lst_key]
    rcases Nat.lt_or_ge (5 * (i / 5)) i with h1 | h1
    · exact lt_asym (may_lt h h1 hi)
    · rw [show 5 * (i / 5) = i by omega]; exact lt_irr _
  have h1 : ¬ tgt l (kAt l i) < i / 5 := fun h2 => by
    have := tgt_iff h (kAt l i) (k := i / 5) (by omega) hk
    rw [hle, decide_eq_true h2] at this; cases this
  have h2 : ¬ i / 5 < tgt l (kAt l i) := fun h2 => by
    have h3 := tgt_lt l (kAt l i)
    have := tgt_iff h (kAt l i) (k := tgt l (kAt l i)) (by omega) h3
    rw [decide_eq_false (by omega), lst_key] at this
    rw [may_lt h (by omega) (lev_at h3 (by omega))] at this; cases this
  omega
theorem kAt_inj {l : List P} (h : mayP l = true) {i j : Nat} (hi : i < l.length) (hj : j < l.length) (e : kAt l i = kAt l j) : i = j := by
  rcases Nat.lt_trichotomy i j with h1 | h1 | h1
  · exact absurd e (lt_ne (may_lt h h1 hj))
  · exact h1
  · exact absurd e.symm (lt_ne (may_lt h h1 hi))
/-- A key is among all, if it is in its leaf. -/
theorem find_leaf {l : List P} (h : mayP l = true) (x : T) : (leafN l (tgt l x)).ps.find? (fun p => p.1 == x) = l.find? (fun p => p.1 == x) := by
  cases hf : l.find? (fun p => p.1 == x) with
  | none =>
    rw [List.find?_eq_none] at hf ⊢
    intro p hp
    exact hf p (List.mem_of_mem_drop (List.mem_of_mem_take hp))
  | some q =>
    have hq := List.find?_some hf
    obtain ⟨i, hi, he⟩ := List.mem_iff_getElem.1 (List.mem_of_find?_eq_some hf)
    have hqx : q.1 = x := by simpa using hq
    have hki : kAt l i = x := by unfold kAt; rw [List.getD_eq_getElem?_getD, List.getElem?_eq_getElem hi, Option.getD_some, he, hqx]
    have ht := tgt_at h hi
    rw [hki] at ht
    rw [ht]
    have hmem : q ∈ (leafN l (i / 5)).ps := by
      have := leaf_at l (i / 5) (i % 5) (by rw [leaf_len]; omega)
      rw [show 5 * (i / 5) + i % 5 = i by omega, List.getD_eq_getElem?_getD, List.getElem?_eq_getElem hi, Option.getD_some, he] at this
      exact List.mem_of_getElem? this
    cases hg : (leafN l (i / 5)).ps.find? (fun p => p.1 == x) with
    | none => rw [List.find?_eq_none] at hg; exact absurd hq (hg q hmem)
    | some r =>
      have hr := List.find?_some hg
      have hrx : r.1 = x := by simpa using hr
      obtain ⟨j, hj, hje⟩ := List.mem_iff_getElem.1 (List.mem_of_mem_drop (List.mem_of_mem_take (List.mem_of_find?_eq_some hg)))
      have hkj : kAt l j = x := by unfold kAt; rw [List.getD_eq_getElem?_getD, List.getElem?_eq_getElem hj, Option.getD_some, hje, hrx]
      have := kAt_inj h hi hj (hki.trans hkj.symm)
      subst this
      rw [← hje, ← he]
end Go.Proofs.Yteeeomcdknjolaa.Tre
