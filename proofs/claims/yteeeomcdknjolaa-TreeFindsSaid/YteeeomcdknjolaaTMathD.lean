/- Plain facts on layer 9's trees: each page but the root is the kid of just one; how high each stands. No Go here. -/
import Derived.Test.YteeeomcdknjolaaTMathC
namespace Go.Proofs.Yteeeomcdknjolaa.Tre
open Nod

theorem spn_fun {l : List P} {out : List Nd} {d i x y : Nat} (h : Spn l out d i x y) : ∀ {d' x' y' : Nat}, Spn l out d' i x' y' → d = d' := by
  induction h with
  | leaf i h hi =>
    intro d' x' y' h2
    cases h2 with
    | leaf _ _ _ => rfl
    | node d _ a m b h3 h4 h8 ha hk =>
      rw [h] at h3
      injection h3 with h3
      have := congrArg (fun n => n.cs.length) h3
      simp [leafN] at this
      omega
  | node d i a m b h h2 h8 ha hk ih =>
    intro d' x' y' h9
    cases h9 with
    | leaf _ h3 _ =>
      rw [h] at h3
      injection h3 with h3
      have := congrArg (fun n => n.cs.length) h3
      simp [leafN] at this
      omega
    | node d2 _ a2 m2 b2 h3 h4 h82 ha2 hk2 =>
      rw [h] at h3
      injection h3 with h3
      have hc := congrArg (fun n => n.cs) h3
      simp only at hc
      have hl := congrArg List.length hc
      simp only [List.length_map, List.length_range'] at hl
      have h0 := congrArg (fun c => c[0]?) hc
      simp only [List.getElem?_map, List.getElem?_range' (show 0 < m by omega), List.getElem?_range' (show 0 < m2 by omega), Option.map_some, Option.some.injEq, Nat.mul_zero, Nat.add_zero] at h0
      have ha : a = a2 := by omega
      subst ha
      rw [ih 0 (by omega) (hk2 0 (by omega))]
/-- Is one page another one's kid? -/
def kidOf (out : List Nd) (i k : Nat) : Prop := ∃ nd, out[i]? = some nd ∧ (k : Int) ∈ nd.cs
theorem mem_kids {a m k : Nat} : ((k : Int) ∈ (List.range' a m).map fun (j : Nat) => (j : Int)) ↔ a ≤ k ∧ k < a + m := by
  rw [List.mem_map]
  constructor
  · rintro ⟨x, hx, e⟩
    rw [List.mem_range'_1] at hx
    omega
  · intro h
    exact ⟨k, by rw [List.mem_range'_1]; exact h, rfl⟩
theorem kid_spn {l : List P} {out : List Nd} {d i x y k : Nat} (h : Spn l out d i x y) (hk : kidOf out i k) : k < i ∧ ∃ d' x' y', d = d' + 1 ∧ Spn l out d' k x' y' := by
  obtain ⟨nd, h1, h2⟩ := hk
  cases h with
  | leaf _ h3 _ =>
    rw [h1] at h3
    injection h3 with h3
    rw [h3] at h2
    simp [leafN] at h2
  | node d _ a m b h3 h4 h8 ha hk =>
    rw [h1] at h3
    injection h3 with h3
    rw [h3] at h2
    obtain ⟨q1, q2⟩ := mem_kids.1 h2
    have := hk (k - a) (by omega)
    rw [show a + (k - a) = k by omega] at this
    exact ⟨by omega, d, _, _, rfl, this⟩
theorem lay_par (r : Nat) : ∀ (f : Nat) (out : List Nd) (least : List T), 0 < r → out.length = f + r → (∀ k, k < f → ∃ i, kidOf out i k) → (∀ i k, kidOf out i k → k < f) → (∀ i i' k, kidOf out i k → kidOf out i' k → i = i') →
    (∀ k, k + 1 < (lay r f out least).length → ∃ i, kidOf (lay r f out least) i k) ∧ (∀ i k, kidOf (lay r f out least) i k → k + 1 < (lay r f out least).length) ∧ (∀ i i' k, kidOf (lay r f out least) i k → kidOf (lay r f out least) i' k → i = i') := by
  induction r using Nat.strongRecOn with
  | _ r ih =>
    intro f out least h0 ho hA hB hC
    by_cases h1 : 1 < r
    · rw [lay_more f out least h1]
      obtain ⟨off, o0, o1, o2⟩ := grp_off r f
      have hmono : ∀ i j, j + i ≤ up r → off j + i ≤ off (j + i) := fun i => by
        induction i with
        | zero => intro j _; exact Nat.le_refl _
        | succ i ihi => intro j hj; have := ihi j (by omega); have := (o2 (j + i) (by omega)).2.1; rw [show j + (i + 1) = j + i + 1 by omega]; omega
      have hoff : ∀ j, j < up r → off (j + 1) ≤ r := fun j hj => by
        have := hmono (up r - (j + 1)) (j + 1) (by omega)
        rw [show j + 1 + (up r - (j + 1)) = up r by omega, o1] at this
        omega
      have hK : ∀ i k, kidOf (out ++ (grp r f).map (mkN least)) i k ↔ (kidOf out i k ∨ ∃ j, j < up r ∧ i = f + r + j ∧ f + off j ≤ k ∧ k < f + off (j + 1)) := fun i k => by
        constructor
        · rintro ⟨nd, q1, q2⟩
          rcases Nat.lt_or_ge i (f + r) with h3 | h3
          · rw [List.getElem?_append_left (by rw [ho]; exact h3)] at q1
            exact .inl ⟨nd, q1, q2⟩
          · have hi := (List.getElem?_eq_some_iff.1 q1).1
            rw [List.length_append, List.length_map, grp_len, ho] at hi
            obtain ⟨k1, k2, -, -⟩ := o2 (i - (f + r)) (by omega)
            rw [List.getElem?_append_right (by rw [ho]; exact h3), ho, List.getElem?_map, k1] at q1
            simp only [Option.map_some, Option.some.injEq] at q1
            rw [← q1] at q2
            obtain ⟨q3, q4⟩ := mem_kids.1 q2
            exact .inr ⟨i - (f + r), by omega, by omega, q3, by omega⟩
        · rintro (⟨nd, q1, q2⟩ | ⟨j, hj, rfl, q3, q4⟩)
          · exact ⟨nd, by rw [List.getElem?_append_left (List.getElem?_eq_some_iff.1 q1).1]; exact q1, q2⟩
          · obtain ⟨k1, k2, -, -⟩ := o2 j hj
            refine ⟨mkN least (f + off j, off (j + 1) - off j), ?_, mem_kids.2 ⟨q3, by omega⟩⟩
            rw [List.getElem?_append_right (by rw [ho]; omega), ho, show f + r + j - (f + r) = j by omega, List.getElem?_map, k1]
            rfl
      refine ih (up r) (up_lt h1) (f + r) _ _ (up_pos h0) (by rw [List.length_append, List.length_map, grp_len, ho]) (fun k hk => ?_) (fun i k hik => ?_) (fun i i' k h2 h3 => ?_)
      · rcases Nat.lt_or_ge k f with h3 | h3
        · obtain ⟨i, hi⟩ := hA k h3
          exact ⟨i, (hK i k).2 (.inl hi)⟩
        · have : ∀ c, c ≤ up r → k < f + off c → ∃ j, j < c ∧ f + off j ≤ k ∧ k < f + off (j + 1) := fun c => by
            induction c with
            | zero => intro _ h9; omega
            | succ c ihc =>
              intro h8 h9
              by_cases h7 : k < f + off c
              · obtain ⟨j, q1, q2⟩ := ihc (by omega) h7
                exact ⟨j, by omega, q2⟩
              · exact ⟨c, by omega, by omega, h9⟩
          obtain ⟨j, q1, q2, q3⟩ := this (up r) (Nat.le_refl _) (by omega)
          exact ⟨f + r + j, (hK _ k).2 (.inr ⟨j, q1, rfl, q2, q3⟩)⟩
      · rcases (hK i k).1 hik with h3 | ⟨j, q1, q2, q3, q4⟩
        · have := hB i k h3; omega
        · have := hoff j q1; omega
      · rcases (hK i k).1 h2 with h4 | ⟨j, q1, q2, q3, q4⟩
        · rcases (hK i' k).1 h3 with h5 | ⟨j', p1, p2, p3, p4⟩
          · exact hC i i' k h4 h5
          · have := hB i k h4; omega
        · rcases (hK i' k).1 h3 with h5 | ⟨j', p1, p2, p3, p4⟩
          · have := hB i' k h5; omega
          · rcases Nat.lt_trichotomy j j' with h6 | h6 | h6
            · have := hmono (j' - (j + 1)) (j + 1) (by omega)
              rw [show j + 1 + (j' - (j + 1)) = j' by omega] at this
              omega
            · omega
            · have := hmono (j - (j' + 1)) (j' + 1) (by omega)
              rw [show j' + 1 + (j - (j' + 1)) = j by omega] at this
              omega
    · have hr : r = 1 := by omega
      subst hr
      rw [lay_one f out least h1]
      exact ⟨fun k hk => hA k (by omega), fun i k h => by have := hB i k h; omega, hC⟩
/-- Each page but the root is the kid of just one, which stands behind it; the root is none's. -/
theorem tree_par (l : List P) : (∀ k, k + 1 < (tree l).length → ∃ i, kidOf (tree l) i k) ∧ (∀ i k, kidOf (tree l) i k → k + 1 < (tree l).length) ∧ (∀ i i' k, kidOf (tree l) i k → kidOf (tree l) i' k → i = i') := by
  have hn : ∀ i k, ¬ kidOf ((List.range (lev0 l.length)).map (leafN l)) i k := fun i k => by
    rintro ⟨nd, h1, h2⟩
    obtain ⟨j, _, rfl⟩ := List.mem_map.1 (List.mem_of_getElem? h1)
    simp [leafN] at h2
  exact lay_par (lev0 l.length) 0 _ _ (lev0_pos _) (by simp) (fun k hk => by omega) (fun i k h => absurd h (hn i k)) (fun i i' k h => absurd h (hn i k))
/-- The kids of a page are all unlike. -/
theorem kids_nodup {l : List P} {i : Nat} (hi : i < (tree l).length) {nd : Nd} (h : (tree l)[i]? = some nd) : (nd.cs = [] ∧ nd.ps = (leafN l i).ps) ∨ ∃ a m, nd.cs = (List.range' a m).map (fun (j : Nat) => (j : Int)) ∧ nd.ps = [] ∧ 2 ≤ m ∧ m ≤ 8 ∧ a + m ≤ i := by
  obtain ⟨d, x, y, hs⟩ := (tree_spn l).2 i hi
  cases hs with
  | leaf _ h3 _ =>
    rw [h] at h3
    injection h3 with h3
    rw [h3]
    exact .inl ⟨rfl, rfl⟩
  | node d _ a m b h3 h4 h8 ha hk =>
    rw [h] at h3
    injection h3 with h3
    rw [h3]
    exact .inr ⟨a, m, rfl, rfl, h4, h8, ha⟩
end Go.Proofs.Yteeeomcdknjolaa.Tre
