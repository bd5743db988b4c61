/- Plain facts on layer 9's trees: how deep each page is, from the root on; the pairs of TreeEdge and of the chapter's examples. No Go here. -/
import Derived.Test.YteeeomcdknjolaaTMathE
namespace Go.Proofs.Yteeeomcdknjolaa.Tre
open Nod

/-- The page of which one is a kid; behind the last one, if there is none. -/
def parI (out : List Nd) (j : Nat) : Nat := out.findIdx fun n => n.cs.contains (j : Int)
theorem par_kid {out : List Nd} {i k : Nat} (hu : ∀ i i' k, kidOf out i k → kidOf out i' k → i = i') (h : kidOf out i k) : parI out k = i := by
  obtain ⟨nd, h1, h2⟩ := h
  have hl : parI out k < out.length := by
    unfold parI
    rw [List.findIdx_lt_length]
    exact ⟨nd, List.mem_of_getElem? h1, by simpa using h2⟩
  have h3 : (out[parI out k].cs.contains (k : Int)) = true := List.findIdx_getElem (w := hl)
  refine hu (parI out k) i k ⟨out[parI out k], List.getElem?_eq_getElem hl, ?_⟩ ⟨nd, h1, h2⟩
  exact List.contains_iff_mem.1 h3
theorem par_none {out : List Nd} {k : Nat} (h : ∀ i, ¬ kidOf out i k) : parI out k = out.length := by
  unfold parI
  rw [List.findIdx_eq_length]
  intro n hn
  obtain ⟨i, hi, rfl⟩ := List.mem_iff_getElem.1 hn
  cases hc : (out[i].cs.contains (k : Int)) with
  | false => rfl
  | true => exact absurd ⟨out[i], List.getElem?_eq_getElem hi, by simpa using hc⟩ (h i)
/-- How deep a page is, from the root on. -/
def depOf (out : List Nd) (j : Nat) : Nat := if _h : j < parI out j ∧ parI out j < out.length then depOf out (parI out j) + 1 else 1
termination_by out.length - j
decreasing_by omega
theorem dep_kid {l : List P} {i k : Nat} (h : kidOf (tree l) i k) : parI (tree l) k = i ∧ k < i ∧ i < (tree l).length ∧ depOf (tree l) k = depOf (tree l) i + 1 := by
  have h1 := par_kid (tree_par l).2.2 h
  have hi : i < (tree l).length := by obtain ⟨nd, h2, _⟩ := h; exact (List.getElem?_eq_some_iff.1 h2).1
  obtain ⟨d, x, y, hs⟩ := (tree_spn l).2 i hi
  have h2 := (kid_spn hs h).1
  refine ⟨h1, h2, hi, ?_⟩
  rw [depOf, dif_pos ⟨by rw [h1]; exact h2, by rw [h1]; exact hi⟩, h1]
theorem tree_pos (l : List P) : 0 < (tree l).length := by
  rw [tree_len]
  unfold pagesN
  by_cases h : 1 < lev0 l.length
  · rw [levs_more h, List.sum_cons]; omega
  · rw [levs_one h]; have := lev0_pos l.length; simpa using this
theorem dep_root (l : List P) : parI (tree l) ((tree l).length - 1) = (tree l).length ∧ depOf (tree l) ((tree l).length - 1) = 1 := by
  have h1 : parI (tree l) ((tree l).length - 1) = (tree l).length := par_none fun i h => by
    have := (tree_par l).2.1 i _ h
    omega
  exact ⟨h1, by rw [depOf, dif_neg (by omega)]⟩
theorem dep_other (l : List P) {j : Nat} (h : j + 1 < (tree l).length) : ∃ i, kidOf (tree l) i j ∧ parI (tree l) j = i ∧ j < i ∧ i < (tree l).length ∧ depOf (tree l) j = depOf (tree l) i + 1 := by
  obtain ⟨i, hi⟩ := (tree_par l).1 j h
  exact ⟨i, hi, dep_kid hi⟩
/-- How deep and how high: together as deep as the tree. -/
theorem dep_spn (l : List P) (c : Nat) : ∀ (j d x y : Nat), (tree l).length - j = c → j < (tree l).length → Spn l (tree l) d j x y → depOf (tree l) j + d = depthN l.length + 1 := by
  induction c using Nat.strongRecOn with
  | _ c ih =>
    intro j d x y hc hj hs
    by_cases h : j + 1 < (tree l).length
    · obtain ⟨i, hk, h1, h2, h3, h4⟩ := dep_other l h
      obtain ⟨d1, x1, y1, hs1⟩ := (tree_spn l).2 i h3
      obtain ⟨d2, x2, y2, rfl, hs2⟩ := (kid_spn hs1 hk).2
      have := ih _ (by omega) i _ _ _ rfl h3 hs1
      have := spn_fun hs hs2
      rw [h4]; omega
    · have : j = (tree l).length - 1 := by omega
      subst this
      rw [(dep_root l).2, spn_fun hs (tree_spn l).1]; omega
/-- Each leaf is as deep as the others. -/
theorem dep_leaf (l : List P) {j : Nat} (hj : j < (tree l).length) {nd : Nd} (h : (tree l)[j]? = some nd) (hc : nd.cs = []) : depOf (tree l) j = depthN l.length := by
  obtain ⟨d, x, y, hs⟩ := (tree_spn l).2 j hj
  have h9 := dep_spn l _ j d x y rfl hj hs
  cases hs with
  | leaf _ _ _ => omega
  | node d _ a m b h3 h4 h8 ha hk =>
    rw [h] at h3
    injection h3 with h3
    rw [h3] at hc
    have := congrArg List.length hc
    simp at this
    omega

/-! TreeEdge's pairs. -/
def edgeK (i : Nat) : T := [UInt8.ofNat (1 + i / 250), UInt8.ofNat (1 + i % 250)]
def edgeL (k : Nat) : List P := (List.range k).map fun i => (edgeK i, [])
theorem may_of {l : List P} (h : ∀ i, i < l.length → keyB (kAt l i) = true ∧ valB (l.getD i ([], [])).2 = true ∧ (0 < i → ltB (kAt l (i - 1)) (kAt l i) = true)) : mayP l = true := by
  unfold mayP
  rw [List.all_eq_true]
  intro i hi
  obtain ⟨h1, h2, h3⟩ := h i (List.mem_range.1 hi)
  unfold prOk
  unfold kAt at h1 h3
  rw [h1, h2, Bool.true_and, Bool.true_and, Bool.or_eq_true, decide_eq_true_eq]
  rcases Nat.eq_zero_or_pos i with h0 | h0
  · exact .inl h0
  · exact .inr (h3 h0)
theorem u8_lt {a b : Nat} (h : a < b) (hb : b < 256) : UInt8.ofNat a < UInt8.ofNat b := by
  rw [UInt8.lt_iff_toNat_lt, UInt8.toNat_ofNat', UInt8.toNat_ofNat']
  omega
theorem edge_at {k i : Nat} (h : i < k) : (edgeL k).getD i ([], []) = (edgeK i, []) := by
  unfold edgeL
  rw [List.getD_eq_getElem?_getD, List.getElem?_map, List.getElem?_range h]
  rfl
theorem two_lt {a b c d : UInt8} (h : a < c ∨ (a = c ∧ b < d)) : ltB [a, b] [c, d] = true := by
  unfold ltB
  simp only [Op.bytesLess, Bool.or_eq_true, Bool.and_eq_true, decide_eq_true_eq, beq_iff_eq]
  rcases h with h | ⟨h1, h2⟩
  · exact .inl h
  · exact .inr ⟨h1, .inl h2⟩
theorem edge_may {k : Nat} (hk : k ≤ 900) : mayP (edgeL k) = true := may_of fun i hi => by
  have hi : i < k := by simpa [edgeL] using hi
  unfold kAt
  rw [edge_at hi]
  refine ⟨by simp [keyB, edgeK], by simp [valB], fun h0 => ?_⟩
  rw [edge_at (show i - 1 < k by omega)]
  refine two_lt ?_
  by_cases h : i % 250 = 0
  · exact .inl (u8_lt (by omega) (by omega))
  · refine .inr ⟨by rw [show (i - 1) / 250 = i / 250 by omega], u8_lt (by omega) (by omega)⟩
end Go.Proofs.Yteeeomcdknjolaa.Tre
