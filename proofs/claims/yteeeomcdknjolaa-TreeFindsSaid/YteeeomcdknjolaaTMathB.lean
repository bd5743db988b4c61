/- Plain facts on layer 9's trees: each page of a tree of pairs that may be laid may be; its pairs are those that were laid. No Go here. -/
import Derived.Test.YteeeomcdknjolaaTMath
namespace Go.Proofs.Yteeeomcdknjolaa.Tre
open Nod

/-- May pairs be laid? -/
def prOk (l : List P) (i : Nat) : Bool := keyB (l.getD i ([], [])).1 && (valB (l.getD i ([], [])).2 && (decide (i = 0) || ltB (l.getD (i - 1) ([], [])).1 (l.getD i ([], [])).1))
def mayP (l : List P) : Bool := (List.range l.length).all (prOk l)
def kAt (l : List P) (i : Nat) : T := (l.getD i ([], [])).1
theorem may_get {l : List P} (h : mayP l = true) {i : Nat} (hi : i < l.length) : keyB (kAt l i) = true ∧ valB (l.getD i ([], [])).2 = true ∧ (0 < i → ltB (kAt l (i - 1)) (kAt l i) = true) := by
  unfold mayP at h
  rw [List.all_eq_true] at h
  have := h i (List.mem_range.2 hi)
  unfold prOk at this
  simp only [Bool.and_eq_true, Bool.or_eq_true, decide_eq_true_eq] at this
  exact ⟨this.1, this.2.1, fun h0 => this.2.2.resolve_left (by omega)⟩
theorem may_lt {l : List P} (h : mayP l = true) {i j : Nat} (hij : i < j) (hj : j < l.length) : ltB (kAt l i) (kAt l j) = true := by
  induction j with
  | zero => omega
  | succ j ih =>
    have h1 := (may_get h hj).2.2 (by omega)
    rw [Nat.add_sub_cancel] at h1
    rcases Nat.lt_or_ge i j with h2 | h2
    · exact lt_tr (ih h2 (by omega)) h1
    · have : i = j := by omega
      subst this; exact h1
theorem rise_of {M : List T} (h : ∀ i, i < M.length → keyB (M.getD i []) = true ∧ (0 < i → ltB (M.getD (i - 1) []) (M.getD i []) = true)) : riseB M = true := by
  unfold riseB
  rw [List.all_eq_true]
  intro i hi
  obtain ⟨h1, h2⟩ := h i (List.mem_range.1 hi)
  rw [h1, Bool.true_and, Bool.or_eq_true, decide_eq_true_eq]
  rcases Nat.eq_zero_or_pos i with h0 | h0
  · exact .inl h0
  · exact .inr (h2 h0)
theorem lev_at {n k : Nat} (hk : k < lev0 n) (h0 : 0 < k) : 5 * k < n := by unfold lev0 at hk; split at hk <;> omega
theorem lev_all (n : Nat) : n ≤ 5 * lev0 n := by unfold lev0; split <;> omega
theorem leaf_len (l : List P) (i : Nat) : (leafN l i).ps.length = min 5 (l.length - 5 * i) := by simp [leafN]
theorem leaf_at (l : List P) (i j : Nat) (hj : j < (leafN l i).ps.length) : (leafN l i).ps[j]? = some (l.getD (5 * i + j) ([], [])) := by
  rw [leaf_len] at hj
  unfold leafN
  rw [List.getElem?_take, if_pos (by omega), List.getElem?_drop, List.getD_eq_getElem?_getD, List.getElem?_eq_getElem (by omega)]
  rfl
theorem leaf_may {l : List P} (h : mayP l = true) (i : Nat) : mayB (leafN l i) = true := by
  unfold mayB
  rw [if_pos (show (leafN l i).cs.length = 0 from rfl)]
  have hl := leaf_len l i
  have hk : ∀ j, j < (leafN l i).ps.length → ((leafN l i).ps.map (·.1)).getD j [] = kAt l (5 * i + j) := fun j hj => by
    rw [List.getD_eq_getElem?_getD, List.getElem?_map, leaf_at l i j hj]
    rfl
  have h1 : riseB ((leafN l i).ps.map (·.1)) = true := rise_of fun j hj => by
    rw [List.length_map] at hj
    rw [hk j hj]
    obtain ⟨a, _, b⟩ := may_get h (i := 5 * i + j) (by omega)
    refine ⟨a, fun h0 => ?_⟩
    rw [hk (j - 1) (by omega)]
    have := b (by omega)
    rwa [show 5 * i + j - 1 = 5 * i + (j - 1) by omega] at this
  have h2 : ((leafN l i).ps.all fun p => valB p.2) = true := by
    rw [List.all_eq_true]
    intro p hp
    obtain ⟨j, hj, rfl⟩ := List.mem_iff_getElem.1 hp
    have := leaf_at l i j hj
    rw [List.getElem?_eq_getElem hj] at this
    injection this with this
    rw [this]
    exact (may_get h (i := 5 * i + j) (by omega)).2.1
  unfold leafB
  rw [h1, h2]
  simp [leafN]
  omega
theorem Spn.le {l : List P} {out : List Nd} {d i x y : Nat} (h : Spn l out d i x y) : y ≤ lev0 l.length := by
  induction h with
  | leaf i h hi => omega
  | node d i a m b h h2 h8 ha _ ih =>
    have := ih (m - 1) (by omega)
    rwa [show m - 1 + 1 = m by omega] at this
theorem Spn.deep {l : List P} {out : List Nd} {d i x y : Nat} (h : Spn l out d i x y) : 0 < d := by
  cases h <;> omega
theorem kids_range (a m : Nat) (h : a + m ≤ 200) : kidsB ((List.range' a m).map fun (j : Nat) => (j : Int)) = true := by
  unfold kidsB
  rw [List.all_eq_true]
  intro i hi
  have hi : i < m := by simpa using hi
  have e : ((List.range' a m).map fun (j : Nat) => (j : Int)).getD i 0 = ((a + i : Nat) : Int) := by
    rw [List.getD_eq_getElem?_getD, List.getElem?_map, List.getElem?_range' hi]
    simp
  rw [e]
  simp only [Bool.and_eq_true, decide_eq_true_eq, Bool.not_eq_true']
  refine ⟨⟨by omega, by omega⟩, ?_⟩
  rw [← Bool.not_eq_true, List.contains_iff_mem]
  intro hc
  rw [← List.map_take] at hc
  obtain ⟨x, hx, hxe⟩ := List.mem_map.1 hc
  obtain ⟨k, hk, hke⟩ := List.mem_iff_getElem.1 hx
  rw [List.length_take, List.length_range'] at hk
  rw [List.getElem_take, List.getElem_range'] at hke
  omega
theorem lst_key {l : List P} (k : Nat) : lst l k = kAt l (5 * k) := rfl
theorem node_may {l : List P} (h : mayP l = true) {a m : Nat} {b : Nat → Nat} (h2 : 2 ≤ m) (h8 : m ≤ 8) (ha : a + m ≤ 200) (hb : ∀ j, j < m → b j < b (j + 1)) (hl : b m ≤ lev0 l.length) :
    mayB ⟨[], (List.range' 1 (m - 1)).map fun j => lst l (b j), (List.range' a m).map fun (j : Nat) => (j : Int)⟩ = true := by
  have hup : ∀ k j, j + k ≤ m → b j + k ≤ b (j + k) := fun k => by
    induction k with
    | zero => intro j _; exact Nat.le_refl _
    | succ k ih => intro j hj; have := ih j (by omega); have := hb (j + k) (by omega); rw [show j + (k + 1) = j + k + 1 by omega]; omega
  have hbl : ∀ j, 0 < j → j < m → 0 < b j ∧ b j < lev0 l.length := fun j h0 hj => by
    have h1 := hup j 0 (by omega)
    have h2 := hup (m - j) j (by omega)
    rw [Nat.zero_add] at h1
    rw [show j + (m - j) = m by omega] at h2
    omega
  unfold mayB
  rw [if_neg (by simp; omega)]
  unfold innerB
  have h1 : riseB ((List.range' 1 (m - 1)).map fun j => lst l (b j)) = true := rise_of fun i hi => by
    have hi : i < m - 1 := by simpa using hi
    have e : ∀ k, k < m - 1 → ((List.range' 1 (m - 1)).map fun j => lst l (b j)).getD k [] = kAt l (5 * b (k + 1)) := fun k hk => by
      rw [List.getD_eq_getElem?_getD, List.getElem?_map, List.getElem?_range' hk]
      simp only [Option.map_some, Option.getD_some, Nat.one_mul]
      rw [lst_key, Nat.add_comm 1 k]
    rw [e i hi]
    obtain ⟨q1, q2⟩ := hbl (i + 1) (by omega) (by omega)
    refine ⟨(may_get h (lev_at q2 q1)).1, fun h0 => ?_⟩
    rw [e (i - 1) (by omega), show i - 1 + 1 = i by omega]
    exact may_lt h (by have := hb i (by omega); omega) (lev_at q2 q1)
  rw [h1, kids_range a m ha]
  simp
  omega
/-- Each page of a tree may be. -/
theorem tree_may {l : List P} (h : mayP l = true) (hp : pagesN l.length ≤ 200) : ∀ n ∈ tree l, mayB n = true := fun n hn => by
  obtain ⟨i, hi, rfl⟩ := List.mem_iff_getElem.1 hn
  obtain ⟨d, x, y, hs⟩ := (tree_spn l).2 i hi
  rw [← tree_len] at hp
  cases hs with
  | leaf _ h1 h2 =>
    rw [List.getElem?_eq_getElem hi] at h1
    injection h1 with h1
    rw [h1]; exact leaf_may h i
  | node d _ a m b h1 h2 h8 ha hk =>
    rw [List.getElem?_eq_getElem hi] at h1
    injection h1 with h1
    rw [h1]
    have hle : b m ≤ lev0 l.length := by have := (hk (m - 1) (by omega)).le; rwa [show m - 1 + 1 = m by omega] at this
    exact node_may h h2 h8 (by omega) (fun j hj => (hk j hj).lt) hle

/-! The pairs in the leaves. -/
def prsOf (out : List Nd) : List P := (out.map (·.ps)).flatten
theorem prs_append (a b : List Nd) : prsOf (a ++ b) = prsOf a ++ prsOf b := by unfold prsOf; rw [List.map_append, List.flatten_append]
theorem prs_none (gs : List (Nat × Nat)) (least : List T) : prsOf (gs.map (mkN least)) = [] := by
  unfold prsOf
  rw [List.map_map, List.flatten_eq_nil_iff]
  intro x hx
  obtain ⟨g, _, rfl⟩ := List.mem_map.1 hx
  rfl
theorem lay_prs (r : Nat) : ∀ (f : Nat) (out : List Nd) (least : List T), prsOf (lay r f out least) = prsOf out := by
  induction r using Nat.strongRecOn with
  | _ r ih =>
    intro f out least
    by_cases h1 : 1 < r
    · rw [lay_more f out least h1, ih _ (up_lt h1), prs_append, prs_none, List.append_nil]
    · rw [lay_one f out least h1]
theorem leaves_prs (l : List P) (k : Nat) : prsOf ((List.range k).map (leafN l)) = l.take (5 * k) := by
  induction k with
  | zero => simp [prsOf]
  | succ k ih =>
    rw [List.range_succ, List.map_append, prs_append, ih, show 5 * (k + 1) = 5 * k + 5 by omega, List.take_add]
    simp [prsOf, leafN]
theorem tree_prs (l : List P) : prsOf (tree l) = l := by
  unfold tree
  rw [lay_prs, leaves_prs, List.take_of_length_le (lev_all _)]
/-- Are pages a tree? -/
def rightB (out : List Nd) : Bool := out.all mayB && (mayP (prsOf out) && (decide (pagesN (prsOf out).length ≤ 200) && decide (tree (prsOf out) = out)))
theorem tree_right {l : List P} (h : mayP l = true) (hp : pagesN l.length ≤ 200) : rightB (tree l) = true := by
  unfold rightB
  rw [tree_prs, h]
  have := List.all_eq_true.2 (tree_may h hp)
  rw [this]
  simp [hp]
theorem right_tree {out : List Nd} (h : rightB out = true) : mayP (prsOf out) = true ∧ pagesN (prsOf out).length ≤ 200 ∧ tree (prsOf out) = out := by
  unfold rightB at h
  simp only [Bool.and_eq_true, decide_eq_true_eq] at h
  exact ⟨h.2.1, h.2.2.1, h.2.2.2⟩
end Go.Proofs.Yteeeomcdknjolaa.Tre
