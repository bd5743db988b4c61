/- Plain facts on layer 9's trees: what the document's loops keep. No Go here. -/
import Derived.Test.YteeeomcdknjolaaTMathF
namespace Go.Proofs.Yteeeomcdknjolaa.Tre
open Nod

/-- 'for 5*k < n { k++ }' ends so. -/
theorem lev0_of {n k : Nat} (h1 : 1 ≤ k) (h2 : ¬ 5 * k < n) (h3 : k = 1 ∨ 5 * (k - 1) < n) : k = lev0 n := by unfold lev0; split <;> omega
/-- 'for 8*up < k { up++ }' ends so. -/
theorem up_of {k u : Nat} (h0 : 1 ≤ k) (h1 : 1 ≤ u) (h2 : ¬ 8 * u < k) (h3 : u = 1 ∨ 8 * (u - 1) < k) : u = up k := by unfold up; omega
/-- What of a level is cut already. -/
def GrpSt (r f at_ : Nat) (done : List (Nat × Nat)) : Prop := f ≤ at_ ∧ at_ ≤ f + r ∧ grp r f = done ++ grp (f + r - at_) at_
theorem grpSt_start (r f : Nat) : GrpSt r f f [] := ⟨Nat.le_refl _, by omega, by rw [Nat.add_sub_cancel_left]; rfl⟩
theorem GrpSt.next {r f a : Nat} {done : List (Nat × Nat)} (h : GrpSt r f a done) (ha : a < f + r) : GrpSt r f (a + many (f + r - a)) (done ++ [(a, many (f + r - a))]) := by
  have hm := many_rng (show 0 < f + r - a by omega)
  refine ⟨by have := h.1; omega, by omega, ?_⟩
  rw [h.2.2, grp_more a (show 0 < f + r - a by omega), List.append_assoc]
  rw [show f + r - a - many (f + r - a) = f + r - (a + many (f + r - a)) by omega]
  rfl
theorem GrpSt.fin {r f a : Nat} {done : List (Nat × Nat)} (h : GrpSt r f a done) (ha : ¬ a < f + r) : grp r f = done := by
  rw [h.2.2, show f + r - a = 0 by have := h.2.1; omega, grp_zero, List.append_nil]
/-- What is still to be laid. -/
def LaySt (l : List P) (r f : Nat) (out : List Nd) (least : List T) : Prop := 0 < r ∧ out.length = f + r ∧ least.length = f + r ∧ lay r f out least = tree l
theorem laySt_start (l : List P) : LaySt l (lev0 l.length) 0 ((List.range (lev0 l.length)).map (leafN l)) ((List.range (lev0 l.length)).map (lst l)) := ⟨lev0_pos _, by simp, by simp, rfl⟩
theorem LaySt.next {l : List P} {r f : Nat} {out : List Nd} {least : List T} (h : LaySt l r f out least) (h1 : 1 < r) : LaySt l (up r) (f + r) (out ++ (grp r f).map (mkN least)) (least ++ (grp r f).map fun g => least.getD g.1 []) :=
  ⟨up_pos h.1, by rw [List.length_append, List.length_map, grp_len, h.2.1], by rw [List.length_append, List.length_map, grp_len, h.2.2.1], by rw [← h.2.2.2, lay_more f out least h1]⟩
theorem LaySt.fin {l : List P} {r f : Nat} {out : List Nd} {least : List T} (h : LaySt l r f out least) (h1 : ¬ 1 < r) : out = tree l := by rw [← h.2.2.2, lay_one f out least h1]
/-- The groups read what is there already: a longer list of least keys gives the same nodes. -/
theorem mkN_more (least ns : List T) {a m : Nat} (h : a + m ≤ least.length) : mkN (least ++ ns) (a, m) = mkN least (a, m) := by
  unfold mkN
  congr 1
  apply List.map_congr_left
  intro j hj
  have hj := List.mem_range'_1.1 hj
  simp only at hj
  rw [List.getD_eq_getElem?_getD, List.getD_eq_getElem?_getD, List.getElem?_append_left (by omega)]
/-- No tree is empty, and a tree of pages told has as many as it has. -/
theorem right_len {out : List Nd} (h : rightB out = true) : out.length = pagesN (prsOf out).length ∧ 0 < out.length ∧ out.length ≤ 200 := by
  obtain ⟨_, h2, h3⟩ := right_tree h
  have h4 := tree_len (prsOf out)
  rw [h3] at h4
  have h5 := tree_pos (prsOf out)
  rw [h3] at h5
  exact ⟨h4, h5, by rw [h4]; exact h2⟩
/-- What the document finds. -/
def findL (l : List P) (key : T) : T × Int := match l.find? (fun p => p.1 == key) with
  | some p => (p.2, 0)
  | none => ([], 7)
theorem find_at {l : List P} (h : mayP l = true) {i : Nat} (hi : i < l.length) : findL l (kAt l i) = ((l.getD i ([], [])).2, 0) := by
  unfold findL
  cases hf : l.find? (fun p => p.1 == kAt l i) with
  | none =>
    rw [List.find?_eq_none] at hf
    exact absurd (by unfold kAt; rw [List.getD_eq_getElem?_getD, List.getElem?_eq_getElem hi]; simp) (hf l[i] (List.getElem_mem hi))
  | some q =>
    have hq := List.find?_some hf
    have hqx : q.1 = kAt l i := by simpa using hq
    obtain ⟨j, hj, he⟩ := List.mem_iff_getElem.1 (List.mem_of_find?_eq_some hf)
    have hkj : kAt l j = q.1 := by unfold kAt; rw [List.getD_eq_getElem?_getD, List.getElem?_eq_getElem hj, Option.getD_some, he]
    have := kAt_inj h hj hi (hkj.trans hqx)
    subst this
    rw [List.getD_eq_getElem?_getD, List.getElem?_eq_getElem hj, Option.getD_some, he]
theorem find_no {l : List P} {key : T} (h : ∀ i, i < l.length → kAt l i ≠ key) : findL l key = ([], 7) := by
  unfold findL
  rw [List.find?_eq_none.2]
  intro p hp
  obtain ⟨i, hi, rfl⟩ := List.mem_iff_getElem.1 hp
  have := h i hi
  unfold kAt at this
  rw [List.getD_eq_getElem?_getD, List.getElem?_eq_getElem hi, Option.getD_some] at this
  simpa using this
/-! The chapter's examples. -/
theorem pages_41 : pagesN 41 = 12 ∧ depthN 41 = 3 := by
  have h : levs 9 = [9, 2, 1] := by rw [levs_more (by decide), show up 9 = 2 from rfl, levs_more (by decide), show up 2 = 1 from rfl, levs_one (by decide)]
  unfold pagesN depthN
  rw [show lev0 41 = 9 from rfl, h]
  exact ⟨rfl, rfl⟩
theorem tree_none : tree [] = [⟨[], [], []⟩] := by
  unfold tree
  rw [show lev0 ([] : List P).length = 1 from rfl, lay_one _ _ _ (by decide)]
  rfl
theorem tree_six {l : List P} (h : l.length = 6) : tree l = [leafN l 0, leafN l 1, mkN [lst l 0, lst l 1] (0, 2)] := by
  have hg : grp 2 0 = [(0, 2)] := by rw [grp_more 0 (by decide), show 2 - many 2 = 0 from rfl, grp_zero]; rfl
  unfold tree
  rw [h, show lev0 6 = 2 from rfl, lay_more _ _ _ (by decide), show up 2 = 1 from rfl, lay_one _ _ _ (by decide), hg]
  rfl
end Go.Proofs.Yteeeomcdknjolaa.Tre
