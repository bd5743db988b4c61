/- How the depths of a tree's nodes are reckoned, from the root on. -/
import Derived.Test.YteeeomcdknjolaaTMathF
import Derived.Test.YteeeomcdknjolaaTMathG
namespace Go.Proofs.Yteeeomcdknjolaa.Tre
open Go.RowKit Crc Chk Frm Fra Nod

theorem levs_len {k : Nat} (h : 0 < k) : (levs k).length ≤ k := by
  induction k using Nat.strongRecOn with
  | _ k ih =>
    by_cases h1 : 1 < k
    · rw [levs_more h1, List.length_cons]
      have := ih (up k) (up_lt h1) (up_pos h)
      have := up_lt h1
      omega
    · rw [levs_one h1]; simp; omega
theorem depth_le (n : Nat) : depthN n ≤ n + 1 := by
  have h := levs_len (lev0_pos n)
  unfold depthN
  have : lev0 n ≤ n + 1 := by unfold lev0; split <;> omega
  omega
def depS (out : List Nd) (f : Nat → Bool) : List Int := (List.range out.length).map fun j => if f j = true then ((depOf out j : Nat) : Int) else 0
theorem depS_len (out : List Nd) (f : Nat → Bool) : (depS out f).length = out.length := by simp [depS]
theorem depS_at {out : List Nd} {j : Nat} (hj : j < out.length) (f : Nat → Bool) : (depS out f)[j]? = some (if f j = true then ((depOf out j : Nat) : Int) else 0) := by
  unfold depS
  rw [List.getElem?_map, List.getElem?_range hj]
  rfl
theorem depS_congr {out : List Nd} {f g : Nat → Bool} (h : ∀ j, j < out.length → f j = g j) : depS out f = depS out g := by
  unfold depS
  refine List.map_congr_left fun j hj => ?_
  rw [h j (List.mem_range.1 hj)]
theorem depS_set {out : List Nd} {j : Nat} (f : Nat → Bool) : (depS out f).set j ((depOf out j : Nat) : Int) = depS out fun x => f x || x == j := by
  apply List.ext_getElem?
  intro x
  rw [List.getElem?_set, depS_len]
  by_cases hx : x < out.length
  · rw [depS_at hx, depS_at hx]
    by_cases h : j = x
    · subst h
      rw [if_pos rfl, if_pos hx]
      simp
    · rw [if_neg h, show (x == j) = false by simp; omega, Bool.or_false]
  · rw [show (depS out f)[x]? = none by rw [List.getElem?_eq_none_iff, depS_len]; omega, show (depS out fun x => f x || x == j)[x]? = none by rw [List.getElem?_eq_none_iff, depS_len]; omega]
    by_cases h : j = x
    · rw [if_pos h, if_neg (by omega)]
    · rw [if_neg h]
theorem par_gt (l : List P) {i : Nat} (h : i < (tree l).length) : i + 1 ≤ parI (tree l) i := by
  by_cases h1 : i + 1 < (tree l).length
  · obtain ⟨i', _, hp, h2, _⟩ := dep_other l h1
    omega
  · have h2 := (dep_root l).1
    rw [show i = (tree l).length - 1 by omega, h2]
    omega
theorem par_le (l : List P) {i : Nat} (h : i + 1 < (tree l).length) : parI (tree l) i < (tree l).length := by
  obtain ⟨i', _, hp, _, h3, _⟩ := dep_other l h
  omega
theorem dep_pos (out : List Nd) (j : Nat) : 0 < depOf out j := by
  rw [depOf]
  split <;> omega
theorem dep_le (l : List P) {j : Nat} (h : j < (tree l).length) : depOf (tree l) j ≤ l.length + 2 := by
  obtain ⟨d, x, y, hs⟩ := (tree_spn l).2 j h
  have h1 := dep_spn l _ j d x y rfl h hs
  have := depth_le l.length
  omega
theorem depS_start (l : List P) : (List.replicate (tree l).length (0 : Int)).set ((tree l).length - 1) 1 = depS (tree l) fun j => decide ((tree l).length ≤ parI (tree l) j) := by
  have hp := tree_pos l
  apply List.ext_getElem?
  intro x
  rw [List.getElem?_set, List.length_replicate]
  by_cases hx : x < (tree l).length
  · rw [depS_at hx]
    by_cases h : (tree l).length - 1 = x
    · subst h
      rw [if_pos rfl, if_pos hx, (dep_root l).1, (dep_root l).2]
      simp
    · have h2 := par_le l (i := x) (by omega)
      rw [if_neg h, List.getElem?_replicate, if_pos hx, if_neg (by simp; omega)]
  · rw [show (depS (tree l) fun j => decide ((tree l).length ≤ parI (tree l) j))[x]? = none by rw [List.getElem?_eq_none_iff, depS_len]; omega, List.getElem?_replicate, if_neg hx, if_neg (by omega)]
/-- What is told already, while the kids of a node are told. -/
def told (out : List Nd) (i a c : Nat) (j : Nat) : Bool := decide (i + 1 ≤ parI out j) || (decide (a ≤ j) && decide (j < a + c))
theorem told_none (out : List Nd) (i a : Nat) : told out i a 0 = fun j => decide (i + 1 ≤ parI out j) := by
  funext j
  unfold told
  by_cases h : a ≤ j
  · rw [decide_eq_true h, decide_eq_false (show ¬ j < a + 0 by omega)]; simp
  · rw [decide_eq_false h]; simp
theorem told_next (out : List Nd) (i a c : Nat) : (fun x => told out i a c x || x == a + c) = told out i a (c + 1) := by
  funext x
  unfold told
  rw [Bool.eq_iff_iff]
  simp
  omega
theorem told_all (l : List P) {i a m : Nat} {nd : Nd} (hi : i < (tree l).length) (hn : (tree l)[i]? = some nd) (hc : nd.cs = (List.range' a m).map fun (j : Nat) => (j : Int)) :
    depS (tree l) (told (tree l) i a m) = depS (tree l) fun j => decide (i ≤ parI (tree l) j) := by
  refine depS_congr fun j hj => ?_
  unfold told
  rw [Bool.eq_iff_iff]
  simp only [Bool.or_eq_true, Bool.and_eq_true, decide_eq_true_eq]
  constructor
  · rintro (h | ⟨h1, h2⟩)
    · omega
    · have hk : kidOf (tree l) i j := ⟨nd, hn, by rw [hc]; exact mem_kids.2 ⟨h1, h2⟩⟩
      rw [(dep_kid hk).1]
      exact Nat.le_refl _
  · intro h
    by_cases h1 : i = parI (tree l) j
    · right
      by_cases h2 : j + 1 < (tree l).length
      · obtain ⟨i', hk, hp, _⟩ := dep_other l h2
        obtain rfl : i' = i := by omega
        obtain ⟨nd', hn', hm⟩ := hk
        rw [hn] at hn'
        cases hn'
        rw [hc] at hm
        exact mem_kids.1 hm
      · have h3 := (dep_root l).1
        rw [show (tree l).length - 1 = j by omega] at h3
        omega
    · left; omega
theorem told_kid (l : List P) {i a m c : Nat} {nd : Nd} (hn : (tree l)[i]? = some nd) (hc : nd.cs = (List.range' a m).map fun (j : Nat) => (j : Int)) (h : c < m) :
    told (tree l) i a c (a + c) = false ∧ a + c < i ∧ depOf (tree l) (a + c) = depOf (tree l) i + 1 := by
  have hk : kidOf (tree l) i (a + c) := ⟨nd, hn, by rw [hc]; exact mem_kids.2 ⟨by omega, by omega⟩⟩
  obtain ⟨h1, h2, _, h4⟩ := dep_kid hk
  refine ⟨?_, h2, h4⟩
  unfold told
  rw [h1, decide_eq_false (by omega), decide_eq_false (show ¬ a + c < a + c by omega)]
  simp
theorem told_self (l : List P) {i a c : Nat} (hi : i < (tree l).length) : told (tree l) i a c i = true := by
  unfold told
  rw [decide_eq_true (par_gt l hi)]
  rfl
end Go.Proofs.Yteeeomcdknjolaa.Tre
