/- Contract: an entry that came in, as it is read; plain facts of entries that are taken back. Conditions: none. -/
import Derived.Test.YtejdhemnlcbffaaDoorE14
import Derived.Test.YtejdhemnlcbffaaDoorEAny
namespace Go.Proofs.YtejdhemnlcbffaaDoor.Ent
open Go.RowKit Cht
open Mny (Fits)

/-- An entry that came in. -/
structure RdE (w : World) (r : ByteArray) (A : Option Addr) (l : List Ln) (m c : Nat) : Prop where
  lns : Lns w w.heap.size A l
  len : l.length = m
  cap : m ≤ c
  big : c ≤ 9223372036854775807
  ref : r.size ≤ 9223372036854775807
  fit : ∀ x ∈ l, (-9223372036854775808 ≤ x.k ∧ x.k ≤ 9223372036854775807) ∧ x.s.size ≤ 9223372036854775807 ∧ Fits x.n

theorem cutS_cutS (n : Nat) (s : ByteArray) : cutS n (cutS n s) = cutS n s := cutS_short (by have := cutS_size n s; omega)
theorem fewX_fewX (x : Ln) : fewX (fewX x) = fewX x := by unfold fewX; rw [cutS_cutS]
theorem fewL_short {l : List Ln} (h : l.length ≤ 10) (hx : ∀ x ∈ l, fewX x = x) : fewL l = l := by
  unfold fewL
  rw [List.take_of_length_le h]
  conv => rhs; rw [← List.map_id l]
  exact List.map_congr_left fun x hm => hx x hm
theorem fewL_fewL (l : List Ln) : fewL (fewL l) = fewL l := by
  refine fewL_short (by rw [fewL_len]; omega) fun x hx => ?_
  unfold fewL at hx
  obtain ⟨y, _, rfl⟩ := List.mem_map.1 hx
  exact fewX_fewX y
theorem fewL_fit {l : List Ln} (h : ∀ x ∈ l, (-9223372036854775808 ≤ x.k ∧ x.k ≤ 9223372036854775807) ∧ x.s.size ≤ 9223372036854775807 ∧ Fits x.n) : ∀ x ∈ fewL l, fitL x := fun x hx => by
  unfold fewL at hx
  obtain ⟨y, hy, rfl⟩ := List.mem_map.1 hx
  obtain ⟨h1, -, h3⟩ := h y (List.mem_of_mem_take hy)
  exact ⟨h1, by show (cutS 20 y.s).size ≤ 1000; have := cutS_size 20 y.s; omega, h3⟩

/-! ### What is taken back -/
theorem negX_negX (x : Ln) : negX (negX x) = x := by cases x; simp [negX]
theorem backL_backL (l : List Ln) : backL (backL l) = l := by
  unfold backL; rw [List.map_map]
  conv => rhs; rw [← List.map_id l]
  exact List.map_congr_left fun x _ => negX_negX x
theorem sameA_neg (x y : Ln) : sameA (negX x) y = sameA x y := rfl
theorem sameA_neg' (x y : Ln) : sameA x (negX y) = sameA x y := rfl
theorem okI_back (l : List Ln) (i : Nat) : okI (backL l) i = okI l i := by
  unfold okI backL
  rw [List.getElem?_map]
  cases h : l[i]? with
  | none => rfl
  | some y =>
    simp only [Option.map_some]
    rw [← List.map_take, List.any_map]
    have e1 : ((negX y).n == 0) = (y.n == 0) := by
      show (-y.n == 0) = (y.n == 0)
      rw [Bool.eq_iff_iff]; simp
    rw [e1]
    rfl
theorem mayL_back (l : List Ln) : mayL (backL l) = mayL l := by
  unfold mayL
  rw [backL_len]
  congr 2
  funext i
  exact okI_back l i
theorem sumL_back (l : List Ln) : sumL (backL l) = - sumL l := by
  unfold sumL backL
  induction l with
  | nil => rfl
  | cons x l ih =>
    simp only [List.map_cons, List.sum_cons] at ih ⊢
    rw [ih]
    show -x.n + _ = _
    omega
theorem chk_back {b : Int} {r : ByteArray} {l : List Ln} (h : chk b r l = 0) : chk b r (backL l) = 0 := by
  obtain ⟨h1, h2, h3, h4⟩ := chk_ok.1 h
  exact chk_ok.2 ⟨h1, h2, by rw [mayL_back]; exact h3, by rw [sumL_back, h4]; rfl⟩
theorem onL_back (l : List Ln) (a : Ln) : onL (backL l) a = - onL l a := by
  unfold onL backL
  rw [List.find?_map]
  have : ((fun x => sameA x a) ∘ negX) = fun x => sameA x a := rfl
  rw [this]
  cases l.find? fun x => sameA x a <;> rfl
theorem least_ne {l : List Ln} (h : leastB l = false) {x : Ln} (hx : x ∈ l) : x.n ≠ -9223372036854775808 := fun e => by
  unfold leastB at h
  rw [List.any_eq_false] at h
  exact h x hx (by rw [e]; rfl)
theorem least_back {l : List Ln} (hf : ∀ x ∈ l, fitL x) : leastB (backL l) = false := by
  unfold leastB backL
  rw [List.any_map, List.any_eq_false]
  intro x hx
  have h := (hf x hx).2.2
  unfold Fits at h
  show ¬ ((-x.n == -9223372036854775808) = true)
  rw [beq_iff_eq]
  omega
theorem back_fit {l : List Ln} (hf : ∀ x ∈ l, fitL x) (h : leastB l = false) : ∀ x ∈ backL l, fitL x := fun x hx => by
  unfold backL at hx
  obtain ⟨y, hy, rfl⟩ := List.mem_map.1 hx
  obtain ⟨h1, h2, h3⟩ := hf y hy
  have := least_ne h hy
  refine ⟨h1, h2, ?_⟩
  show Fits (-y.n)
  unfold Fits at *
  omega
theorem on_fit {l : List Ln} (hf : ∀ x ∈ l, fitL x) (h : leastB l = false) (a : Ln) : -9223372036854775808 < onL l a ∧ onL l a ≤ 9223372036854775807 := by
  unfold onL
  cases hm : l.find? fun x => sameA x a with
  | none => simp
  | some x =>
    have hx := List.mem_of_find?_eq_some hm
    have h1 := (hf x hx).2.2
    have h2 := least_ne h hx
    unfold Fits at h1
    show _ < x.n ∧ x.n ≤ _
    omega
theorem least_snoc {l : List Ln} {k : Nat} (h : k < l.length) : leastB (l.take (k + 1)) = (leastB (l.take k) || (l[k].n == -9223372036854775808)) := by
  unfold leastB
  rw [List.take_succ_eq_append_getElem h, List.any_append]
  simp
end Go.Proofs.YtejdhemnlcbffaaDoor.Ent
