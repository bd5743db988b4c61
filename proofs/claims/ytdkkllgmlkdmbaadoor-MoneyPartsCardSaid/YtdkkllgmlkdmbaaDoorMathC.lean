/- Plain facts on parts of parts of an amount. Conditions: none; nothing of the program is named here. -/
import Derived.Test.YtdkkllgmlkdmbaaDoorMathB
namespace Go.Proofs.YtdkkllgmlkdmbaaDoor

/-! ### Parts of parts -/
def part (m : Nat) (x : Int) : List Int := shares (x.tdiv m) (x.tmod m) m
def acc (l : List Int) (m k : Nat) : List Int := (l.take k).flatMap (part m)
theorem acc_zero (l : List Int) (m : Nat) : acc l m 0 = [] := rfl
theorem acc_step (l : List Int) (m k : Nat) (h : k < l.length) : acc l m (k + 1) = acc l m k ++ part m l[k] := by
  unfold acc; rw [List.take_succ_eq_append_getElem h, List.flatMap_append]; simp
theorem part_length (m : Nat) (x : Int) : (part m x).length = m := shares_length _ _ _
theorem acc_length (l : List Int) (m k : Nat) (h : k ≤ l.length) : (acc l m k).length = k * m := by
  induction k with
  | zero => simp [acc_zero]
  | succ k ih => rw [acc_step l m k (by omega), List.length_append, ih (by omega), part_length, Nat.succ_mul]
theorem acc_sum (l : List Int) (m : Nat) (hm : 1 ≤ m) (k : Nat) (h : k ≤ l.length) : (acc l m k).sum = (l.take k).sum := by
  induction k with
  | zero => simp [acc_zero]
  | succ k ih =>
    rw [acc_step l m k (by omega), List.sum_append, ih (by omega), List.take_succ_eq_append_getElem (by omega), List.sum_append]
    have : (part m l[k]).sum = l[k] := shares_sum _ _ hm
    rw [this]; simp
theorem acc_fit {l : List Int} {m : Nat} (hf : AllFit l) (hm : 1 ≤ m) (k : Nat) : AllFit (acc l m k) := fun x hx => by
  unfold acc at hx
  rw [List.mem_flatMap] at hx
  obtain ⟨y, hy, hx⟩ := hx
  exact shares_fit (hf y (List.mem_of_mem_take hy)) hm m x hx
theorem mul_range {x y : Int} (h1 : 1 ≤ x ∧ x ≤ 40) (h2 : 1 ≤ y ∧ y ≤ 9) : 0 ≤ x * y ∧ x * y ≤ 360 := by
  constructor
  · exact Int.mul_nonneg (by omega) (by omega)
  · have h3 : x * y ≤ 40 * y := Int.mul_le_mul_of_nonneg_right h1.2 (by omega)
    omega
end Go.Proofs.YtdkkllgmlkdmbaaDoor
