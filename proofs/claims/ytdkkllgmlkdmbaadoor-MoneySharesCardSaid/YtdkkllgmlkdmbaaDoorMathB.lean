/- Plain facts on the parts of an amount: what they come to, how far they are from one another. Conditions: none; nothing of the program is named here. -/
import Derived.Test.YtdkkllgmlkdmbaaDoorMath
namespace Go.Proofs.YtdkkllgmlkdmbaaDoor

theorem units_sum (q r : Int) (n : Nat) : (shares q r n).sum = n * q + (if n < r.natAbs then r.sign * n else r) := by
  induction n with
  | zero =>
    rcases sign_cases r with ⟨h, e⟩ | ⟨h, e⟩ | ⟨h, e⟩ <;> simp [shares] <;> omega
  | succ n ih =>
    have e0 : shares q r (n + 1) = shares q r n ++ [shareAt q r n] := by simp [shares, List.range_succ]
    rw [e0, List.sum_append, ih]
    simp only [List.sum_cons, List.sum_nil, shareAt, unitAt]
    have e1 : ((n + 1 : Nat) : Int) * q = n * q + q := by rw [Int.natCast_succ, Int.add_mul]; omega
    rw [e1]
    rcases sign_cases r with ⟨h, e⟩ | ⟨h, e⟩ | ⟨h, e⟩ <;> rw [e] <;> (repeat' split) <;> omega
theorem shares_sum (a : Int) (n : Nat) (h : 1 ≤ n) : (shares (a.tdiv n) (a.tmod n) n).sum = a := by
  rw [units_sum, if_neg (by have := tmod_lt (a := a) h; omega)]
  exact Int.mul_tdiv_add_tmod a n
theorem shares_fit {a : Int} {n : Nat} (ha : Fits a) (h : 1 ≤ n) (m : Nat) : AllFit (shares (a.tdiv n) (a.tmod n) m) := fun x hx => by
  simp only [shares, List.mem_map] at hx
  obtain ⟨i, _, rfl⟩ := hx
  exact fits_share ha h i
theorem shares_get (q r : Int) (n i : Nat) (h : i < (shares q r n).length) : (shares q r n)[i] = shareAt q r i := by simp [shares]
theorem share_up {a : Int} {n : Nat} (h : 0 ≤ a) (i : Nat) : 0 ≤ shareAt (a.tdiv n) (a.tmod n) i ∧ 0 ≤ shareAt (a.tdiv n) (a.tmod n) 0 - shareAt (a.tdiv n) (a.tmod n) i ∧
    shareAt (a.tdiv n) (a.tmod n) 0 - shareAt (a.tdiv n) (a.tmod n) i ≤ 1 ∧ shareAt (a.tdiv n) (a.tmod n) (i + 1) ≤ shareAt (a.tdiv n) (a.tmod n) i := by
  have h1 : 0 ≤ a.tdiv n := Int.tdiv_nonneg h (Int.natCast_nonneg n)
  have h2 : 0 ≤ a.tmod n := Int.tmod_nonneg _ h
  generalize a.tdiv n = q at *
  generalize a.tmod n = r at *
  unfold shareAt unitAt
  rcases sign_cases r with ⟨h, e⟩ | ⟨h, e⟩ | ⟨h, e⟩ <;> rw [e] <;> (repeat' split) <;> omega
theorem share_down {a : Int} {n : Nat} (h : a < 0) (i : Nat) : shareAt (a.tdiv n) (a.tmod n) i ≤ 0 ∧ 0 ≤ shareAt (a.tdiv n) (a.tmod n) i - shareAt (a.tdiv n) (a.tmod n) 0 ∧
    shareAt (a.tdiv n) (a.tmod n) i - shareAt (a.tdiv n) (a.tmod n) 0 ≤ 1 ∧ shareAt (a.tdiv n) (a.tmod n) i ≤ shareAt (a.tdiv n) (a.tmod n) (i + 1) := by
  have h1 : a.tdiv n ≤ 0 := by
    have := Int.tdiv_nonneg (a := -a) (b := n) (by omega) (Int.natCast_nonneg n)
    rw [Int.neg_tdiv] at this; omega
  have h2 : a.tmod n ≤ 0 := by
    have := Int.tmod_nonneg (a := -a) n (by omega)
    rw [Int.neg_tmod] at this; omega
  generalize a.tdiv n = q at *
  generalize a.tmod n = r at *
  unfold shareAt unitAt
  rcases sign_cases r with ⟨h, e⟩ | ⟨h, e⟩ | ⟨h, e⟩ <;> rw [e] <;> (repeat' split) <;> omega
end Go.Proofs.YtdkkllgmlkdmbaaDoor
