/- Plain facts: what is done to holds. Conditions: none. -/
import Derived.Test.YtkhkncgndllkjaaDoorK10
namespace Go.Proofs.YtkhkncgndllkjaaDoor.Hol
open Go.RowKit Cht
open Mny (Fits vOf eOf vOf_t vOf_f eOf_t eOf_f)

theorem noH_fit : FitH noH := ⟨Nat.zero_le _, Nat.zero_le _, Nat.zero_le _, by decide, by decide, by decide⟩
theorem may_of {x : Hd} (h1 : refB x.r = true) (h2 : mayA 2 x.a = true) (h3 : mayA 1 x.p = true) (h4 : 0 ≤ x.un ∧ x.un ≤ 2147483647) (h5 : 0 ≤ x.ca ∧ x.ca ≤ x.ap) (h6 : x.op = true → x.ca < x.ap) : mayH x = true := by
  rw [mayH_6 h1 h2 h3 h4 h5]
  cases ho : x.op with
  | false => rfl
  | true => rw [decide_eq_true (h6 ho)]; rfl
/-- What came of it, and what it was. -/
theorem chg_ok {x : Hd} {d : Hd × Int} (h : (chgH x d).2 = 0) : mayH x = true ∧ x.op = true ∧ d.2 = 0 ∧ (chgH x d).1 = ⟨d.1.r, d.1.a, d.1.p, d.1.ap, d.1.ca, d.1.un, d.1.op && decide (d.1.ca < d.1.ap)⟩ := by
  cases hm : mayH x with
  | false => rw [chg_1 hm] at h; cases h
  | true =>
    cases ho : x.op with
    | false => rw [chg_2 hm ho] at h; cases h
    | true =>
      by_cases he : d.2 = 0
      · exact ⟨rfl, rfl, he, by rw [chg_4 hm ho he]⟩
      · rw [chg_3 hm ho he] at h; exact absurd h he
theorem chg_bad {x : Hd} {d : Hd × Int} (h : (chgH x d).2 ≠ 0) : (chgH x d).1 = noH := by
  cases hm : mayH x with
  | false => rw [chg_1 hm]
  | true =>
    cases ho : x.op with
    | false => rw [chg_2 hm ho]
    | true =>
      by_cases he : d.2 = 0
      · rw [chg_4 hm ho he] at h; exact absurd rfl h
      · rw [chg_3 hm ho he]
theorem chg_shut {x : Hd} {d : Hd × Int} (hm : mayH x = true) (ho : x.op = false) : (chgH x d).2 = 14 := by rw [chg_2 hm ho]
theorem take_ok {x : Hd} {n : Int} {l : Bool} (h : (takeH x n l).2 = 0) : mayH x = true ∧ x.op = true ∧ 1 ≤ n ∧ n ≤ x.ap - x.ca ∧ (takeH x n l).1 = ⟨x.r, x.a, x.p, x.ap, x.ca + n, x.un, !l && decide (x.ca + n < x.ap)⟩ := by
  obtain ⟨hm, ho, hd, hr⟩ := chg_ok h
  unfold takeH
  unfold byH at hd hr ⊢
  by_cases h1 : n < 1
  · rw [if_pos h1] at hd; cases hd
  rw [if_neg h1] at hd hr ⊢
  unfold take1 at hd hr ⊢
  rw [left_3 hm ho] at hd hr ⊢
  by_cases h2 : x.ap - x.ca < n
  · rw [if_pos h2] at hd; cases hd
  rw [if_neg h2] at hr ⊢
  exact ⟨hm, ho, by omega, by omega, hr⟩
theorem take_is {x : Hd} {n : Int} {l : Bool} (hm : mayH x = true) (ho : x.op = true) (h1 : 1 ≤ n) (h2 : n ≤ x.ap - x.ca) : takeH x n l = (⟨x.r, x.a, x.p, x.ap, x.ca + n, x.un, !l && decide (x.ca + n < x.ap)⟩, 0) := by
  unfold takeH byH take1
  rw [left_3 hm ho, if_neg (by omega), if_neg (by omega), chg_4 hm ho rfl]
theorem less_ok {x : Hd} {n : Int} (h : (lessH x n).2 = 0) : mayH x = true ∧ x.op = true ∧ 1 ≤ n ∧ n ≤ x.ap - x.ca ∧ (lessH x n).1 = ⟨x.r, x.a, x.p, x.ap - n, x.ca, x.un, decide (x.ca < x.ap - n)⟩ := by
  obtain ⟨hm, ho, hd, hr⟩ := chg_ok h
  unfold lessH
  unfold byH at hd hr ⊢
  by_cases h1 : n < 1
  · rw [if_pos h1] at hd; cases hd
  rw [if_neg h1] at hd hr ⊢
  unfold less1 at hd hr ⊢
  rw [left_3 hm ho] at hd hr ⊢
  by_cases h2 : x.ap - x.ca < n
  · rw [if_pos h2] at hd; cases hd
  rw [if_neg h2] at hr ⊢
  refine ⟨hm, ho, by omega, by omega, ?_⟩
  rw [hr]
  simp [ho]
theorem less_is {x : Hd} {n : Int} (hm : mayH x = true) (ho : x.op = true) (h1 : 1 ≤ n) (h2 : n ≤ x.ap - x.ca) : lessH x n = (⟨x.r, x.a, x.p, x.ap - n, x.ca, x.un, decide (x.ca < x.ap - n)⟩, 0) := by
  unfold lessH byH less1
  rw [left_3 hm ho, if_neg (by omega), if_neg (by omega), chg_4 hm ho rfl]
  simp [ho]
theorem more_ok {x : Hd} {n u : Int} (h : (moreH x n u).2 = 0) : mayH x = true ∧ x.op = true ∧ 1 ≤ n ∧ (0 ≤ u ∧ u ≤ 2147483647) ∧ Fits (x.ap + n) ∧ (moreH x n u).1 = ⟨x.r, x.a, x.p, x.ap + n, x.ca, u, true⟩ := by
  obtain ⟨hm, ho, hd, hr⟩ := chg_ok h
  unfold moreH
  unfold byH at hd hr ⊢
  by_cases h1 : n < 1
  · rw [if_pos h1] at hd; cases hd
  rw [if_neg h1] at hd hr ⊢
  unfold more1 at hd hr ⊢
  by_cases h2 : 0 ≤ u ∧ u ≤ 2147483647
  · rw [if_pos h2] at hd hr ⊢
    by_cases h3 : Fits (x.ap + n)
    · rw [vOf_t h3, eOf_t h3] at hr ⊢
      refine ⟨hm, ho, by omega, h2, h3, ?_⟩
      rw [hr]
      have hk := (mayH_t hm).2.2.2.2.1
      simp [ho]
      omega
    · dsimp only at hd; rw [eOf_f h3] at hd; cases hd
  · rw [if_neg h2] at hd; cases hd
theorem more_is {x : Hd} {n u : Int} (hm : mayH x = true) (ho : x.op = true) (h1 : 1 ≤ n) (h2 : 0 ≤ u ∧ u ≤ 2147483647) (h3 : Fits (x.ap + n)) : moreH x n u = (⟨x.r, x.a, x.p, x.ap + n, x.ca, u, true⟩, 0) := by
  have hk := (mayH_t hm).2.2.2.2.1
  unfold moreH byH more1
  rw [if_neg (by omega), if_pos h2, vOf_t h3, eOf_t h3, chg_4 hm ho rfl]
  simp [ho]
  omega
theorem undo_ok {x : Hd} (h : (undoH x).2 = 0) : mayH x = true ∧ x.op = true ∧ (undoH x).1 = ⟨x.r, x.a, x.p, x.ca, x.ca, x.un, false⟩ := by
  obtain ⟨hm, ho, hd, hr⟩ := chg_ok h
  refine ⟨hm, ho, ?_⟩
  unfold undoH
  rw [hr]
  simp [undo1]
theorem take_fit {x : Hd} {n : Int} {l : Bool} (hf : FitH x) : FitH (takeH x n l).1 := by
  by_cases h : (takeH x n l).2 = 0
  · obtain ⟨hm, ho, h1, h2, hr⟩ := take_ok h
    rw [hr]
    have hk := (mayH_t hm).2.2.2.2.1
    have := hf.ap
    refine ⟨hf.r, hf.a, hf.p, hf.ap, ⟨?_, ?_⟩, hf.un⟩ <;> (dsimp only; omega)
  · have := chg_bad h; unfold takeH; rw [this]; exact noH_fit
theorem less_fit {x : Hd} {n : Int} (hf : FitH x) : FitH (lessH x n).1 := by
  by_cases h : (lessH x n).2 = 0
  · obtain ⟨hm, ho, h1, h2, hr⟩ := less_ok h
    rw [hr]
    have hk := (mayH_t hm).2.2.2.2.1
    have := hf.ap
    refine ⟨hf.r, hf.a, hf.p, ⟨?_, ?_⟩, hf.ca, hf.un⟩ <;> (dsimp only; omega)
  · have := chg_bad h; unfold lessH; rw [this]; exact noH_fit
theorem more_fit {x : Hd} {n u : Int} (hf : FitH x) : FitH (moreH x n u).1 := by
  by_cases h : (moreH x n u).2 = 0
  · obtain ⟨hm, ho, h1, h2, h3, hr⟩ := more_ok h
    rw [hr]
    exact ⟨hf.r, hf.a, hf.p, h3, hf.ca, by dsimp only; omega⟩
  · have := chg_bad h; unfold moreH; rw [this]; exact noH_fit
theorem undo_fit {x : Hd} (hf : FitH x) : FitH (undoH x).1 := by
  by_cases h : (undoH x).2 = 0
  · obtain ⟨hm, ho, hr⟩ := undo_ok h
    rw [hr]
    exact ⟨hf.r, hf.a, hf.p, hf.ca, hf.ca, hf.un⟩
  · have := chg_bad h; unfold undoH; rw [this]; exact noH_fit
theorem few_fit {x : Hd} (h4 : -9223372036854775808 ≤ x.ap ∧ x.ap ≤ 9223372036854775807) (h5 : -9223372036854775808 ≤ x.ca ∧ x.ca ≤ 9223372036854775807) (h6 : -9223372036854775808 ≤ x.un ∧ x.un ≤ 9223372036854775807) : FitH (fewH x) :=
  ⟨Nat.le_trans (cutS_size 30 x.r) (by decide), Nat.le_trans (cutS_size 30 x.a) (by decide), Nat.le_trans (cutS_size 30 x.p) (by decide), h4, h5, h6⟩
/-- Taken in two goes as in one. -/
theorem two_takes {x : Hd} {n m : Int} (h1 : (takeH x n false).2 = 0) (h2 : (takeH (takeH x n false).1 m false).2 = 0) : takeH x (n + m) false = ((takeH (takeH x n false).1 m false).1, 0) := by
  obtain ⟨hm, ho, k1, k2, hr⟩ := take_ok h1
  obtain ⟨hm2, ho2, k3, k4, hr2⟩ := take_ok h2
  rw [hr2, hr]
  rw [hr] at k4
  dsimp only at k4
  rw [take_is hm ho (by omega) (by omega), Int.add_assoc]
theorem two_mores {x : Hd} {n m u v : Int} (h1 : (moreH x n u).2 = 0) (h2 : (moreH (moreH x n u).1 m v).2 = 0) : moreH x (n + m) v = ((moreH (moreH x n u).1 m v).1, 0) := by
  obtain ⟨hm, ho, k1, k2, k3, hr⟩ := more_ok h1
  obtain ⟨hm2, ho2, k4, k5, k6, hr2⟩ := more_ok h2
  rw [hr2, hr]
  rw [hr] at k6
  dsimp only at k6 ⊢
  rw [Int.add_assoc] at k6
  rw [more_is hm ho (by omega) k5 k6, Int.add_assoc]
theorem more_less {x : Hd} {n : Int} (h : (moreH x n x.un).2 = 0) : lessH (moreH x n x.un).1 n = (x, 0) := by
  obtain ⟨hm, ho, k1, k2, k3, hr⟩ := more_ok h
  obtain ⟨m1, m2, m3, m4, m5, m6⟩ := mayH_t hm
  have m7 := m6 ho
  rw [hr]
  rw [less_is (x := ⟨x.r, x.a, x.p, x.ap + n, x.ca, x.un, true⟩) (may_of m1 m2 m3 m4 (by dsimp only; omega) (fun _ => by dsimp only; omega)) rfl k1 (by dsimp only; omega)]
  dsimp only
  have e1 : x.ap + n - n = x.ap := by omega
  rw [e1, decide_eq_true m7]
  exact Prod.ext (hd_eta ho) rfl
end Go.Proofs.YtkhkncgndllkjaaDoor.Hol
