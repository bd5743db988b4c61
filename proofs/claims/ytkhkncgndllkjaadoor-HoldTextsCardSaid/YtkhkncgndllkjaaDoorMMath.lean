/- Plain facts on whole numbers and lists for the laws of package money: what an amount is, how a sum goes around, how an amount is shared. Conditions: none; nothing of the program is named here. -/
import Derived.IntWalk
import Derived.RowKit
import Derived.Laws.Bits64
namespace Go.Proofs.YtkhkncgndllkjaaDoor.Mny
open Go.RowKit

/-- An amount: from the least to the greatest number of 64 bits. -/
def Fits (n : Int) : Prop := -9223372036854775808 ≤ n ∧ n ≤ 9223372036854775807
instance (n : Int) : Decidable (Fits n) := inferInstanceAs (Decidable (_ ∧ _))
def okB (n : Int) : Bool := decide (Fits n)
/-- What is answered of a number that is asked for: itself, or 0 if it is no amount; and the error's number. -/
def vOf (n : Int) : Int := if Fits n then n else 0
def eOf (n : Int) : Int := if Fits n then 0 else 2

theorem fits_of_wf {n : Int} (h : (Lit.int .i64 n).wf = true) : Fits n := by
  simpa [Lit.wf, IntKind.min, IntKind.max, IntKind.signed, IntKind.bits, Fits] using h
theorem wf_of_fits {n : Int} (h : Fits n) : (Lit.int .i64 n).wf = true := by
  simpa [Lit.wf, IntKind.min, IntKind.max, IntKind.signed, IntKind.bits, Fits] using h
theorem okB_t {n : Int} (h : Fits n) : okB n = true := decide_eq_true h
theorem okB_f {n : Int} (h : ¬ Fits n) : okB n = false := decide_eq_false h
theorem vOf_t {n : Int} (h : Fits n) : vOf n = n := if_pos h
theorem vOf_f {n : Int} (h : ¬ Fits n) : vOf n = 0 := if_neg h
theorem eOf_t {n : Int} (h : Fits n) : eOf n = 0 := if_pos h
theorem eOf_f {n : Int} (h : ¬ Fits n) : eOf n = 2 := if_neg h
theorem wrap_t {n : Int} (h : Fits n) : wrap64 n = n := by unfold wrap64; unfold Fits at h; omega
theorem fits_vOf (n : Int) : Fits (vOf n) := by unfold vOf; split <;> simp_all [Fits]
theorem fits_wrap (n : Int) : Fits (wrap64 n) := by unfold wrap64 Fits; omega

/-! ### Sum and difference of two -/
theorem add_over {a b : Int} (ha : Fits a) (hb : Fits b) (h : (!decide (a ≤ wrap64 (a + b)) == decide (0 ≤ b)) = true) : ¬ Fits (a + b) := by
  unfold wrap64 at h
  unfold Fits at *
  by_cases h1 : a ≤ (a + b + 9223372036854775808) % 18446744073709551616 - 9223372036854775808 <;> by_cases h2 : 0 ≤ b <;> simp [h1, h2] at h <;> omega
theorem add_fine {a b : Int} (ha : Fits a) (hb : Fits b) (h : (!decide (a ≤ wrap64 (a + b)) == decide (0 ≤ b)) = false) : Fits (a + b) := by
  unfold wrap64 at h
  unfold Fits at *
  by_cases h1 : a ≤ (a + b + 9223372036854775808) % 18446744073709551616 - 9223372036854775808 <;> by_cases h2 : 0 ≤ b <;> simp [h1, h2] at h <;> omega
theorem sub_over {a b : Int} (ha : Fits a) (hb : Fits b) (h : (!decide (wrap64 (a - b) ≤ a) == decide (0 ≤ b)) = true) : ¬ Fits (a - b) := by
  unfold wrap64 at h
  unfold Fits at *
  by_cases h1 : (a - b + 9223372036854775808) % 18446744073709551616 - 9223372036854775808 ≤ a <;> by_cases h2 : 0 ≤ b <;> simp [h1, h2] at h <;> omega
theorem sub_fine {a b : Int} (ha : Fits a) (hb : Fits b) (h : (!decide (wrap64 (a - b) ≤ a) == decide (0 ≤ b)) = false) : Fits (a - b) := by
  unfold wrap64 at h
  unfold Fits at *
  by_cases h1 : (a - b + 9223372036854775808) % 18446744073709551616 - 9223372036854775808 ≤ a <;> by_cases h2 : 0 ≤ b <;> simp [h1, h2] at h <;> omega

/-! ### A product by sizes and signs -/
/-- A number of a size, below 0 or not. -/
def sg (below : Bool) (u : Nat) : Int := if below then -(u : Int) else u
theorem size_neg {a : Int} (ha : Fits a) (h : a < 0) : IntKind.u64.wrap (-IntKind.u64.wrap a) = (a.natAbs : Int) := by
  rw [IntKind.wrap_u64, IntKind.wrap_u64]; unfold Fits at ha; omega
theorem size_pos {a : Int} (ha : Fits a) (h : 0 ≤ a) : IntKind.u64.wrap a = (a.natAbs : Int) := by
  rw [IntKind.wrap_u64]; unfold Fits at ha; omega
theorem natAbs_le {a : Int} (ha : Fits a) : a.natAbs ≤ 9223372036854775808 := by unfold Fits at ha; omega
theorem sg_mul (a n : Int) : sg (!decide (a < 0) == decide (n < 0)) (a.natAbs * n.natAbs) = a * n := by
  unfold sg
  rcases Int.lt_or_le a 0 with ha | ha <;> rcases Int.lt_or_le n 0 with hn | hn
  · obtain ⟨p, rfl⟩ : ∃ p : Nat, a = -(p : Int) := ⟨a.natAbs, by omega⟩
    obtain ⟨q, rfl⟩ : ∃ q : Nat, n = -(q : Int) := ⟨n.natAbs, by omega⟩
    simp only [ha, hn, Int.natAbs_neg, Int.natAbs_natCast, Int.neg_mul_neg, Int.natCast_mul]; simp
  · obtain ⟨p, rfl⟩ : ∃ p : Nat, a = -(p : Int) := ⟨a.natAbs, by omega⟩
    obtain ⟨q, rfl⟩ : ∃ q : Nat, n = (q : Int) := ⟨n.natAbs, by omega⟩
    have h2 : ¬ (q : Int) < 0 := by omega
    simp only [ha, h2, Int.natAbs_neg, Int.natAbs_natCast, Int.neg_mul, Int.natCast_mul]; simp
  · obtain ⟨p, rfl⟩ : ∃ p : Nat, a = (p : Int) := ⟨a.natAbs, by omega⟩
    obtain ⟨q, rfl⟩ : ∃ q : Nat, n = -(q : Int) := ⟨n.natAbs, by omega⟩
    have h2 : ¬ (p : Int) < 0 := by omega
    simp only [hn, h2, Int.natAbs_neg, Int.natAbs_natCast, Int.mul_neg, Int.natCast_mul]; simp
  · obtain ⟨p, rfl⟩ : ∃ p : Nat, a = (p : Int) := ⟨a.natAbs, by omega⟩
    obtain ⟨q, rfl⟩ : ∃ q : Nat, n = (q : Int) := ⟨n.natAbs, by omega⟩
    have h2 : ¬ (q : Int) < 0 := by omega
    have h3 : ¬ (p : Int) < 0 := by omega
    simp only [h2, h3, Int.natAbs_natCast, Int.natCast_mul]; simp
theorem not_fits_mul {a n : Int} (h : 18446744073709551616 ≤ a.natAbs * n.natAbs) : ¬ Fits (a * n) := by
  intro f
  have e := Int.natAbs_mul a n
  have := natAbs_le f
  omega
theorem neg_wrap {u : Nat} (h : u ≤ 9223372036854775808) : wrap64 (IntKind.u64.wrap (-(u : Int))) = -(u : Int) := by
  rw [IntKind.wrap_u64]; unfold wrap64; omega

theorem quo_fits {a n : Int} (ha : Fits a) (h0 : a ≠ 0) : ((wrap64 (a * n)).tdiv a = n) ↔ Fits (a * n) := by
  constructor
  · intro h
    have e := Int.mul_tdiv_add_tmod (wrap64 (a * n)) a
    rw [h] at e
    have hm := Int.natAbs_tmod (wrap64 (a * n)) a
    have hlt : (wrap64 (a * n)).natAbs % a.natAbs < a.natAbs := Nat.mod_lt _ (by omega)
    have hw := fits_wrap (a * n)
    have hd : ∃ k : Int, a * n = wrap64 (a * n) + k * 18446744073709551616 := ⟨(a * n + 9223372036854775808) / 18446744073709551616, by unfold wrap64; omega⟩
    obtain ⟨k, hk⟩ := hd
    have hal := natAbs_le ha
    generalize a * n = x at *
    generalize wrap64 x = y at *
    have hk0 : k = 0 := by omega
    rw [hk0] at hk
    simp at hk
    rw [hk]; exact hw
  · intro f
    rw [wrap_t f]
    exact Int.mul_tdiv_cancel_left n h0
theorem okB_quo {a n : Int} (ha : Fits a) (h0 : a ≠ 0) : ((wrap64 (a * n)).tdiv a == n) = okB (a * n) := by
  by_cases f : Fits (a * n)
  · rw [okB_t f]; simpa using (quo_fits ha h0).2 f
  · rw [okB_f f]; simpa using fun h => f ((quo_fits ha h0).1 h)

theorem fits_tdiv {p a : Int} (hp : Fits p) (h0 : a ≠ 0) (h1 : a ≠ -1) : Fits (p.tdiv a) := by
  by_cases e : a = 1
  · subst e; simpa using hp
  · have h := Int.natAbs_tdiv p a
    have h2 : 2 ≤ a.natAbs := by omega
    have h3 : p.natAbs / a.natAbs ≤ p.natAbs / 2 := Nat.div_le_div_left h2 (by omega)
    have h4 := natAbs_le hp
    have h5 : (p.tdiv a).natAbs = p.natAbs / a.natAbs := by first | exact h | simpa using h
    unfold Fits
    omega
theorem okB_mul {a n : Int} (ha : Fits a) (h0 : a ≠ 0) (h1 : a ≠ -1) : (wrap64 ((wrap64 (a * n)).tdiv a) == n) = okB (a * n) := by
  rw [wrap_t (fits_tdiv (fits_wrap _) h0 h1)]
  exact okB_quo ha h0
theorem okB_neg1 {n : Int} (hn : Fits n) : (n != -9223372036854775808) = okB (-1 * n) := by
  by_cases f : n = -9223372036854775808
  · subst f; rfl
  · rw [okB_t (by unfold Fits at *; omega)]; simpa using f
theorem okB_zero : okB 0 = true := rfl
theorem wrap_zero : wrap64 0 = 0 := wrap_t (by unfold Fits; omega)

/-! ### A sum that goes around, and how often it went -/
def rem (n : Int) : Int := (n + 9223372036854775808) % 18446744073709551616 - 9223372036854775808
def lap (n : Int) : Int := (n + 9223372036854775808) / 18446744073709551616
theorem rem_zero : rem 0 = 0 := by decide
theorem lap_zero : lap 0 = 0 := by decide
theorem fits_rem (n : Int) : Fits (rem n) := by unfold rem Fits; omega
theorem rem_step (s a : Int) : wrap64 (rem s + a) = rem (s + a) := by unfold wrap64 rem; omega
theorem lap_up {s a : Int} (ha : Fits a) (h1 : 0 < a) (h2 : wrap64 (rem s + a) < rem s) : lap s + 1 = lap (s + a) := by
  unfold wrap64 rem at h2; unfold lap Fits at *; omega
theorem lap_down {s a : Int} (ha : Fits a) (h1 : a < 0) (h2 : rem s < wrap64 (rem s + a)) : lap s - 1 = lap (s + a) := by
  unfold wrap64 rem at h2; unfold lap Fits at *; omega
theorem lap_same {s a : Int} (ha : Fits a) (h1 : 0 < a → ¬ wrap64 (rem s + a) < rem s) (h2 : a < 0 → ¬ rem s < wrap64 (rem s + a)) : lap s = lap (s + a) := by
  unfold wrap64 rem at h1 h2; unfold lap Fits at *; omega
theorem lap_fits (n : Int) : lap n = 0 ↔ Fits n := by unfold lap Fits; omega
theorem rem_fits {n : Int} (h : Fits n) : rem n = n := by unfold rem; unfold Fits at h; omega
/-- What the first k of a list come to. -/
def tot (l : List Int) (k : Nat) : Int := (l.take k).sum
theorem tot_zero (l : List Int) : tot l 0 = 0 := rfl
theorem tot_all (l : List Int) : tot l l.length = l.sum := by unfold tot; rw [List.take_length]
theorem tot_step (l : List Int) (k : Nat) (h : k < l.length) : tot l (k + 1) = tot l k + l[k] := by
  unfold tot; rw [List.take_succ_eq_append_getElem h, List.sum_append]; simp
def AllFit (l : List Int) : Prop := ∀ x ∈ l, Fits x
theorem tot_bound {l : List Int} (h : AllFit l) (k : Nat) (hk : k ≤ l.length) : -(k : Int) * 9223372036854775808 ≤ tot l k ∧ tot l k ≤ (k : Int) * 9223372036854775808 := by
  induction k with
  | zero => simp [tot_zero]
  | succ k ih =>
    have := ih (by omega)
    have f : Fits l[k] := h _ (List.getElem_mem _)
    rw [tot_step l k (by omega)]
    unfold Fits at f
    omega
theorem lap_bound {l : List Int} (h : AllFit l) (k : Nat) (hk : k ≤ l.length) : -(k : Int) ≤ lap (tot l k) ∧ lap (tot l k) ≤ k := by
  have := tot_bound h k hk
  unfold lap; omega

/-! ### An amount in parts -/
def unitAt (r : Int) (i : Nat) : Int := if i < r.natAbs then r.sign else 0
def restAt (r : Int) (i : Nat) : Int := r.sign * ((r.natAbs - i : Nat) : Int)
def shareAt (q r : Int) (i : Nat) : Int := q + unitAt r i
def shares (q r : Int) (n : Nat) : List Int := (List.range n).map (shareAt q r)
theorem sign_cases (r : Int) : (r < 0 ∧ r.sign = -1) ∨ (r = 0 ∧ r.sign = 0) ∨ (0 < r ∧ r.sign = 1) := by
  rcases Int.lt_trichotomy r 0 with h | h | h
  · exact .inl ⟨h, Int.sign_eq_neg_one_of_neg h⟩
  · exact .inr (.inl ⟨h, by rw [h]; rfl⟩)
  · exact .inr (.inr ⟨h, Int.sign_eq_one_of_pos h⟩)
theorem restAt_zero (r : Int) : restAt r 0 = r := by
  unfold restAt; rcases sign_cases r with ⟨h, e⟩ | ⟨h, e⟩ | ⟨h, e⟩ <;> rw [e] <;> simp <;> omega
theorem restAt_form (r : Int) (i : Nat) : restAt r i = if i < r.natAbs then r - r.sign * i else 0 := by
  unfold restAt
  rcases sign_cases r with ⟨h, e⟩ | ⟨h, e⟩ | ⟨h, e⟩ <;> rw [e] <;> split <;> omega
theorem restAt_sign (r : Int) (i : Nat) : (restAt r i).sign = unitAt r i := by
  rw [restAt_form]; unfold unitAt
  by_cases h : i < r.natAbs
  · rw [if_pos h, if_pos h]
    rcases sign_cases r with ⟨h1, e⟩ | ⟨h1, e⟩ | ⟨h1, e⟩ <;> rw [e]
    · exact Int.sign_eq_neg_one_of_neg (by omega)
    · omega
    · exact Int.sign_eq_one_of_pos (by omega)
  · rw [if_neg h, if_neg h]; rfl
theorem restAt_step (r : Int) (i : Nat) : restAt r i - unitAt r i = restAt r (i + 1) := by
  rw [restAt_form, restAt_form]; unfold unitAt
  rcases sign_cases r with ⟨h1, e⟩ | ⟨h1, e⟩ | ⟨h1, e⟩ <;> rw [e] <;> (repeat' split) <;> omega
theorem restAt_le (r : Int) (i : Nat) : -(r.natAbs : Int) ≤ restAt r i ∧ restAt r i ≤ r.natAbs := by
  rw [restAt_form]
  rcases sign_cases r with ⟨h1, e⟩ | ⟨h1, e⟩ | ⟨h1, e⟩ <;> rw [e] <;> split <;> omega
theorem unitAt_le (r : Int) (i : Nat) : -1 ≤ unitAt r i ∧ unitAt r i ≤ 1 := by
  unfold unitAt
  rcases sign_cases r with ⟨h1, e⟩ | ⟨h1, e⟩ | ⟨h1, e⟩ <;> rw [e] <;> split <;> omega
theorem tmod_lt {a : Int} {n : Nat} (h : 1 ≤ n) : (a.tmod n).natAbs < n := by
  have h1 := Int.natAbs_tmod a n
  have h2 : a.natAbs % (n : Int).natAbs < (n : Int).natAbs := Nat.mod_lt _ (by omega)
  omega
theorem fits_share {a : Int} {n : Nat} (ha : Fits a) (h : 1 ≤ n) (i : Nat) : Fits (shareAt (a.tdiv n) (a.tmod n) i) := by
  unfold shareAt
  by_cases e : n = 1
  · subst e
    have hz : a.tmod (1 : Nat) = 0 := by simp
    have hu : unitAt (a.tmod (1 : Nat)) i = 0 := by rw [hz]; rfl
    rw [hu]
    simpa using ha
  · have h1 := unitAt_le (a.tmod n) i
    have h2 := Int.natAbs_tdiv a n
    have h3 : a.natAbs / (n : Int).natAbs ≤ a.natAbs / 2 := Nat.div_le_div_left (by omega) (by omega)
    have h4 := natAbs_le ha
    have h5 : (a.tdiv n).natAbs = a.natAbs / (n : Int).natAbs := by first | exact h2 | simpa using h2
    unfold Fits
    omega
theorem shares_length (q r : Int) (n : Nat) : (shares q r n).length = n := by simp [shares]
/-- The cells of a row behind k rounds: the first k shares, then noughts. -/
def mixed (q r : Int) (n k : Nat) : List Value := (List.range n).map fun i => .int .i64 (if i < k then shareAt q r i else 0)
theorem mixed_zero (q r : Int) (n : Nat) : mixed q r n 0 = List.replicate n (.int .i64 0) := by
  apply List.ext_getElem <;> simp [mixed]
theorem mixed_all (q r : Int) (n : Nat) : mixed q r n n = (shares q r n).map (Value.int .i64) := by
  apply List.ext_getElem
  · simp [mixed, shares]
  · intro i h1 h2
    simp [mixed] at h1
    simp [mixed, shares, h1]
theorem mixed_step (q r : Int) (n k : Nat) (u : Int) (hu : u = shareAt q r k) : (mixed q r n k).set k (.int .i64 u) = mixed q r n (k + 1) := by
  subst hu
  apply List.ext_getElem
  · simp [mixed]
  · intro i h1 h2
    simp only [mixed, List.getElem_set, List.getElem_map, List.getElem_range]
    by_cases e : k = i
    · subst e; simp
    · by_cases e2 : i < k
      · rw [if_neg e, if_pos e2, if_pos (by omega)]
      · rw [if_neg e, if_neg e2, if_neg (by omega)]

/-! ### The document's sum: those from 0 on, and those below -/
def ups (l : List Int) (k : Nat) : List Int := (l.take k).filter fun x => decide (0 ≤ x)
def dns (l : List Int) (k : Nat) : List Int := (l.take k).filter fun x => decide (x < 0)
theorem ups_yes (l : List Int) (k : Nat) (h : k < l.length) (h0 : 0 ≤ l[k]) : ups l (k + 1) = ups l k ++ [l[k]] ∧ dns l (k + 1) = dns l k := by
  have h1 : ¬ l[k] < 0 := by omega
  unfold ups dns; rw [List.take_succ_eq_append_getElem h, List.filter_append, List.filter_append, List.filter_cons, List.filter_cons, if_pos (by simpa using h0), if_neg (by simpa using h1)]; simp only [List.filter_nil, List.append_nil, and_self]
theorem dns_yes (l : List Int) (k : Nat) (h : k < l.length) (h0 : l[k] < 0) : dns l (k + 1) = dns l k ++ [l[k]] ∧ ups l (k + 1) = ups l k := by
  have h1 : ¬ 0 ≤ l[k] := by omega
  unfold ups dns; rw [List.take_succ_eq_append_getElem h, List.filter_append, List.filter_append, List.filter_cons, List.filter_cons, if_pos (by simpa using h0), if_neg (by simpa using h1)]; simp only [List.filter_nil, List.append_nil, and_self]
theorem ups_length (l : List Int) (k : Nat) : (ups l k).length ≤ k := Nat.le_trans (List.length_filter_le _ _) (List.length_take_le _ _)
theorem dns_length (l : List Int) (k : Nat) : (dns l k).length ≤ k := Nat.le_trans (List.length_filter_le _ _) (List.length_take_le _ _)
theorem updn_sum (l : List Int) : (ups l l.length).sum + (dns l l.length).sum = l.sum := by
  unfold ups dns
  rw [List.take_length]
  induction l with
  | nil => rfl
  | cons x r ih =>
    rcases Int.lt_or_le x 0 with h | h
    · have h' : ¬ 0 ≤ x := by omega
      simp only [List.filter_cons, h, h', decide_true, decide_false, if_true, List.sum_cons]; simp; omega
    · have h' : ¬ x < 0 := by omega
      simp only [List.filter_cons, h, h', decide_true, decide_false, if_true, List.sum_cons]; simp; omega
theorem ups_mem {l : List Int} {k : Nat} (hf : AllFit l) : ∀ x ∈ ups l k, Fits x ∧ 0 ≤ x := fun x hx => by
  unfold ups at hx; rw [List.mem_filter] at hx
  exact ⟨hf x (List.mem_of_mem_take hx.1), by simpa using hx.2⟩
theorem dns_mem {l : List Int} {k : Nat} (hf : AllFit l) : ∀ x ∈ dns l k, Fits x ∧ x < 0 := fun x hx => by
  unfold dns at hx; rw [List.mem_filter] at hx
  exact ⟨hf x (List.mem_of_mem_take hx.1), by simpa using hx.2⟩
theorem sum_nonneg {l : List Int} (h : ∀ x ∈ l, 0 ≤ x) : 0 ≤ l.sum := by
  induction l with
  | nil => simp
  | cons x r ih => have := h x (by simp); have := ih fun y hy => h y (by simp [hy]); rw [List.sum_cons]; omega
theorem sum_neg {l : List Int} (h : ∀ x ∈ l, x < 0) : l.sum ≤ 0 := by
  induction l with
  | nil => simp
  | cons x r ih => have := h x (by simp); have := ih fun y hy => h y (by simp [hy]); rw [List.sum_cons]; omega
theorem tot_le {l : List Int} (h : ∀ x ∈ l, 0 ≤ x) (k : Nat) : tot l k ≤ l.sum := by
  have e : l.sum = (l.take k).sum + (l.drop k).sum := by rw [← List.sum_append, List.take_append_drop]
  have := sum_nonneg (l := l.drop k) fun x hx => h x (List.mem_of_mem_drop hx)
  unfold tot; omega
theorem tot_ge {l : List Int} (h : ∀ x ∈ l, x < 0) (k : Nat) : l.sum ≤ tot l k := by
  have e : l.sum = (l.take k).sum + (l.drop k).sum := by rw [← List.sum_append, List.take_append_drop]
  have := sum_neg (l := l.drop k) fun x hx => h x (List.mem_of_mem_drop hx)
  unfold tot; omega
theorem fail_up {U D : List Int} (hU : ∀ x ∈ U, Fits x ∧ 0 ≤ x) {i k : Nat} (hi : i < U.length) (hk : k ≤ D.length)
    (hc : k < D.length → tot U i + tot D k < 0) (h : 9223372036854775807 - U[i] < tot U i + tot D k) : ¬ Fits (U.sum + D.sum) := by
  have hx := hU U[i] (List.getElem_mem _)
  have h1 := tot_le (fun x hx => (hU x hx).2) (i + 1)
  rw [tot_step U i hi] at h1
  have hke : k = D.length := by
    rcases Nat.lt_or_ge k D.length with h2 | h2
    · have := hc h2; unfold Fits at hx; omega
    · omega
  subst hke
  rw [tot_all] at h
  unfold Fits; omega
theorem fail_down {U D : List Int} (hD : ∀ x ∈ D, Fits x ∧ x < 0) {i k : Nat} (hi : i ≤ U.length) (hk : k < D.length)
    (hc : i < U.length → 0 ≤ tot U i + tot D k) (h : tot U i + tot D k < -9223372036854775808 - D[k]) : ¬ Fits (U.sum + D.sum) := by
  have hx := hD D[k] (List.getElem_mem _)
  have h1 := tot_ge (fun x hx => (hD x hx).2) (k + 1)
  rw [tot_step D k hk] at h1
  have hie : i = U.length := by
    rcases Nat.lt_or_ge i U.length with h2 | h2
    · have := hc h2; unfold Fits at hx; omega
    · omega
  subst hie
  rw [tot_all] at h
  unfold Fits; omega

end Go.Proofs.YtkhkncgndllkjaaDoor.Mny
