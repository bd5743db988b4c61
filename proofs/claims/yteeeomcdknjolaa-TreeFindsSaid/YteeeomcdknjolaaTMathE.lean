/- Plain facts on layer 9's trees: the pairs from one key to another one. No Go here. -/
import Derived.Test.YteeeomcdknjolaaTMathD
namespace Go.Proofs.Yteeeomcdknjolaa.Tre
open Nod

/-- Where the keys that are ahead of one end. -/
theorem cut_at {l : List P} (h : mayP l = true) (x : T) : ∃ c, c ≤ l.length ∧ ∀ i, i < l.length → ltB (kAt l i) x = decide (i < c) := by
  have : ∀ n, n ≤ l.length → ∃ c, c ≤ n ∧ ∀ i, i < n → ltB (kAt l i) x = decide (i < c) := fun n => by
    induction n with
    | zero => intro _; exact ⟨0, Nat.le_refl _, fun i hi => by omega⟩
    | succ n ih =>
      intro hn
      obtain ⟨c, h1, h2⟩ := ih (by omega)
      cases h3 : ltB (kAt l n) x with
      | true =>
        refine ⟨n + 1, Nat.le_refl _, fun i hi => ?_⟩
        rw [decide_eq_true hi]
        rcases Nat.lt_or_ge i n with h4 | h4
        · exact lt_tr (may_lt h h4 (by omega)) h3
        · rw [show i = n by omega]; exact h3
      | false =>
        refine ⟨c, by omega, fun i hi => ?_⟩
        rcases Nat.lt_or_ge i n with h4 | h4
        · exact h2 i h4
        · rw [show i = n by omega, h3, decide_eq_false (by omega)]
  exact this l.length (Nat.le_refl _)
def rangeL (l : List P) (from_ upt : T) : List P := l.filter fun p => !(ltB p.1 from_ || (!upt.isEmpty && !ltB p.1 upt))
theorem filter_cut {α : Type} (l : List α) (f : α → Bool) (a b : Nat) (h : ∀ i, (hi : i < l.length) → f l[i] = (decide (a ≤ i) && decide (i < b))) : l.filter f = (l.take b).drop a := by
  induction l generalizing a b with
  | nil => simp
  | cons x l ih =>
    have h0 := h 0 (by simp)
    simp only [List.getElem_cons_zero] at h0
    have h1 := ih (a - 1) (b - 1) fun i hi => by
      have := h (i + 1) (by simpa using hi)
      simp only [List.getElem_cons_succ] at this
      rw [this]
      congr 1 <;> (apply decide_eq_decide.2; omega)
    rcases Nat.eq_zero_or_pos b with hb | hb
    · subst hb
      simp only [Nat.not_lt_zero, decide_false, Bool.and_false] at h0
      rw [List.filter_cons_of_neg (by rw [h0]; decide), h1]
      simp
    · obtain ⟨b', rfl⟩ : ∃ b', b = b' + 1 := ⟨b - 1, by omega⟩
      rcases Nat.eq_zero_or_pos a with ha | ha
      · subst ha
        simp only [Nat.le_refl, decide_true, Nat.zero_lt_succ, Bool.and_self] at h0
        rw [List.filter_cons_of_pos h0, h1]
        simp
      · obtain ⟨a', rfl⟩ : ∃ a', a = a' + 1 := ⟨a - 1, by omega⟩
        rw [decide_eq_false (show ¬ a' + 1 ≤ 0 by omega), Bool.false_and] at h0
        rw [List.filter_cons_of_neg (by rw [h0]; decide), h1]
        rfl
/-- The pairs of a range are all from one place on, up to another one. -/
theorem range_cut {l : List P} {from_ upt : T} {a b : Nat} (ha : ∀ i, i < l.length → ltB (kAt l i) from_ = decide (i < a)) (hb : upt.isEmpty = false → ∀ i, i < l.length → ltB (kAt l i) upt = decide (i < b)) (he : upt.isEmpty = true → l.length ≤ b) :
    rangeL l from_ upt = (l.take b).drop a := by
  refine filter_cut l _ a b fun i hi => ?_
  have e : l[i].1 = kAt l i := by unfold kAt; rw [List.getD_eq_getElem?_getD, List.getElem?_eq_getElem hi]; rfl
  rw [e, ha i hi]
  cases ht : upt.isEmpty with
  | true =>
    have := he ht
    rw [decide_eq_true (show i < b by omega)]
    by_cases h1 : i < a
    · simp [h1]
    · simp [h1]; omega
  | false =>
    rw [hb ht i hi]
    by_cases h1 : i < a <;> by_cases h2 : i < b <;> simp [h1, h2] <;> omega
theorem cut_le {l : List P} {x y : T} {a b : Nat} (ha : a ≤ l.length ∧ ∀ i, i < l.length → ltB (kAt l i) x = decide (i < a)) (hb : b ≤ l.length ∧ ∀ i, i < l.length → ltB (kAt l i) y = decide (i < b)) (h : ltB y x = false) : a ≤ b := by
  rcases Nat.lt_or_ge b a with h1 | h1
  · have h2 := ha.2 b (by omega)
    have h3 := hb.2 b (by omega)
    rw [decide_eq_true h1] at h2
    rw [decide_eq_false (by omega)] at h3
    rcases lt_tri y (kAt l b) with h4 | h4 | h4
    · have := lt_tr h4 h2; rw [h] at this; cases this
    · rw [h4, h2] at h; cases h
    · rw [h3] at h4; cases h4
  · exact h1
/-- The pairs up to a key, and from there on. -/
theorem range_two {l : List P} (h : mayP l = true) {from_ mid : T} (hm : mid.isEmpty = false) (hf : ltB mid from_ = false) : rangeL l from_ mid ++ rangeL l mid [] = rangeL l from_ [] := by
  obtain ⟨a, ha⟩ := cut_at h from_
  obtain ⟨b, hb⟩ := cut_at h mid
  have hab := cut_le ha hb hf
  rw [range_cut (a := a) (b := b) ha.2 (fun _ => hb.2) (fun h9 => by rw [hm] at h9; cases h9), range_cut (a := b) (b := l.length) hb.2 (fun h9 => by cases h9) (fun _ => Nat.le_refl _), range_cut (a := a) (b := l.length) ha.2 (fun h9 => by cases h9) (fun _ => Nat.le_refl _), List.take_length]
  rw [List.drop_take]
  have : l.drop a = (l.drop a).take (b - a) ++ (l.drop a).drop (b - a) := (List.take_append_drop _ _).symm
  rw [List.drop_drop, show a + (b - a) = b by omega] at this
  exact this.symm
theorem range_all (l : List P) : rangeL l [] [] = l := by
  unfold rangeL
  rw [List.filter_eq_self]
  intro p _
  cases hp : p.1 <;> simp [ltB, Op.bytesLess]
end Go.Proofs.Yteeeomcdknjolaa.Tre
