/- Books, plain: what posting does to each account, to the sum, and to how many balances there are. Conditions: none. -/
import Derived.Test.YtejdhemnlcbffaaDoorB17
namespace Go.Proofs.YtejdhemnlcbffaaDoor.Bok
open Go.RowKit Cht Ent
open Mny (Fits)

/-- What lines do to an account, one behind the other. -/
def onS (xs : List Ln) (a : Ln) : Int := ((xs.filter (fun x => sameA x a)).map (·.n)).sum
theorem onS_nil (a : Ln) : onS [] a = 0 := rfl
theorem onS_cons (x : Ln) (xs : List Ln) (a : Ln) : onS (x :: xs) a = (if sameA x a = true then x.n else 0) + onS xs a := by
  unfold onS
  cases h : sameA x a with
  | true => rw [List.filter_cons_of_pos (by simpa using h)]; simp
  | false => rw [List.filter_cons_of_neg (by rw [h]; decide)]; simp
theorem onS_append (xs ys : List Ln) (a : Ln) : onS (xs ++ ys) a = onS xs a + onS ys a := by
  unfold onS; simp
theorem mayL_apart {l : List Ln} (h : mayL l = true) {i j : Nat} (hij : i < j) (hj : j < l.length) : sameA (l[i]'(by omega)) l[j] = false := by
  unfold mayL at h
  simp only [Bool.and_eq_true, List.all_eq_true, List.mem_range] at h
  have h1 := h.2 j hj
  rw [okI_at hj, Bool.and_eq_true, Bool.and_eq_true] at h1
  have h2 := h1.2.2
  rw [Bool.not_eq_true', List.any_eq_false] at h2
  have hm : l[i]'(by omega) ∈ l.take j := by
    rw [List.mem_iff_getElem]
    exact ⟨i, by rw [List.length_take]; omega, by rw [List.getElem_take]⟩
  simpa using h2 _ hm
/-- Where no account is there twice, it is what the first line does. -/
theorem onS_pair {l : List Ln} (h : l.Pairwise (fun x y => sameA x y = false)) (a : Ln) : onS l a = onL l a := by
  induction l with
  | nil => rfl
  | cons x l ih =>
    have hp := List.pairwise_cons.1 h
    rw [onS_cons, onL_cons, ih hp.2]
    cases hs : sameA x a with
    | true =>
      rw [if_pos rfl, if_pos rfl, onL_none (fun y hy => by
        cases h1 : sameA y a with
        | false => rfl
        | true =>
          have := hp.1 y hy
          rw [same_trans hs (same_symm h1)] at this; cases this)]
      omega
    | false => rw [if_neg (by decide), if_neg (by decide)]; omega
theorem onS_may {l : List Ln} (h : mayL l = true) (a : Ln) : onS l a = onL l a :=
  onS_pair (List.pairwise_iff_getElem.2 fun _ _ _ hj hij => mayL_apart h hij hj) a
theorem add_on {l l' : List Ln} {x : Ln} (h : addL l x = some l') (hr : Ris l) (hx : okX x = true) (a : Ln) : onL l' a = onL l a + (if sameA x a = true then x.n else 0) := by
  obtain ⟨-, rfl⟩ := addL_in h
  cases hs : sameA x a with
  | true => rw [on_set_same _ hs, if_pos rfl, onL_same hs]
  | false => rw [on_set_other hr hx _ hs, if_neg (by decide)]; omega
theorem addAll_on {l l' xs : List Ln} (h : addAll l xs = some l') (hr : Ris l) (hx : ∀ x ∈ xs, okX x = true) (a : Ln) : onL l' a = onL l a + onS xs a := by
  induction xs generalizing l with
  | nil => simp only [addAll] at h; injection h with h; subst h; rw [onS_nil]; omega
  | cons x xs ih =>
    simp only [addAll] at h
    cases h1 : addL l x with
    | none => rw [h1] at h; cases h
    | some l1 =>
      rw [h1] at h
      have hx0 := hx x List.mem_cons_self
      have hr1 : Ris l1 := by obtain ⟨-, rfl⟩ := addL_in h1; exact hr.set _ hx0 _
      rw [ih h hr1 (fun y hy => hx y (List.mem_cons_of_mem _ hy)), add_on h1 hr hx0, onS_cons]
      omega
theorem addAll_sum {l l' xs : List Ln} (h : addAll l xs = some l') (hr : Ris l) (hx : ∀ x ∈ xs, okX x = true) : sumL l' = sumL l + sumL xs := by
  induction xs generalizing l with
  | nil => simp only [addAll] at h; injection h with h; subst h; rw [sumL_nil]; omega
  | cons x xs ih =>
    simp only [addAll] at h
    cases h1 : addL l x with
    | none => rw [h1] at h; cases h
    | some l1 =>
      rw [h1] at h
      have hx0 := hx x List.mem_cons_self
      obtain ⟨-, e⟩ := addL_in h1
      have hr1 : Ris l1 := by rw [e]; exact hr.set _ hx0 _
      have hs1 : sumL l1 = sumL l + x.n := by rw [e, sum_set hr hx0]; omega
      rw [ih h hr1 (fun y hy => hx y (List.mem_cons_of_mem _ hy)), hs1, sumL_cons]
      omega
theorem addAll_len {l l' xs : List Ln} (h : addAll l xs = some l') : l'.length ≤ l.length + xs.length := by
  induction xs generalizing l with
  | nil => simp only [addAll] at h; injection h with h; subst h; simp
  | cons x xs ih =>
    simp only [addAll] at h
    cases h1 : addL l x with
    | none => rw [h1] at h; cases h
    | some l1 =>
      rw [h1] at h
      have h2 := ih h
      obtain ⟨-, e⟩ := addL_in h1
      have h3 := len_set (l := l) x (onL l x + x.n)
      rw [← e] at h3
      simp only [List.length_cons]
      omega
theorem mayL_all {xs : List Ln} (h : mayL xs = true) : ∀ x ∈ xs, okX x = true := fun x hx => by
  obtain ⟨i, hi, rfl⟩ := List.getElem_of_mem hx
  exact (mayL_ok h hi).1
/-- What a good posting to a book leaves: a book, in which each account has as much more as the lines do to it. -/
theorem post1_book {l xs : List Ln} {b : Int} {r : ByteArray} (h : (post1 l b r xs).1 = 0) (hf : FitB l) (hx : ∀ x ∈ xs, fitL x) :
    mayB (post1 l b r xs).2 = true ∧ FitB (post1 l b r xs).2 ∧ ∀ a, onL (post1 l b r xs).2 a = onL l a + onL xs a := by
  obtain ⟨h1, h2, h3⟩ := post1_in h
  obtain ⟨h4, h5, h6⟩ := postL_in h2
  obtain ⟨h7, h8⟩ := chk_zero h4
  obtain ⟨-, hr, hs⟩ := mayB_in h1
  obtain ⟨h9, h10, -⟩ := postL_keeps h2 hr hf hx
  rw [h3]
  refine ⟨mayB_to h6 h9 ?_, h10, fun a => ?_⟩
  · rw [addAll_sum h5 hr (mayL_all h7), hs, h8]; rfl
  · rw [addAll_on h5 hr (mayL_all h7), onS_may h7]
end Go.Proofs.YtejdhemnlcbffaaDoor.Bok
