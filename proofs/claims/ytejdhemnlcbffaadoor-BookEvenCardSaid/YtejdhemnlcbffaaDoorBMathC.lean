/- Books, plain: entries in any order; an entry posted and taken back. Conditions: none. -/
import Derived.Test.YtejdhemnlcbffaaDoorBMathB
namespace Go.Proofs.YtejdhemnlcbffaaDoor.Bok
open Go.RowKit Cht Ent
open Mny (Fits)

/-- An entry that may be, of small amounts. -/
def goodE (x : En) : Bool := decide (chk x.b x.r x.l = 0) && x.l.all (fun y => decide (y.n < 1125899906842624) && decide (-1125899906842624 < y.n))
theorem goodE_in {x : En} (h : goodE x = true) : chk x.b x.r x.l = 0 ∧ ∀ y ∈ x.l, y.n < 1125899906842624 ∧ -1125899906842624 < y.n := by
  unfold goodE at h
  simp only [Bool.and_eq_true, decide_eq_true_eq, List.all_eq_true] at h
  exact h
theorem mayL_len {l : List Ln} (h : mayL l = true) : l.length ≤ 8 := by
  unfold mayL at h
  simp only [Bool.and_eq_true, decide_eq_true_eq] at h
  exact h.1.2
theorem addL_fits {l : List Ln} {x : Ln} (h : Fits (onL l x + x.n)) : addL l x = some (setL l x (onL l x + x.n)) := by unfold addL; rw [if_pos h]
theorem addAll_fine : ∀ (xs l : List Ln) (K : Nat), Ris l → (∀ a, -(1125899906842624 * (K : Int)) ≤ onL l a ∧ onL l a ≤ 1125899906842624 * (K : Int)) → (∀ x ∈ xs, okX x = true ∧ x.n < 1125899906842624 ∧ -1125899906842624 < x.n) → K + xs.length ≤ 4096 →
    ∃ l', addAll l xs = some l' ∧ ∀ a, -(1125899906842624 * ((K + xs.length : Nat) : Int)) ≤ onL l' a ∧ onL l' a ≤ 1125899906842624 * ((K + xs.length : Nat) : Int)
  | [], l, K, _, hb, _, _ => ⟨l, rfl, hb⟩
  | x :: xs, l, K, hr, hb, hx, hK => by
    obtain ⟨hx0, hx1, hx2⟩ := hx x List.mem_cons_self
    have hbx := hb x
    simp only [List.length_cons] at hK ⊢
    have hfit : Fits (onL l x + x.n) := by unfold Fits; omega
    have h1 := addL_fits hfit
    have hon := add_on h1 hr hx0
    obtain ⟨l', h2, h3⟩ := addAll_fine xs (setL l x (onL l x + x.n)) (K + 1) (hr.set _ hx0 _) (fun a => by
      rw [hon a]
      have := hb a
      split <;> omega) (fun y hy => hx y (List.mem_cons_of_mem _ hy)) (by omega)
    refine ⟨l', by simp only [addAll, h1]; exact h2, fun a => ?_⟩
    have := h3 a
    rw [show K + (xs.length + 1) = K + 1 + xs.length by omega]
    exact this
/-- What entries do to an account. -/
def sumE (xs : List En) (a : Ln) : Int := (xs.map (fun x => onS x.l a)).sum
theorem sumE_cons (x : En) (xs : List En) (a : Ln) : sumE (x :: xs) a = onS x.l a + sumE xs a := by unfold sumE; simp
theorem sumE_append (xs ys : List En) (a : Ln) : sumE (xs ++ ys) a = sumE xs a + sumE ys a := by unfold sumE; simp
theorem sumE_reverse (xs : List En) (a : Ln) : sumE xs.reverse a = sumE xs a := by
  induction xs with
  | nil => rfl
  | cons x xs ih => rw [List.reverse_cons, sumE_append, ih, sumE_cons, sumE_cons]; unfold sumE; simp; omega
theorem foldP_fine : ∀ (xs : List En) (l : List Ln) (K : Nat), Ris l → FitB l → (∀ a, -(1125899906842624 * (K : Int)) ≤ onL l a ∧ onL l a ≤ 1125899906842624 * (K : Int)) → l.length ≤ K → (∀ x ∈ xs, goodE x = true ∧ ∀ y ∈ x.l, fitL y) → K + 8 * xs.length ≤ 200 →
    ∃ l', foldP l xs = (0, l') ∧ Ris l' ∧ FitB l' ∧ l'.length ≤ 200 ∧ ∀ a, onL l' a = onL l a + sumE xs a
  | [], l, K, hr, hf, _, hl, _, hK => ⟨l, rfl, hr, hf, by simp at hK; omega, fun a => by unfold sumE; simp⟩
  | x :: xs, l, K, hr, hf, hb, hl, hx, hK => by
    obtain ⟨hx0, hxf⟩ := hx x List.mem_cons_self
    obtain ⟨hc, hs⟩ := goodE_in hx0
    have hm := (chk_zero hc).1
    have h8 := mayL_len hm
    have hok := mayL_all hm
    simp only [List.length_cons] at hK
    obtain ⟨l1, h1, h2⟩ := addAll_fine x.l l K hr hb (fun y hy => ⟨hok y hy, hs y hy⟩) (by omega)
    have hlen := addAll_len h1
    have hp : postL l x.b x.r x.l = (0, l1) := postL_good hc h1 (by omega)
    obtain ⟨hr1, hf1⟩ := addAll_in h1 hr hf (fun y hy => ⟨hxf y hy, hok y hy⟩)
    have hon := addAll_on h1 hr hok
    obtain ⟨l', h3, h4, h5, h6, h7⟩ := foldP_fine xs l1 (K + 8) hr1 hf1 (fun a => by have := h2 a; omega) (by omega) (fun y hy => hx y (List.mem_cons_of_mem _ hy)) (by omega)
    refine ⟨l', by simp only [foldP, hp]; exact h3, h4, h5, h6, fun a => ?_⟩
    rw [h7 a, hon a, sumE_cons]; omega
theorem postsL_fold (es : List En) : postsL [] es = foldP [] es := by
  unfold postsL
  cases es with
  | nil => rfl
  | cons x xs => rw [if_neg (by simp), if_pos (by decide +kernel)]
theorem posts_good {es : List En} (h : ∀ x ∈ es, goodE x = true ∧ ∀ y ∈ x.l, fitL y) (hn : es.length ≤ 20) :
    ∃ l', postsL [] es = (0, l') ∧ Ris l' ∧ FitB l' ∧ l'.length ≤ 200 ∧ ∀ a, onL l' a = sumE es a := by
  obtain ⟨l', h1, h2, h3, h4, h5⟩ := foldP_fine es [] 0 Ris.nil (fun x hx => absurd hx (by simp)) (fun a => by simp [onL]) (Nat.le_refl _) h (by omega)
  refine ⟨l', by rw [postsL_fold]; exact h1, h2, h3, h4, fun a => ?_⟩
  rw [h5 a]; simp [onL]
/-- In whatever order. -/
theorem posts_back {es : List En} (h : ∀ x ∈ es, goodE x = true ∧ ∀ y ∈ x.l, fitL y) (hn : es.length ≤ 20) : postsL [] es.reverse = postsL [] es := by
  obtain ⟨l', h1, h2, -, -, h5⟩ := posts_good h hn
  obtain ⟨m', g1, g2, -, -, g5⟩ := posts_good (es := es.reverse) (fun x hx => h x (List.mem_reverse.1 hx)) (by rw [List.length_reverse]; exact hn)
  rw [h1, g1, ris_ext g2 h2 fun a _ => by rw [g5 a, h5 a, sumE_reverse]]
/-- Where no account is there twice, and each goes somewhere. -/
theorem addAll_apart : ∀ (xs l : List Ln), Ris l → xs.Pairwise (fun x y => sameA x y = false) → (∀ x ∈ xs, okX x = true ∧ Fits (onL l x + x.n)) → ∃ l', addAll l xs = some l'
  | [], l, _, _, _ => ⟨l, rfl⟩
  | x :: xs, l, hr, hp, hx => by
    obtain ⟨hx0, hx1⟩ := hx x List.mem_cons_self
    have h1 := addL_fits hx1
    have hon := add_on h1 hr hx0
    obtain ⟨hp1, hp2⟩ := List.pairwise_cons.1 hp
    obtain ⟨l', h2⟩ := addAll_apart xs (setL l x (onL l x + x.n)) (hr.set _ hx0 _) hp2 (fun y hy => by
      obtain ⟨a1, a2⟩ := hx y (List.mem_cons_of_mem _ hy)
      refine ⟨a1, ?_⟩
      rw [hon y, hp1 y hy, if_neg (by decide), Int.add_zero]
      exact a2)
    exact ⟨l', by simp only [addAll, h1]; exact h2⟩
theorem onL_self : ∀ {l : List Ln}, l.Pairwise (fun x y => sameA x y = false) → ∀ y ∈ l, onL l y = y.n
  | [], _, y, hy => absurd hy (by simp)
  | x :: l, hp, y, hy => by
    obtain ⟨hp1, hp2⟩ := List.pairwise_cons.1 hp
    rw [onL_cons]
    rcases List.mem_cons.1 hy with rfl | hy
    · rw [if_pos (same_self _)]
    · rw [hp1 y hy, if_neg (by decide)]
      exact onL_self hp2 y hy
/-- Posted and taken back. -/
theorem post_back {A C L : List Ln} {b : Int} {r : ByteArray} (h : post1 A b r L = (0, C)) (hf : FitB A) (hx : ∀ x ∈ L, fitL x) : post1 C b r (backL L) = (0, A) := by
  have h0 : (post1 A b r L).1 = 0 := by rw [h]
  obtain ⟨h1, h2, h3⟩ := post1_in h0
  obtain ⟨hA200, hAr, hAs⟩ := mayB_in h1
  obtain ⟨hc, -, -⟩ := postL_in h2
  obtain ⟨m1, m2, m3⟩ := post1_book h0 hf hx
  rw [h] at m1 m2 m3
  dsimp only at m1 m2 m3
  obtain ⟨-, hCr, -⟩ := mayB_in m1
  have hcb := chk_back hc
  have hmb := (chk_zero hcb).1
  have hpw : (backL L).Pairwise (fun x y => sameA x y = false) := List.pairwise_iff_getElem.2 fun _ _ _ hj hij => mayL_apart hmb hij hj
  obtain ⟨K, hK⟩ := addAll_apart (backL L) C hCr hpw (fun y hy => ⟨mayL_all hmb y hy, by
    have e1 := onL_self hpw y hy
    rw [onL_back] at e1
    rw [m3 y, show onL A y + onL L y + y.n = onL A y by omega]
    exact onL_fit hf y⟩)
  have hKr : Ris K := by
    have key : ∀ (xs l l' : List Ln), addAll l xs = some l' → Ris l → (∀ x ∈ xs, okX x = true) → Ris l' := by
      intro xs
      induction xs with
      | nil => intro l l' h hr _; simp only [addAll] at h; injection h with h; subst h; exact hr
      | cons x xs ih =>
        intro l l' h hr hx
        simp only [addAll] at h
        cases h1 : addL l x with
        | none => rw [h1] at h; cases h
        | some l1 =>
          rw [h1] at h
          obtain ⟨-, rfl⟩ := addL_in h1
          exact ih _ _ h (hr.set _ (hx x List.mem_cons_self) _) (fun y hy => hx y (List.mem_cons_of_mem _ hy))
    exact key _ _ _ hK hCr (mayL_all hmb)
  have hKA : K = A := ris_ext hKr hAr fun a _ => by
    rw [addAll_on hK hCr (mayL_all hmb), onS_may hmb, onL_back, m3 a]; omega
  subst hKA
  have hp : postL C b r (backL L) = (0, K) := postL_good hcb hK (by omega)
  unfold post1
  rw [postsL_one, if_pos m1]
  dsimp only
  rw [hp, if_pos rfl]
end Go.Proofs.YtejdhemnlcbffaaDoor.Bok
