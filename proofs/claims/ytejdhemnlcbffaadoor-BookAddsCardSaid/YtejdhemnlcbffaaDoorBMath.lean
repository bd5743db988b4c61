/- Books, plain: balances in order, what an account has, and one more amount. Conditions: none. -/
import Derived.Test.YtejdhemnlcbffaaDoorEP
import Derived.Test.YtejdhemnlcbffaaDoorH6
namespace Go.Proofs.YtejdhemnlcbffaaDoor.Bok
open Go.RowKit Cht Ent
open Mny (Fits)

/-! ### The order of names -/
abbrev T := List UInt8
def ltB (a b : T) : Bool := Go.Op.bytesLess a b
theorem lt_irr (a : T) : ltB a a = false := by
  unfold ltB
  induction a with
  | nil => rfl
  | cons x a ih => simp [Op.bytesLess, ih, UInt8.lt_irrefl]
theorem lt_tr {a b c : T} (h1 : ltB a b = true) (h2 : ltB b c = true) : ltB a c = true := by
  unfold ltB at h1 h2 ⊢
  induction a generalizing b c with
  | nil =>
    cases c with
    | nil => cases b <;> simp [Op.bytesLess] at h2
    | cons z c => rfl
  | cons x a ih =>
    cases b with
    | nil => simp [Op.bytesLess] at h1
    | cons y b =>
      cases c with
      | nil => simp [Op.bytesLess] at h2
      | cons z c =>
        simp only [Op.bytesLess, Bool.or_eq_true, Bool.and_eq_true, decide_eq_true_eq, beq_iff_eq] at h1 h2 ⊢
        rcases h1 with h1 | ⟨rfl, h1⟩
        · rcases h2 with h2 | ⟨rfl, h2⟩
          · exact .inl (UInt8.lt_trans h1 h2)
          · exact .inl h1
        · rcases h2 with h2 | ⟨rfl, h2⟩
          · exact .inl h2
          · exact .inr ⟨rfl, ih h1 h2⟩
theorem lt_tri (a b : T) : ltB a b = true ∨ a = b ∨ ltB b a = true := by
  unfold ltB
  induction a generalizing b with
  | nil =>
    cases b with
    | nil => exact .inr (.inl rfl)
    | cons y b => exact .inl rfl
  | cons x a ih =>
    cases b with
    | nil => exact .inr (.inr rfl)
    | cons y b =>
      simp only [Op.bytesLess, Bool.or_eq_true, Bool.and_eq_true, decide_eq_true_eq, beq_iff_eq]
      rcases (show x = y ∨ x < y ∨ y < x from (Classical.em (x = y)).elim Or.inl (fun h => Or.inr (UInt8.lt_or_lt_of_ne h))) with h | h | h
      · subst h
        rcases ih b with h | h | h
        · exact .inl (.inr ⟨rfl, h⟩)
        · exact .inr (.inl (by rw [h]))
        · exact .inr (.inr (.inr ⟨rfl, h⟩))
      · exact .inl (.inl h)
      · exact .inr (.inr (.inl h))
theorem lt_ne {a b : T} (h : ltB a b = true) : a ≠ b := fun e => by rw [e, lt_irr] at h; cases h
theorem lt_asym {a b : T} (h : ltB a b = true) : ltB b a = false := by
  cases h2 : ltB b a with
  | false => rfl
  | true => have := lt_tr h h2; rw [lt_irr] at this; cases this

theorem nm_list (k : Int) (s : ByteArray) : (nmA k s).data.toList = ltA k :: s.data.toList := by
  unfold nmA
  simp [ByteArray.data_append]
theorem lt_inj {k k' : Int} (h : 1 ≤ k ∧ k ≤ 4) (h' : 1 ≤ k' ∧ k' ≤ 4) (e : ltA k = ltA k') : k = k' := by
  have hk : k = 1 ∨ k = 2 ∨ k = 3 ∨ k = 4 := by omega
  have hk' : k' = 1 ∨ k' = 2 ∨ k' = 3 ∨ k' = 4 := by omega
  rcases hk with rfl | rfl | rfl | rfl <;> rcases hk' with rfl | rfl | rfl | rfl <;> first | rfl | (exact absurd e (by decide))
theorem bytes_eq {s s' : ByteArray} (h : s.data.toList = s'.data.toList) : s = s' := by
  apply ByteArray.ext
  exact Array.toList_inj.1 h

/-- An account that may be. -/
abbrev okX (x : Ln) : Bool := mayA x.k x.s
/-- Its name. -/
def nmL (x : Ln) : T := (nmA x.k x.s).toList
def ltX (x y : Ln) : Bool := ltB (nmL x) (nmL y)
theorem nmL_inj {x y : Ln} (hx : okX x = true) (hy : okX y = true) (h : nmL x = nmL y) : x.k = y.k ∧ x.s = y.s := by
  unfold nmL at h
  rw [ByteArray.toList_eq, ByteArray.toList_eq, nm_list, nm_list] at h
  injection h with e1 e2
  have a := may_in hx
  have b := may_in hy
  exact ⟨lt_inj ⟨a.1, a.2.1⟩ ⟨b.1, b.2.1⟩ e1, bytes_eq e2⟩
theorem same_iff {x y : Ln} : sameA x y = true ↔ x.k = y.k ∧ x.s = y.s := by
  constructor
  · exact same_yes
  · rintro ⟨h1, h2⟩; unfold sameA; rw [h1, h2]; simp
theorem same_nm {x y : Ln} (h : sameA x y = true) : nmL x = nmL y := by
  obtain ⟨h1, h2⟩ := same_iff.1 h
  unfold nmL; rw [h1, h2]
theorem same_of {x y : Ln} (hx : okX x = true) (hy : okX y = true) (h : nmL x = nmL y) : sameA x y = true := same_iff.2 (nmL_inj hx hy h)
theorem same_self (x : Ln) : sameA x x = true := same_iff.2 ⟨rfl, rfl⟩
theorem same_symm {x y : Ln} (h : sameA x y = true) : sameA y x = true := by
  obtain ⟨h1, h2⟩ := same_iff.1 h; exact same_iff.2 ⟨h1.symm, h2.symm⟩
theorem same_comm (x y : Ln) : sameA x y = sameA y x := by
  cases h : sameA x y with
  | true => exact (same_symm h).symm
  | false => cases h2 : sameA y x with
    | false => rfl
    | true => rw [same_symm h2] at h; exact h.symm
theorem same_trans {x y z : Ln} (h : sameA x y = true) (h' : sameA y z = true) : sameA x z = true := by
  obtain ⟨h1, h2⟩ := same_iff.1 h; obtain ⟨h3, h4⟩ := same_iff.1 h'; exact same_iff.2 ⟨h1.trans h3, h2.trans h4⟩
theorem lt_not_same {x y : Ln} (h : ltX x y = true) : sameA x y = false := by
  cases h2 : sameA x y with
  | false => rfl
  | true => unfold ltX at h; rw [same_nm h2, lt_irr] at h; cases h
theorem tri {x y : Ln} (hx : okX x = true) (hy : okX y = true) : ltX x y = true ∨ sameA x y = true ∨ ltX y x = true := by
  rcases lt_tri (nmL x) (nmL y) with h | h | h
  · exact .inl h
  · exact .inr (.inl (same_of hx hy h))
  · exact .inr (.inr h)
theorem ltX_same {x y z : Ln} (h : sameA x y = true) : ltX x z = ltX y z := by unfold ltX; rw [same_nm h]
theorem ltX_same' {x y z : Ln} (h : sameA x y = true) : ltX z x = ltX z y := by unfold ltX; rw [same_nm h]
theorem ltX_trans {x y z : Ln} (h : ltX x y = true) (h' : ltX y z = true) : ltX x z = true := lt_tr h h'
theorem ltX_asym {x y : Ln} (h : ltX x y = true) : ltX y x = false := lt_asym h

/-- -1, 0, 1. -/
def cmpX (x y : Ln) : Int := ordA (nmA x.k x.s) (nmA y.k y.s)
theorem cmp_neg (x y : Ln) : decide (cmpX x y < 0) = ltX x y := ord_neg _ _
theorem cmp_form (x y : Ln) : cmpX x y = if ltX x y = true then -1 else if nmL x = nmL y then 0 else 1 := by
  unfold cmpX ordA cmpB ltX ltB nmL
  cases Op.bytesLess (nmA x.k x.s).toList (nmA y.k y.s).toList with
  | true => rfl
  | false =>
    by_cases h : (nmA x.k x.s).toList = (nmA y.k y.s).toList
    · simp [h]
    · have h2 : ((nmA x.k x.s).toList == (nmA y.k y.s).toList) = false := beq_eq_false_iff_ne.2 h
      simp [h, h2]
theorem cmp_lt {x y : Ln} (h : ltX x y = true) : cmpX x y = -1 := by rw [cmp_form, if_pos h]
theorem cmp_ge {x y : Ln} (h : ltX x y = false) : 0 ≤ cmpX x y := by
  rw [cmp_form, h, if_neg (by decide)]; split <;> decide
theorem cmp_gt {x y : Ln} (h : ltX y x = true) : cmpX x y = 1 := by
  rw [cmp_form, ltX_asym h, if_neg (by decide), if_neg (fun e => lt_ne h e.symm)]
theorem cmp_eq {x y : Ln} (h : sameA x y = true) : cmpX x y = 0 := by
  have h1 : ltX x y = false := by
    cases h2 : ltX x y with
    | false => rfl
    | true => rw [lt_not_same h2] at h; cases h
  rw [cmp_form, h1, if_neg (by decide), if_pos (same_nm h)]
theorem cmp_zero {x y : Ln} (hx : okX x = true) (hy : okX y = true) : decide (cmpX x y = 0) = sameA x y := by
  rcases tri hx hy with h | h | h
  · rw [cmp_lt h, lt_not_same h]; rfl
  · rw [cmp_eq h, h]; rfl
  · rw [cmp_gt h, same_comm, lt_not_same h]; rfl

/-! ### Balances that rise -/
structure Ris (l : List Ln) : Prop where
  ok : ∀ x ∈ l, okX x = true ∧ x.n ≠ 0
  lt : l.Pairwise (fun x y => ltX x y = true)
theorem Ris.nil : Ris [] := ⟨fun _ h => by simp at h, List.Pairwise.nil⟩
theorem Ris.at_ {l : List Ln} (h : Ris l) {i j : Nat} (hij : i < j) (hj : j < l.length) : ltX (l[i]'(by omega)) l[j] = true := (List.pairwise_iff_getElem.1 h.lt) i j (by omega) hj hij
theorem Ris.ok_ {l : List Ln} (h : Ris l) {i : Nat} (hi : i < l.length) : okX l[i] = true := (h.ok _ (List.getElem_mem hi)).1

/-- Is it so at this place? -/
def okB (l : List Ln) (i : Nat) : Bool := match l[i]? with
  | some y => mayA y.k y.s && (!(y.n == 0) && (decide (i = 0) || match l[i - 1]? with
    | some x => ltX x y
    | none => false))
  | none => true
theorem okB_zero {l : List Ln} (h : 0 < l.length) : okB l 0 = (mayA l[0].k l[0].s && !(l[0].n == 0)) := by
  unfold okB; rw [List.getElem?_eq_getElem h]; simp
theorem okB_succ {l : List Ln} {i : Nat} (h : i + 1 < l.length) : okB l (i + 1) = (mayA l[i + 1].k l[i + 1].s && (!(l[i + 1].n == 0) && ltX l[i] l[i + 1])) := by
  unfold okB; rw [List.getElem?_eq_getElem h, show i + 1 - 1 = i by omega, List.getElem?_eq_getElem (by omega)]; simp
def risB (l : List Ln) : Bool := (List.range l.length).all (okB l)
theorem risB_no {l : List Ln} {i : Nat} (h : i < l.length) (hk : okB l i = false) : risB l = false := by
  unfold risB
  rw [List.all_eq_false]
  exact ⟨i, List.mem_range.2 h, by rw [hk]; decide⟩
theorem risB_yes {l : List Ln} (hk : ∀ i, i < l.length → okB l i = true) : risB l = true := by
  unfold risB
  rw [List.all_eq_true]
  intro i hi
  exact hk i (List.mem_range.1 hi)
theorem okB_may {l : List Ln} {i : Nat} (h : i < l.length) (hk : okB l i = true) : mayA l[i].k l[i].s = true ∧ l[i].n ≠ 0 := by
  cases i with
  | zero => rw [okB_zero h] at hk; simpa using hk
  | succ i =>
    rw [okB_succ h] at hk
    simp only [Bool.and_eq_true, Bool.not_eq_true', beq_eq_false_iff_ne] at hk
    exact ⟨hk.1, hk.2.1⟩
theorem ris_of {l : List Ln} (h : risB l = true) : Ris l := by
  unfold risB at h
  rw [List.all_eq_true] at h
  have hk : ∀ i, i < l.length → okB l i = true := fun i hi => h i (List.mem_range.2 hi)
  refine ⟨fun x hx => ?_, ?_⟩
  · obtain ⟨i, hi, rfl⟩ := List.getElem_of_mem hx
    exact okB_may hi (hk i hi)
  · rw [List.pairwise_iff_getElem]
    intro i j hi hj hij
    obtain ⟨d, rfl⟩ : ∃ d, j = i + d + 1 := ⟨j - i - 1, by omega⟩
    clear hij
    have hs : ∀ m, (hm : m + 1 < l.length) → ltX (l[m]'(by omega)) l[m + 1] = true := fun m hm => by
      have := hk (m + 1) hm
      rw [okB_succ hm] at this
      simp only [Bool.and_eq_true] at this
      exact this.2.2
    induction d with
    | zero => exact hs i hj
    | succ d ih => exact ltX_trans (ih (by omega) hs) (hs (i + d + 1) hj)
theorem ris_to {l : List Ln} (h : Ris l) : risB l = true := risB_yes fun i hi => by
  have a := h.ok _ (List.getElem_mem hi)
  cases i with
  | zero => rw [okB_zero hi]; simp only [Bool.and_eq_true, Bool.not_eq_true', beq_eq_false_iff_ne]; exact a
  | succ i =>
    rw [okB_succ hi]
    simp only [Bool.and_eq_true, Bool.not_eq_true', beq_eq_false_iff_ne]
    exact ⟨a.1, a.2, h.at_ (by omega) hi⟩
/-- May a book be? -/
def mayB (l : List Ln) : Bool := decide (l.length ≤ 200) && (risB l && decide (sumL l = 0))
theorem mayB_in {l : List Ln} (h : mayB l = true) : l.length ≤ 200 ∧ Ris l ∧ sumL l = 0 := by
  unfold mayB at h
  simp only [Bool.and_eq_true, decide_eq_true_eq] at h
  exact ⟨h.1, ris_of h.2.1, h.2.2⟩
theorem mayB_to {l : List Ln} (h1 : l.length ≤ 200) (h2 : Ris l) (h3 : sumL l = 0) : mayB l = true := by
  unfold mayB; rw [decide_eq_true h1, ris_to h2, decide_eq_true h3]; rfl

/-! ### An account gets an amount -/
def setL (l : List Ln) (a : Ln) (n : Int) : List Ln := l.filter (fun x => ltX x a) ++ ((if n = 0 then [] else [⟨a.k, a.s, n⟩]) ++ l.filter (fun x => ltX a x))
def addL (l : List Ln) (x : Ln) : Option (List Ln) := if Fits (onL l x + x.n) then some (setL l x (onL l x + x.n)) else none
def addAll : List Ln → List Ln → Option (List Ln)
  | l, [] => some l
  | l, x :: xs => match addL l x with
    | some l' => addAll l' xs
    | none => none

theorem onL_cons (x : Ln) (l : List Ln) (a : Ln) : onL (x :: l) a = if sameA x a = true then x.n else onL l a := by
  unfold onL
  rw [List.find?_cons]
  cases sameA x a <;> simp
theorem onL_append (l m : List Ln) (a : Ln) : onL (l ++ m) a = if l.any (fun x => sameA x a) = true then onL l a else onL m a := by
  induction l with
  | nil => simp [onL]
  | cons x l ih =>
    rw [List.cons_append, onL_cons, onL_cons, ih, List.any_cons]
    cases sameA x a <;> simp
theorem onL_no {l : List Ln} {a : Ln} (h : l.any (fun x => sameA x a) = false) : onL l a = 0 := onL_none (fun y hy => by
  rw [List.any_eq_false] at h
  simpa using h y hy)
theorem Ris.append {l m : List Ln} (h1 : Ris l) (h2 : Ris m) (h : ∀ x ∈ l, ∀ y ∈ m, ltX x y = true) : Ris (l ++ m) :=
  ⟨fun x hx => by
    rcases List.mem_append.1 hx with h | h
    · exact h1.ok x h
    · exact h2.ok x h, List.pairwise_append.2 ⟨h1.lt, h2.lt, h⟩⟩
theorem Ris.filter {l : List Ln} (h : Ris l) (p : Ln → Bool) : Ris (l.filter p) := ⟨fun x hx => h.ok x (List.mem_filter.1 hx).1, h.lt.filter p⟩
theorem Ris.set {l : List Ln} (h : Ris l) (a : Ln) (ha : okX a = true) (n : Int) : Ris (setL l a n) := by
  unfold setL
  refine (h.filter _).append (Ris.append ?_ (h.filter _) ?_) ?_
  · split
    · exact Ris.nil
    · rename_i hn
      exact ⟨fun x hx => by rw [List.mem_singleton.1 hx]; exact ⟨ha, hn⟩, List.pairwise_singleton _ _⟩
  · intro x hx y hy
    split at hx
    · simp at hx
    · rw [List.mem_singleton.1 hx]
      exact (List.mem_filter.1 hy).2
  · intro x hx y hy
    have h1 := (List.mem_filter.1 hx).2
    rcases List.mem_append.1 hy with h | h
    · split at h
      · simp at h
      · rw [List.mem_singleton.1 h]; exact h1
    · exact ltX_trans h1 (List.mem_filter.1 h).2
theorem sumL_append (l m : List Ln) : sumL (l ++ m) = sumL l + sumL m := by unfold sumL; simp
theorem sumL_cons (x : Ln) (m : List Ln) : sumL (x :: m) = x.n + sumL m := by unfold sumL; simp
theorem sumL_nil : sumL [] = 0 := rfl
/-- A list that rises, cut at an account: what is below it, the account itself (or not), what is above it. -/
theorem Ris.cut {l : List Ln} (h : Ris l) {a : Ln} (ha : okX a = true) :
    (onL l a = 0 ∧ l.any (fun x => sameA x a) = false ∧ l = l.filter (fun x => ltX x a) ++ l.filter (fun x => ltX a x)) ∨
    (∃ x, sameA x a = true ∧ x.n ≠ 0 ∧ onL l a = x.n ∧ l = l.filter (fun x => ltX x a) ++ x :: l.filter (fun x => ltX a x)) := by
  induction l with
  | nil => exact .inl ⟨rfl, rfl, rfl⟩
  | cons y l ih =>
    have hl : Ris l := ⟨fun x hx => h.ok x (List.mem_cons_of_mem _ hx), (List.pairwise_cons.1 h.lt).2⟩
    have hy := h.ok y List.mem_cons_self
    have hyl := (List.pairwise_cons.1 h.lt).1
    rcases tri hy.1 ha with h1 | h1 | h1
    · have g := ltX_asym h1
      have s := lt_not_same h1
      rcases ih hl with ⟨e1, e2, e3⟩ | ⟨x, e1, e2, e3, e4⟩
      · refine .inl ⟨by rw [onL_cons, s]; simpa using e1, by rw [List.any_cons, s, e2]; rfl, ?_⟩
        rw [List.filter_cons_of_pos (by simpa using h1), List.filter_cons_of_neg (by simpa using g), List.cons_append, ← e3]
      · refine .inr ⟨x, e1, e2, by rw [onL_cons, s]; simpa using e3, ?_⟩
        rw [List.filter_cons_of_pos (by simpa using h1), List.filter_cons_of_neg (by simpa using g), List.cons_append, ← e4]
    · have n1 : ∀ x ∈ l, ltX a x = true := fun x hx => by rw [← ltX_same h1]; exact hyl x hx
      have f1 : l.filter (fun x => ltX a x) = l := List.filter_eq_self.2 n1
      have f2 : l.filter (fun x => ltX x a) = [] := List.filter_eq_nil_iff.2 fun x hx => by rw [ltX_asym (n1 x hx)]; decide
      have g1 : ltX y a = false := by
        cases h2 : ltX y a with
        | false => rfl
        | true => rw [lt_not_same h2] at h1; cases h1
      have g2 : ltX a y = false := by
        cases h2 : ltX a y with
        | false => rfl
        | true => rw [same_comm, lt_not_same h2] at h1; cases h1
      refine .inr ⟨y, h1, hy.2, by rw [onL_cons, h1]; rfl, ?_⟩
      rw [List.filter_cons_of_neg (by simpa using g1), List.filter_cons_of_neg (by simpa using g2), f1, f2]; rfl
    · have n1 : ∀ x ∈ l, ltX a x = true := fun x hx => ltX_trans h1 (hyl x hx)
      have f1 : l.filter (fun x => ltX a x) = l := List.filter_eq_self.2 n1
      have f2 : l.filter (fun x => ltX x a) = [] := List.filter_eq_nil_iff.2 fun x hx => by rw [ltX_asym (n1 x hx)]; decide
      have s : ∀ x ∈ y :: l, sameA x a = false := fun x hx => by
        rcases List.mem_cons.1 hx with rfl | hx
        · rw [same_comm]; exact lt_not_same h1
        · rw [same_comm]; exact lt_not_same (n1 x hx)
      refine .inl ⟨onL_none s, by rw [List.any_eq_false]; intro x hx; rw [s x hx]; decide, ?_⟩
      rw [List.filter_cons_of_neg (by rw [ltX_asym h1]; decide), List.filter_cons_of_pos (by simpa using h1), f1, f2]; rfl
theorem sum_set {l : List Ln} (h : Ris l) {a : Ln} (ha : okX a = true) (n : Int) : sumL (setL l a n) = sumL l - onL l a + n := by
  have hh : sumL (setL l a n) = sumL (l.filter (fun x => ltX x a)) + n + sumL (l.filter (fun x => ltX a x)) := by
    unfold setL
    rw [sumL_append, sumL_append]
    split
    · rename_i h0; rw [h0, sumL_nil]; omega
    · rw [sumL_cons, sumL_nil]; show _ + ((n + 0) + _) = _; omega
  rcases h.cut ha with ⟨e1, -, e3⟩ | ⟨x, e1, e2, e3, e4⟩
  · have := congrArg sumL e3
    rw [sumL_append] at this
    omega
  · have := congrArg sumL e4
    rw [sumL_append, sumL_cons] at this
    omega
theorem len_set {l : List Ln} (a : Ln) (n : Int) : (setL l a n).length ≤ l.length + 1 := by
  unfold setL
  have : (l.filter (fun x => ltX x a)).length + (l.filter (fun x => ltX a x)).length ≤ l.length := by
    induction l with
    | nil => simp
    | cons y l ih =>
      cases h1 : ltX y a with
      | true =>
        rw [List.filter_cons_of_pos (by simpa using h1), List.filter_cons_of_neg (by rw [ltX_asym h1]; decide)]
        simp only [List.length_cons]; omega
      | false =>
        rw [List.filter_cons_of_neg (by rw [h1]; decide)]
        have := List.length_filter_le (fun x => ltX a x) [y]
        cases h2 : ltX a y with
        | true => rw [List.filter_cons_of_pos (by simpa using h2)]; simp only [List.length_cons]; omega
        | false => rw [List.filter_cons_of_neg (by rw [h2]; decide)]; simp only [List.length_cons]; omega
  rw [List.length_append, List.length_append]
  split <;> simp <;> omega
theorem onL_same {l : List Ln} {a b : Ln} (h : sameA a b = true) : onL l a = onL l b := by
  obtain ⟨h1, h2⟩ := same_iff.1 h
  unfold onL sameA
  rw [h1, h2]
theorem on_set_same {l : List Ln} {a b : Ln} (n : Int) (h : sameA a b = true) : onL (setL l a n) b = n := by
  unfold setL
  rw [onL_append]
  have h1 : (l.filter (fun x => ltX x a)).any (fun x => sameA x b) = false := by
    rw [List.any_eq_false]
    intro x hx hs
    have := (List.mem_filter.1 hx).2
    have h3 := lt_not_same this
    rw [same_trans hs (same_symm h)] at h3; cases h3
  rw [h1, if_neg (by decide)]
  split
  · rename_i h0
    rw [h0, List.nil_append]
    refine onL_none fun y hy => ?_
    have := (List.mem_filter.1 hy).2
    cases hs : sameA y b with
    | false => rfl
    | true =>
      have h3 := lt_not_same this
      rw [same_comm, same_trans hs (same_symm h)] at h3; cases h3
  · rw [List.singleton_append, onL_cons, if_pos]
    rw [← h]; rfl
theorem on_set_other {l : List Ln} (hl : Ris l) {a b : Ln} (ha : okX a = true) (n : Int) (h : sameA a b = false) : onL (setL l a n) b = onL l b := by
  have e : onL (setL l a n) b = onL (l.filter (fun x => ltX x a) ++ l.filter (fun x => ltX a x)) b := by
    unfold setL
    split
    · rfl
    · have hc : ¬ sameA (⟨a.k, a.s, n⟩ : Ln) b = true := by show ¬ sameA a b = true; rw [h]; decide
      rw [onL_append, List.singleton_append, onL_cons, if_neg hc, onL_append]
  rw [e]
  rcases hl.cut ha with ⟨-, -, e3⟩ | ⟨x, e1, e2, e3, e4⟩
  · rw [← e3]
  · have hx : sameA x b = false := by
      cases hs : sameA x b with
      | false => rfl
      | true => rw [same_trans (same_symm e1) hs] at h; cases h
    conv => rhs; rw [e4]
    rw [onL_append, onL_append, onL_cons, hx]; simp
/-- Where a place parts what is below an account from what is not. -/
theorem set_at {l : List Ln} (h : Ris l) {a : Ln} (ha : okX a = true) {i : Nat} (hi : i ≤ l.length) (h1 : ∀ t, (ht : t < l.length) → t < i → ltX l[t] a = true) (h2 : ∀ t, (ht : t < l.length) → i ≤ t → ltX l[t] a = false) :
    l.filter (fun x => ltX x a) = l.take i ∧ (∀ hj : i < l.length, sameA l[i] a = true → onL l a = l[i].n ∧ l.filter (fun x => ltX a x) = l.drop (i + 1)) ∧
    ((∀ hj : i < l.length, sameA l[i] a = false) → onL l a = 0 ∧ l.filter (fun x => ltX a x) = l.drop i) := by
  have f1 : l.filter (fun x => ltX x a) = l.take i := by
    conv => lhs; rw [← List.take_append_drop i l]
    rw [List.filter_append, List.filter_eq_self.2, List.filter_eq_nil_iff.2, List.append_nil]
    · intro x hx
      obtain ⟨t, ht, rfl⟩ := List.getElem_of_mem hx
      rw [List.length_drop] at ht
      rw [List.getElem_drop, h2 (i + t) (by omega) (by omega)]; decide
    · intro x hx
      obtain ⟨t, ht, rfl⟩ := List.getElem_of_mem hx
      rw [List.length_take] at ht
      rw [List.getElem_take]
      exact h1 t (by omega) (by omega)
  refine ⟨f1, fun hj hs => ?_, fun hn => ?_⟩
  · rcases h.cut ha with ⟨-, e2, -⟩ | ⟨x, e1, e2, e3, e4⟩
    · rw [List.any_eq_false] at e2
      exact absurd hs (by simpa using e2 _ (List.getElem_mem hj))
    · have e5 := e4
      rw [f1] at e5
      have e6 : l.drop i = x :: l.filter (fun x => ltX a x) := by
        conv at e5 => lhs; rw [← List.take_append_drop i l]
        exact List.append_cancel_left e5
      rw [List.drop_eq_getElem_cons hj] at e6
      injection e6 with e7 e8
      rw [e7]
      exact ⟨e3, e8.symm⟩
  · rcases h.cut ha with ⟨e1, -, e3⟩ | ⟨x, e1, e2, e3, e4⟩
    · refine ⟨e1, ?_⟩
      rw [f1] at e3
      conv at e3 => lhs; rw [← List.take_append_drop i l]
      exact (List.append_cancel_left e3).symm
    · exfalso
      have e5 := e4
      rw [f1] at e5
      conv at e5 => lhs; rw [← List.take_append_drop i l]
      have e6 := List.append_cancel_left e5
      have hj : i < l.length := by
        have := congrArg List.length e6
        rw [List.length_drop, List.length_cons] at this
        omega
      rw [List.drop_eq_getElem_cons hj] at e6
      injection e6 with e7 e8
      have := hn hj
      rw [e7, e1] at this; cases this
/-- Lists that rise are told by what accounts have. -/
theorem ris_ext : ∀ {l m : List Ln}, Ris l → Ris m → (∀ a, okX a = true → onL l a = onL m a) → l = m
  | [], [], _, _, _ => rfl
  | [], y :: m, _, hm, h => by
    have := h y (hm.ok y List.mem_cons_self).1
    rw [onL_cons, if_pos (same_self y)] at this
    exact absurd this.symm (hm.ok y List.mem_cons_self).2
  | x :: l, [], hl, _, h => by
    have := h x (hl.ok x List.mem_cons_self).1
    rw [onL_cons, if_pos (same_self x)] at this
    exact absurd this (hl.ok x List.mem_cons_self).2
  | x :: l, y :: m, hl, hm, h => by
    have hx := hl.ok x List.mem_cons_self
    have hy := hm.ok y List.mem_cons_self
    have cl := List.pairwise_cons.1 hl.lt
    have cm := List.pairwise_cons.1 hm.lt
    have no : ∀ {a : Ln} {k : List Ln}, (∀ z ∈ k, ltX a z = true) → onL k a = 0 := fun hk => onL_none fun z hz => by rw [same_comm]; exact lt_not_same (hk z hz)
    have hs : sameA x y = true := by
      rcases tri hx.1 hy.1 with h1 | h1 | h1
      · exfalso
        have := h x hx.1
        rw [onL_cons, if_pos (same_self x), no (a := x) (k := y :: m)] at this
        · exact hx.2 this
        · intro z hz
          rcases List.mem_cons.1 hz with rfl | hz
          · exact h1
          · exact ltX_trans h1 (cm.1 z hz)
      · exact h1
      · exfalso
        have := h y hy.1
        rw [onL_cons (x := y), if_pos (same_self y), no (a := y) (k := x :: l)] at this
        · exact hy.2 this.symm
        · intro z hz
          rcases List.mem_cons.1 hz with rfl | hz
          · exact h1
          · exact ltX_trans h1 (cl.1 z hz)
    have hn := h x hx.1
    rw [onL_cons, if_pos (same_self x), onL_cons, if_pos (same_symm hs)] at hn
    obtain ⟨e1, e2⟩ := same_iff.1 hs
    have e : x = y := ln_eq.2 ⟨e1, e2, hn⟩
    subst e
    rw [ris_ext (l := l) (m := m) ⟨fun z hz => hl.ok z (List.mem_cons_of_mem _ hz), cl.2⟩ ⟨fun z hz => hm.ok z (List.mem_cons_of_mem _ hz), cm.2⟩ fun a ha => by
      cases h1 : sameA x a with
      | false =>
        have := h a ha
        rwa [onL_cons, onL_cons, h1, if_neg (by decide), if_neg (by decide)] at this
      | true =>
        rw [no (a := a) (k := l) (fun z hz => by rw [← ltX_same h1]; exact cl.1 z hz), no (a := a) (k := m) (fun z hz => by rw [← ltX_same h1]; exact cm.1 z hz)]]
end Go.Proofs.YtejdhemnlcbffaaDoor.Bok
