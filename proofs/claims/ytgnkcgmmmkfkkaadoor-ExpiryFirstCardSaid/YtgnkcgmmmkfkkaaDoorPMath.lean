/- Heaps of places, plain: an order without equals, a row that is a heap, one put in, the least taken out. Conditions: none. -/
import GoSem.Op.String
import Derived.Lib.Strings
namespace Go.Proofs.YtgnkcgmmmkfkkaaDoor.Hep

/-! ### Octets in order -/
abbrev T := List UInt8
def ltB (a b : T) : Bool := Go.Op.bytesLess a b
theorem lt_irr (a : T) : ltB a a = false := by
  unfold ltB
  induction a with
  | nil => rfl
  | cons x a ih => simp [Op.bytesLess, ih, UInt8.lt_irrefl]
theorem lt_tr {a b c : T} (h1 : ltB a b = true) (h2 : ltB b c = true) : ltB a c = true := by
  unfold ltB at h1 h2 ⊢
  induction a generalizing b c with
  | nil =>
    cases c with
    | nil => cases b <;> simp [Op.bytesLess] at h2
    | cons z c => rfl
  | cons x a ih =>
    cases b with
    | nil => simp [Op.bytesLess] at h1
    | cons y b =>
      cases c with
      | nil => simp [Op.bytesLess] at h2
      | cons z c =>
        simp only [Op.bytesLess, Bool.or_eq_true, Bool.and_eq_true, decide_eq_true_eq, beq_iff_eq] at h1 h2 ⊢
        rcases h1 with h1 | ⟨rfl, h1⟩
        · rcases h2 with h2 | ⟨rfl, h2⟩
          · exact .inl (UInt8.lt_trans h1 h2)
          · exact .inl h1
        · rcases h2 with h2 | ⟨rfl, h2⟩
          · exact .inl h2
          · exact .inr ⟨rfl, ih h1 h2⟩
theorem lt_tri (a b : T) : ltB a b = true ∨ a = b ∨ ltB b a = true := by
  unfold ltB
  induction a generalizing b with
  | nil =>
    cases b with
    | nil => exact .inr (.inl rfl)
    | cons y b => exact .inl rfl
  | cons x a ih =>
    cases b with
    | nil => exact .inr (.inr rfl)
    | cons y b =>
      simp only [Op.bytesLess, Bool.or_eq_true, Bool.and_eq_true, decide_eq_true_eq, beq_iff_eq]
      rcases (show x = y ∨ x < y ∨ y < x from (Classical.em (x = y)).elim Or.inl (fun h => Or.inr (UInt8.lt_or_lt_of_ne h))) with h | h | h
      · subst h
        rcases ih b with h | h | h
        · exact .inl (.inr ⟨rfl, h⟩)
        · exact .inr (.inl (by rw [h]))
        · exact .inr (.inr (.inr ⟨rfl, h⟩))
      · exact .inl (.inl h)
      · exact .inr (.inr (.inl h))

/-! ### Places -/
/-- Where a hold stands in its list, and what its order of time hangs on. -/
structure Pl where
  u : Int
  k : ByteArray
  i : Nat
theorem toL_inj {s t : ByteArray} (h : s.toList = t.toList) : s = t := by
  have e : ∀ x : ByteArray, x.toList = x.data.toList := Lib.toList_data
  rw [e, e] at h
  exact ByteArray.ext (Array.toList_inj.1 h)
/-- Ahead in order of time. -/
def ltP (a b : Pl) : Bool := decide (a.u < b.u) || (decide (a.u = b.u) && (ltB a.k.toList b.k.toList || (a.k.toList == b.k.toList && decide (a.i < b.i))))
theorem ltP_iff {a b : Pl} : ltP a b = true ↔ a.u < b.u ∨ (a.u = b.u ∧ (ltB a.k.toList b.k.toList = true ∨ (a.k.toList = b.k.toList ∧ a.i < b.i))) := by
  unfold ltP; simp
theorem ltP_irr (a : Pl) : ltP a a = false := by
  cases h : ltP a a with
  | false => rfl
  | true =>
    rcases ltP_iff.1 h with h | ⟨_, h | ⟨_, h⟩⟩
    · omega
    · rw [lt_irr] at h; cases h
    · omega
theorem ltP_tr {a b c : Pl} (h1 : ltP a b = true) (h2 : ltP b c = true) : ltP a c = true := by
  rw [ltP_iff] at h1 h2 ⊢
  rcases h1 with h1 | ⟨e1, h1⟩
  · rcases h2 with h2 | ⟨e2, _⟩
    · left; omega
    · left; omega
  · rcases h2 with h2 | ⟨e2, h2⟩
    · left; omega
    · refine .inr ⟨by omega, ?_⟩
      rcases h1 with h1 | ⟨f1, h1⟩
      · rcases h2 with h2 | ⟨f2, _⟩
        · exact .inl (lt_tr h1 h2)
        · rw [← f2]; exact .inl h1
      · rcases h2 with h2 | ⟨f2, h2⟩
        · rw [f1]; exact .inl h2
        · exact .inr ⟨f1.trans f2, by omega⟩
theorem ltP_tri (a b : Pl) : ltP a b = true ∨ a = b ∨ ltP b a = true := by
  rw [ltP_iff, ltP_iff]
  rcases Int.lt_trichotomy a.u b.u with h | h | h
  · exact .inl (.inl h)
  · rcases lt_tri a.k.toList b.k.toList with g | g | g
    · exact .inl (.inr ⟨h, .inl g⟩)
    · rcases Nat.lt_trichotomy a.i b.i with f | f | f
      · exact .inl (.inr ⟨h, .inr ⟨g, f⟩⟩)
      · refine .inr (.inl ?_)
        cases a; cases b; simp only at h g f; rw [h, toL_inj g, f]
      · exact .inr (.inr (.inr ⟨h.symm, .inr ⟨g.symm, f⟩⟩))
    · exact .inr (.inr (.inr ⟨h.symm, .inl g⟩))
  · exact .inr (.inr (.inl h))
theorem ltP_asym {a b : Pl} (h : ltP a b = true) : ltP b a = false := by
  cases h2 : ltP b a with
  | false => rfl
  | true => have := ltP_tr h h2; rw [ltP_irr] at this; cases this
/-- At most: not behind. -/
def leP (a b : Pl) : Prop := ltP b a = false
theorem leP_refl (a : Pl) : leP a a := ltP_irr a
theorem leP_of_lt {a b : Pl} (h : ltP a b = true) : leP a b := ltP_asym h
theorem leP_tr {a b c : Pl} (h1 : leP a b) (h2 : leP b c) : leP a c := by
  unfold leP at *
  cases h : ltP c a with
  | false => rfl
  | true =>
    rcases ltP_tri a b with g | g | g
    · rw [ltP_tr h g] at h2; cases h2
    · subst g; rw [h] at h2; cases h2
    · rw [g] at h1; cases h1

/-! ### Rows: two cells changed -/
/-- Two changed with one another. -/
def swp (q : List Pl) (i j : Nat) : List Pl :=
  match q[i]?, q[j]? with
  | some a, some b => (q.set i b).set j a
  | _, _ => q
theorem swp_eq {q : List Pl} {i j : Nat} (hi : i < q.length) (hj : j < q.length) : swp q i j = (q.set i q[j]).set j q[i] := by
  unfold swp; rw [List.getElem?_eq_getElem hi, List.getElem?_eq_getElem hj]
theorem swp_len (q : List Pl) (i j : Nat) : (swp q i j).length = q.length := by
  unfold swp
  split
  · simp
  · rfl
theorem swp_at {q : List Pl} {i j : Nat} (hi : i < q.length) (hj : j < q.length) (m : Nat) (hm : m < (swp q i j).length) :
    (swp q i j)[m] = if m = j then q[i] else if m = i then q[j] else q[m]'(by rw [swp_len] at hm; exact hm) := by
  simp only [swp_eq hi hj, List.getElem_set]
  by_cases h1 : j = m
  · rw [if_pos h1, if_pos h1.symm]
  · rw [if_neg h1, if_neg (show ¬ m = j from fun h => h1 h.symm)]
    by_cases h2 : i = m
    · rw [if_pos h2, if_pos h2.symm]
    · rw [if_neg h2, if_neg (show ¬ m = i from fun h => h2 h.symm)]
theorem set_perm_aux {l : List Pl} {i : Nat} (h : i < l.length) (x : Pl) : (l[i] :: l.set i x).Perm (x :: l) := by
  induction l generalizing i with
  | nil => simp at h
  | cons y l ih =>
    cases i with
    | zero => simp only [List.getElem_cons_zero, List.set_cons_zero]; exact List.Perm.swap _ _ _
    | succ i =>
      simp only [List.getElem_cons_succ, List.set_cons_succ]
      exact ((List.Perm.swap _ _ _).trans (List.Perm.cons y (ih (by simpa using h)))).trans (List.Perm.swap _ _ _)
theorem swp_perm (q : List Pl) (i j : Nat) : (swp q i j).Perm q := by
  unfold swp
  split
  · rename_i a b ha hb
    obtain ⟨hi, rfl⟩ := List.getElem?_eq_some_iff.1 ha
    obtain ⟨hj, rfl⟩ := List.getElem?_eq_some_iff.1 hb
    have h1 := set_perm_aux hi q[j]
    have hj' : j < (q.set i q[j]).length := by simpa using hj
    have h2 := set_perm_aux hj' q[i]
    have e : (q.set i q[j])[j] = q[j] := by rw [List.getElem_set]; split <;> rfl
    rw [e] at h2
    have h3 : (q[j] :: (q.set i q[j]).set j q[i]).Perm (q[j] :: q) := h2.trans h1
    exact (List.perm_cons _).1 h3
  · exact List.Perm.refl _

/-! ### Heaps -/
/-- The first n are a heap but for the edges that lead down to c. -/
structure Up (q : List Pl) (c : Nat) : Prop where
  edge : ∀ m, (h : m < q.length) → 0 < m → m ≠ c → leP (q[(m - 1) / 2]'(by omega)) q[m]
  over : ∀ m, (h : m < q.length) → (h0 : 0 < m) → (h1 : (m - 1) / 2 = c) → (h2 : 0 < c) → leP (q[(c - 1) / 2]'(by omega)) q[m]
def Heap (q : List Pl) : Prop := ∀ m, (h : m < q.length) → 0 < m → leP (q[(m - 1) / 2]'(by omega)) q[m]
theorem up_start {q : List Pl} {x : Pl} (h : Heap q) : Up (q ++ [x]) q.length := by
  refine ⟨fun m hm h0 hc => ?_, fun m hm h0 hp _ => ?_⟩
  · have hm' : m < q.length := by simp at hm; omega
    rw [List.getElem_append_left hm', List.getElem_append_left (by omega)]
    exact h m hm' h0
  · exfalso; simp at hm; omega
theorem up_done {q : List Pl} {c : Nat} (h : Up q c) (hc : c < q.length) (he : c = 0 ∨ ltP q[c] (q[(c - 1) / 2]'(by omega)) = false) : Heap q := fun m hm h0 => by
  by_cases hmc : m = c
  · subst hmc
    rcases he with he | he
    · omega
    · exact he
  · exact h.edge m hm h0 hmc
theorem up_step {q : List Pl} {c : Nat} (h : Up q c) (hc : c < q.length) (h0 : 0 < c) (he : ltP q[c] (q[(c - 1) / 2]'(by omega)) = true) : Up (swp q ((c - 1) / 2) c) ((c - 1) / 2) := by
  have hp : (c - 1) / 2 < q.length := by omega
  have hpc : (c - 1) / 2 < c := by omega
  have hle : leP q[c] (q[(c - 1) / 2]'hp) := leP_of_lt he
  refine ⟨fun m hm hm0 hmp => ?_, fun m hm hm0 hmp hpp => ?_⟩
  · rw [swp_len] at hm
    rw [swp_at hp hc, swp_at hp hc]
    by_cases h1 : m = c
    · subst h1
      rw [if_neg (by omega), if_pos rfl, if_pos rfl]
      exact hle
    · rw [if_neg h1, if_neg hmp]
      by_cases h2 : (m - 1) / 2 = c
      · rw [if_pos h2]
        exact h.over m hm hm0 h2 h0
      · rw [if_neg h2]
        by_cases h3 : (m - 1) / 2 = (c - 1) / 2
        · rw [if_pos h3]
          have := h.edge m hm hm0 h1
          simp only [h3] at this
          exact leP_tr hle this
        · rw [if_neg h3]
          exact h.edge m hm hm0 h1
  · rw [swp_len] at hm
    have hg : leP (q[((c - 1) / 2 - 1) / 2]'(by omega)) (q[(c - 1) / 2]'hp) := h.edge _ hp hpp (by omega)
    rw [swp_at hp hc, swp_at hp hc, if_neg (by omega), if_neg (by omega)]
    by_cases h1 : m = c
    · rw [if_pos h1]; exact hg
    · rw [if_neg h1, if_neg (by omega)]
      have := h.edge m hm hm0 h1
      simp only [hmp] at this
      exact leP_tr hg this

/-- The first n are a heap but for the edges that lead down from c. -/
structure Dn (q : List Pl) (n c : Nat) : Prop where
  le : n ≤ q.length
  edge : ∀ m, (h : m < n) → 0 < m → (m - 1) / 2 ≠ c → leP (q[(m - 1) / 2]'(by omega)) (q[m]'(by omega))
  over : ∀ m, (h : m < n) → (h0 : 0 < m) → (h1 : (m - 1) / 2 = c) → (h2 : 0 < c) → leP (q[(c - 1) / 2]'(by omega)) (q[m]'(by omega))
theorem dn_done {q : List Pl} {n c : Nat} (h : Dn q n c) (h1 : (g : 2 * c + 1 < n) → leP (q[c]'(by have := h.le; omega)) (q[2 * c + 1]'(by have := h.le; omega))) (h2 : (g : 2 * c + 2 < n) → leP (q[c]'(by have := h.le; omega)) (q[2 * c + 2]'(by have := h.le; omega))) : Heap (q.take n) := fun m hm h0 => by
  have hl := h.le
  have hm' : m < n := by rw [List.length_take] at hm; omega
  rw [List.getElem_take, List.getElem_take]
  by_cases hc : (m - 1) / 2 = c
  · have hmm : m = 2 * c + 1 ∨ m = 2 * c + 2 := by omega
    rcases hmm with rfl | rfl
    · simp only [hc]; exact h1 hm'
    · simp only [hc]; exact h2 hm'
  · exact h.edge m hm' h0 hc
/-- One step down: the child j comes up, and it is not behind the other child. -/
theorem dn_step {q : List Pl} {n c j : Nat} (h : Dn q n c) (hj : j = 2 * c + 1 ∨ j = 2 * c + 2) (hjn : j < n) (hlt : ltP (q[j]'(by have := h.le; omega)) (q[c]'(by have := h.le; omega)) = true)
    (ho : ∀ m, (g : m < n) → 0 < m → (m - 1) / 2 = c → leP (q[j]'(by have := h.le; omega)) (q[m]'(by have := h.le; omega))) : Dn (swp q c j) n j := by
  have hl := h.le
  have hc' : c < q.length := by omega
  have hj' : j < q.length := by omega
  refine ⟨by rw [swp_len]; exact hl, fun m hm h0 hp => ?_, fun m hm h0 hp _ => ?_⟩
  · rw [swp_at hc' hj', swp_at hc' hj']
    rw [if_neg hp]
    by_cases h1 : m = j
    · subst h1
      rw [if_pos rfl, if_pos (by omega)]
      exact leP_of_lt hlt
    · rw [if_neg h1]
      by_cases h2 : (m - 1) / 2 = c
      · rw [if_pos h2, if_neg (by omega)]
        exact ho m hm h0 h2
      · rw [if_neg h2]
        by_cases h3 : m = c
        · subst h3
          rw [if_pos rfl]
          exact h.over j hjn (by omega) (by omega) (by omega)
        · rw [if_neg h3]
          exact h.edge m hm h0 h2
  · rw [swp_at hc' hj', swp_at hc' hj']
    rw [if_neg (by omega), if_pos (by omega), if_neg (by omega), if_neg (by omega)]
    have := h.edge m hm h0 (by omega)
    simp only [hp] at this
    exact this
/-- The least one lies ahead. -/
theorem heap_min {q : List Pl} (h : Heap q) : ∀ m, (hm : m < q.length) → leP (q[0]'(by omega)) q[m] := by
  intro m
  induction m using Nat.strongRecOn with
  | _ m ih =>
    intro hm
    by_cases h0 : m = 0
    · subst h0; exact leP_refl _
    · exact leP_tr (ih ((m - 1) / 2) (by omega) (by omega)) (h m hm (by omega))
/-- A heap whose first and last are changed: but the last, it is one but for the first's edges. -/
theorem dn_start {q : List Pl} {n : Nat} (h : Heap q) (hn : q.length = n + 1) : Dn (swp q 0 n) n 0 := by
  refine ⟨by rw [swp_len]; omega, fun m hm h0 hp => ?_, fun m hm h0 hp hc => by omega⟩
  rw [swp_at (by omega) (by omega), swp_at (by omega) (by omega), if_neg (by omega), if_neg (by omega), if_neg (by omega), if_neg (by omega)]
  exact h m (by omega) h0

/-! ### In order -/
/-- In order, none twice. -/
def Srt (s : List Pl) : Prop := s.Pairwise fun a b => ltP a b = true
/-- The least one of a row that has what an ordered row has is the ordered row's first. -/
theorem least_first {x y : Pl} {q s : List Pl} (hs : Srt (y :: s)) (hp : (x :: q).Perm (y :: s)) (hx : ∀ z ∈ x :: q, leP x z) : x = y ∧ q.Perm s := by
  have hxy : x = y := by
    have h1 : x ∈ y :: s := hp.mem_iff.1 (List.mem_cons_self)
    have h2 : leP x y := hx y (hp.mem_iff.2 (List.mem_cons_self))
    rcases List.mem_cons.1 h1 with h1 | h1
    · exact h1
    · have := (List.pairwise_cons.1 hs).1 x h1
      unfold leP at h2; rw [this] at h2; cases h2
  subst hxy
  exact ⟨rfl, (List.perm_cons _).1 hp⟩
end Go.Proofs.YtgnkcgmmmkfkkaaDoor.Hep
