/- Plain: those whose time is over, as the document has them; behind a lapse none is; as ticks go on more are. Conditions: none. -/
import Derived.Test.YtgnkcgmmmkfkkaaDoorP14
namespace Go.Proofs.YtgnkcgmmmkfkkaaDoor.Hep
open Go.RowKit Cht
open Hol (Hd FitH mayH lapseH noH fewH)

theorem op_split {x : Hd} (h : opH x = true) : mayH x = true ∧ x.op = true := by
  unfold opH at h; simpa using h
theorem over_is (x : Hd) (t : Int) : (lapseH x t).2 = (opH x && decide (x.un < t)) := by
  unfold opH
  cases hm : mayH x with
  | false => rw [Hol.lapse_1 hm]; rfl
  | true =>
    by_cases h : x.op = true ∧ x.un < t
    · rw [Hol.lapse_2 hm h, h.1, decide_eq_true h.2]; rfl
    · rw [Hol.lapse_3 hm h]
      cases ho : x.op with
      | false => rfl
      | true => rw [decide_eq_false (fun e => h ⟨ho, e⟩)]; rfl
/-- One of a list, lapsed if it may be. -/
def lap1 (t : Int) (x : Hd) : Hd := if mayH x = true then (lapseH x t).1 else x
def lapped (l : List Hd) (t : Int) : List Hd := l.map (lap1 t)
theorem lap1_no {x : Hd} {t : Int} (h : (lapseH x t).2 = false) : lap1 t x = x := by
  unfold lap1
  split
  · rename_i hm
    by_cases h2 : x.op = true ∧ x.un < t
    · rw [Hol.lapse_2 hm h2] at h; cases h
    · rw [Hol.lapse_3 hm h2]
  · rfl
theorem lap1_yes {x : Hd} {t : Int} (h : (lapseH x t).2 = true) : lap1 t x = (lapseH x t).1 := by
  unfold lap1
  rw [if_pos]
  cases hm : mayH x with
  | true => rfl
  | false => rw [Hol.lapse_1 hm] at h; cases h
theorem filter_none {S : List Pl} {t : Int} (h : ∀ p ∈ S, ¬ p.u < t) : S.filter (fun p => decide (p.u < t)) = [] := by
  rw [List.filter_eq_nil_iff]
  intro p hp
  simpa using h p hp
theorem lt_until {a b : Pl} (h : ltP a b = true) : a.u ≤ b.u := by
  rcases ltP_iff.1 h with h | ⟨h, _⟩ <;> omega
theorem tk_due (l : List Hd) (t : Int) (S : List Pl) (k : Nat) (hs : Srt S) (hm : ∀ p ∈ S, ∃ hk : p.i < l.length, opH l[p.i] = true ∧ p = plc l[p.i] p.i) : tkP (dueQ l t) k S = (S.filter fun p => decide (p.u < t)).map (·.i) := by
  induction S generalizing k with
  | nil => rfl
  | cons x S ih =>
    obtain ⟨h1, h2⟩ := List.pairwise_cons.1 hs
    obtain ⟨hk, ho, he⟩ := hm x List.mem_cons_self
    have hq : dueQ l t k x.i = decide (x.u < t) := by
      rw [dueQ_at hk, over_is, ho]
      have : x.u = l[x.i].un := congrArg Pl.u he
      rw [← this]; rfl
    by_cases hd : x.u < t
    · rw [tk_yes (by rw [hq]; exact decide_eq_true hd), ih (k + 1) h2 (fun p hp => hm p (List.mem_cons_of_mem _ hp)), List.filter_cons_of_pos (by simpa using hd)]
      rfl
    · rw [tk_no (by rw [hq]; exact decide_eq_false hd), filter_none]
      · rfl
      · intro p hp
        rcases List.mem_cons.1 hp with rfl | hp
        · exact hd
        · have := lt_until (h1 p hp); omega
theorem due_is (l : List Hd) (t : Int) : dueL l t = dueR l t := tk_due l t (ordL l) 0 (ord_srt l) (fun _ hp => ord_mem hp)
theorem due_iff {l : List Hd} {t : Int} {i : Nat} (hi : i < l.length) : i ∈ dueL l t ↔ (lapseH l[i] t).2 = true := by
  constructor
  · intro h
    obtain ⟨x, hx, rfl, j, hj⟩ := tk_mem h
    rw [dueQ_at hi] at hj; exact hj
  · intro h
    rw [over_is] at h
    have ho : opH l[i] = true := by cases q : opH l[i] with | true => rfl | false => rw [q] at h; cases h
    have hu : l[i].un < t := by rw [ho] at h; simpa using h
    rw [due_is]
    unfold dueR
    refine List.mem_map.2 ⟨plc l[i] i, List.mem_filter.2 ⟨?_, ?_⟩, rfl⟩
    · exact (ord_perm l).mem_iff.2 (opn_has hi hi ho)
    · exact decide_eq_true hu
theorem lapS_at (l : List Hd) (t : Int) (ds : List Nat) (hd : ∀ i ∈ ds, i < l.length) (k : Nat) (hk : k ≤ ds.length) (j : Nat) (hj : j < l.length) : (lapS l t (ds.take k))[j]? = some (if j ∈ ds.take k then (lapseH l[j] t).1 else l[j]) := by
  induction k with
  | zero => simp [lapS, hj]
  | succ k ih =>
    have hk' : k < ds.length := by omega
    have hdk := hd _ (List.getElem_mem hk')
    have hlen : ds[k] < (lapS l t (ds.take k)).length := by rw [lapS_len]; exact hdk
    rw [lapS_next hk' hdk, List.getElem?_set]
    have hmem : (j ∈ ds.take (k + 1)) ↔ (j ∈ ds.take k ∨ ds[k] = j) := by
      rw [List.take_succ_eq_append_getElem hk', List.mem_append, List.mem_singleton, eq_comm (a := j)]
    by_cases e : ds[k] = j
    · subst e
      rw [if_pos rfl, if_pos hlen, if_pos (hmem.2 (.inr rfl))]
    · rw [if_neg e, ih (by omega)]
      by_cases h2 : j ∈ ds.take k
      · rw [if_pos h2, if_pos (hmem.2 (.inl h2))]
      · rw [if_neg h2, if_neg (fun h => (hmem.1 h).elim h2 e)]
theorem lapS_is (l : List Hd) (t : Int) : lapS l t (dueL l t) = lapped l t := by
  apply List.ext_getElem?
  intro j
  by_cases hj : j < l.length
  · have h := lapS_at l t (dueL l t) (fun i hi => due_mem hi) _ (Nat.le_refl _) j hj
    rw [List.take_length] at h
    rw [h]
    unfold lapped
    rw [List.getElem?_map, List.getElem?_eq_getElem hj]
    show some _ = some _
    congr 1
    by_cases hd : j ∈ dueL l t
    · rw [if_pos hd, lap1_yes ((due_iff hj).1 hd)]
    · rw [if_neg hd, lap1_no]
      cases q : (lapseH l[j] t).2 with
      | false => rfl
      | true => exact absurd ((due_iff hj).2 q) hd
  · rw [List.getElem?_eq_none (by rw [lapS_len]; omega), List.getElem?_eq_none (by unfold lapped; rw [List.length_map]; omega)]

/-! ### Two rows in order that have the same are the same -/
theorem srt_same {s s' : List Pl} (h : Srt s) (h' : Srt s') (hm : ∀ p, p ∈ s ↔ p ∈ s') : s = s' := by
  induction s generalizing s' with
  | nil =>
    cases s' with
    | nil => rfl
    | cons y s' => exact absurd ((hm y).2 List.mem_cons_self) (by simp)
  | cons x s ih =>
    cases s' with
    | nil => exact absurd ((hm x).1 List.mem_cons_self) (by simp)
    | cons y s' =>
      obtain ⟨h1, h2⟩ := List.pairwise_cons.1 h
      obtain ⟨h1', h2'⟩ := List.pairwise_cons.1 h'
      have hxy : x = y := by
        rcases List.mem_cons.1 ((hm x).1 List.mem_cons_self) with e | hx
        · exact e
        · rcases List.mem_cons.1 ((hm y).2 List.mem_cons_self) with e | hy
          · exact e.symm
          · have a := h1 y hy
            have b := h1' x hx
            have := ltP_tr a b
            rw [ltP_irr] at this; cases this
      subst hxy
      congr 1
      refine ih h2 h2' fun p => ⟨fun hp => ?_, fun hp => ?_⟩
      · rcases List.mem_cons.1 ((hm p).1 (List.mem_cons_of_mem _ hp)) with rfl | e
        · have := h1 p hp; rw [ltP_irr] at this; cases this
        · exact e
      · rcases List.mem_cons.1 ((hm p).2 (List.mem_cons_of_mem _ hp)) with rfl | e
        · have := h1' p hp; rw [ltP_irr] at this; cases this
        · exact e
theorem ord_iff {l : List Hd} {p : Pl} : p ∈ ordL l ↔ ∃ hk : p.i < l.length, opH l[p.i] = true ∧ p = plc l[p.i] p.i := by
  constructor
  · exact ord_mem
  · rintro ⟨hk, ho, he⟩
    rw [he]
    exact (ord_perm l).mem_iff.2 (opn_has hk hk ho)
theorem lap1_open {x : Hd} {t : Int} : opH (lap1 t x) = (opH x && !decide (x.un < t)) := by
  cases hv : (lapseH x t).2 with
  | false =>
    rw [lap1_no hv]
    rw [over_is] at hv
    cases ho : opH x with
    | false => rfl
    | true => rw [ho] at hv; simp at hv; simp; omega
  | true =>
    rw [lap1_yes hv]
    rw [over_is] at hv
    have ho : opH x = true := by cases q : opH x with | true => rfl | false => rw [q] at hv; cases hv
    rw [ho] at hv
    have hu : x.un < t := by simpa using hv
    obtain ⟨hm, hop⟩ := op_split ho
    rw [Hol.lapse_2 hm ⟨hop, hu⟩, ho, decide_eq_true hu]
    unfold opH; simp
theorem lap1_plc {x : Hd} {t : Int} (h : opH (lap1 t x) = true) : lap1 t x = x ∧ opH x = true ∧ ¬ x.un < t := by
  rw [lap1_open] at h
  have ho : opH x = true := by cases q : opH x with | true => rfl | false => rw [q] at h; cases h
  rw [ho] at h
  have hu : ¬ x.un < t := by simp at h; omega
  exact ⟨lap1_no (by rw [over_is, ho, decide_eq_false hu]; rfl), ho, hu⟩
/-- Behind a lapse those are left whose time is not over. -/
theorem ord_lapped (l : List Hd) (t : Int) : ordL (lapped l t) = (ordL l).filter fun p => !decide (p.u < t) := by
  refine srt_same (ord_srt _) ((ord_srt l).filter _) fun p => ?_
  rw [ord_iff, List.mem_filter, ord_iff]
  have hlen : (lapped l t).length = l.length := by unfold lapped; rw [List.length_map]
  have hget : ∀ h : p.i < l.length, (lapped l t)[p.i]'(by rw [hlen]; exact h) = lap1 t l[p.i] := fun h => by unfold lapped; rw [List.getElem_map]
  constructor
  · rintro ⟨hk, ho, he⟩
    have hk' : p.i < l.length := by rw [← hlen]; exact hk
    rw [hget hk'] at ho he
    obtain ⟨h1, h2, h3⟩ := lap1_plc ho
    rw [h1] at he
    refine ⟨⟨hk', h2, he⟩, ?_⟩
    have : p.u = l[p.i].un := congrArg Pl.u he
    rw [this, decide_eq_false h3]; rfl
  · rintro ⟨⟨hk, ho, he⟩, hu⟩
    have hpu : p.u = l[p.i].un := congrArg Pl.u he
    have hu' : ¬ l[p.i].un < t := by rw [← hpu]; simpa using hu
    have h1 : lap1 t l[p.i] = l[p.i] := lap1_no (by rw [over_is, ho, decide_eq_false hu']; rfl)
    refine ⟨by rw [hlen]; exact hk, ?_, ?_⟩
    · rw [hget hk, h1]; exact ho
    · rw [hget hk, h1]; exact he
theorem due_lapped (l : List Hd) (t t' : Int) : dueL (lapped l t) t' = (((ordL l).filter fun p => !decide (p.u < t)).filter fun p => decide (p.u < t')).map (·.i) := by
  rw [due_is]; unfold dueR; rw [ord_lapped]
theorem due_none (l : List Hd) (t : Int) : dueL (lapped l t) t = [] := by
  rw [due_lapped, filter_none]
  · rfl
  · intro p hp
    have := (List.mem_filter.1 hp).2
    simpa using this
/-- A row in order is those whose time is over, and then the others. -/
theorem srt_split {S : List Pl} (hs : Srt S) (t : Int) : S = (S.filter fun p => decide (p.u < t)) ++ S.filter fun p => !decide (p.u < t) := by
  induction S with
  | nil => rfl
  | cons x S ih =>
    obtain ⟨h1, h2⟩ := List.pairwise_cons.1 hs
    by_cases hd : x.u < t
    · rw [List.filter_cons_of_pos (by simpa using hd), List.filter_cons_of_neg (by simp [hd]), List.cons_append, ← ih h2]
    · have hn : ∀ p ∈ x :: S, ¬ p.u < t := fun p hp => by
        rcases List.mem_cons.1 hp with rfl | hp
        · exact hd
        · have := lt_until (h1 p hp); omega
      rw [filter_none hn, List.nil_append, List.filter_eq_self.2]
      intro p hp
      simpa using hn p hp
theorem due_more (l : List Hd) {t t' : Int} (h : t ≤ t') : dueL l t' = dueL l t ++ dueL (lapped l t) t' := by
  rw [due_lapped, due_is, due_is]
  unfold dueR
  have hs := srt_split (ord_srt l) t
  generalize hF : (ordL l).filter (fun p => decide (p.u < t)) = F at hs ⊢
  generalize hG : (ordL l).filter (fun p => !decide (p.u < t)) = G at hs ⊢
  rw [hs, List.filter_append, List.map_append]
  congr 2
  rw [List.filter_eq_self]
  intro p hp
  rw [← hF] at hp
  have := (List.mem_filter.1 hp).2
  simp at this ⊢
  omega
/-- The next one's time. -/
theorem next_due (l : List Hd) : (ordL l = [] ∧ nextL l = (0, 7)) ∨ ∃ x S, ordL l = x :: S ∧ nextL l = (x.u + 1, 0) ∧ dueL l x.u = [] ∧ x.i ∈ dueL l (x.u + 1) := by
  unfold nextL
  cases hS : ordL l with
  | nil => exact .inl ⟨rfl, rfl⟩
  | cons x S =>
    refine .inr ⟨x, S, rfl, rfl, ?_, ?_⟩
    · rw [due_is]; unfold dueR
      rw [filter_none]
      · rfl
      · intro p hp
        rw [hS] at hp
        rcases List.mem_cons.1 hp with rfl | hp
        · omega
        · have hs := ord_srt l
          rw [hS] at hs
          have := lt_until ((List.pairwise_cons.1 hs).1 p hp); omega
    · rw [due_is]; unfold dueR
      refine List.mem_map.2 ⟨x, List.mem_filter.2 ⟨by rw [hS]; exact List.mem_cons_self, ?_⟩, rfl⟩
      simp; omega
theorem next_late (l : List Hd) (t : Int) : ∀ x ∈ ordL (lapped l t), t ≤ x.u := fun x hx => by
  rw [ord_lapped] at hx
  have := (List.mem_filter.1 hx).2
  simp at this
  omega
theorem lap1_fit {x : Hd} {t : Int} (h : FitH x) : FitH (lap1 t x) := by
  unfold lap1
  split
  · rename_i hm
    by_cases h2 : x.op = true ∧ x.un < t
    · rw [Hol.lapse_2 hm h2]; exact ⟨h.r, h.a, h.p, h.ap, h.ca, h.un⟩
    · rw [Hol.lapse_3 hm h2]; exact h
  · exact h
theorem lapped_fit {l : List Hd} {t : Int} (h : ∀ x ∈ l, FitH x) : ∀ x ∈ lapped l t, FitH x := fun x hx => by
  obtain ⟨y, hy, rfl⟩ := List.mem_map.1 hx
  exact lap1_fit (h y hy)
end Go.Proofs.YtgnkcgmmmkfkkaaDoor.Hep
