/- Plain words for a log on a disk: the steps of an append, what they leave, and what is found then, whenever the power fails. No Go program here. -/
import Derived.Test.YtjcgggheablpeaaWMath
namespace Go.Proofs.Ytjcgggheablpeaa.Wal
open Frm Dis.Dk

structure DD where
  S : List (List UInt8)
  W : Ws
  L : Int
  O : Bool
def lfw (L : Int) (k : Nat) : Int := if L < 0 then L else L - k
def wrD (i : Int) (bs : List (List UInt8)) (D : DD) : DD × Int :=
  if D.O = true then (⟨D.S, D.W, D.L, true⟩, 10)
  else if D.L < 0 ∨ (bs.length : Int) ≤ D.L then (⟨D.S, D.W ++ wsA i bs, lfw D.L bs.length, false⟩, 0)
  else (⟨D.S, D.W ++ wsA i (bs.take D.L.toNat), lfw D.L D.L.toNat, true⟩, 10)
def wrC (i : Int) (bs : List (List UInt8)) (D : DD) : DD × Int := if bs = [] then (D, 0) else wrD i bs D
def flD (D : DD) : DD × Int := if spO D.L D.O = true then (⟨D.S, D.W, spL D.L D.O, true⟩, 10) else (⟨done (fun _ => true) 0 D.W D.S, [], spL D.L D.O, false⟩, 0)
def runD : List (DD → DD × Int) → DD → DD × Int
  | [], D => (D, 0)
  | δ :: r, D => if (δ D).2 = 0 then runD r (δ D).1 else δ D
/-- A disk that may be, with no more writes that wait than so many. -/
structure Fit (D : DD) (t : Nat) : Prop where
  may : Dis.Dk.may D.S D.W D.L = true
  w_ : D.W.length ≤ t
  l2 : D.L ≤ 9223372036854775807
  two : 2 ≤ D.S.length
theorem Fit.more {D : DD} {t t' : Nat} (h : Fit D t) (ht : t ≤ t') : Fit D t' := ⟨h.may, by have := h.w_; omega, h.l2, h.two⟩
theorem may_wr {S : List (List UInt8)} {W : Ws} {L L' : Int} (h : may S W L = true) (hL : -1 ≤ L') (i : Nat) (bs : List (List UInt8)) (hb : ∀ b ∈ bs, b.length = 64) (hi : i + bs.length ≤ S.length) : may S (W ++ wsA (i : Int) bs) L' = true := by
  rw [may_iff] at h ⊢
  obtain ⟨h1, h2, _, h4, h5⟩ := h
  refine ⟨h1, h2, hL, h4, fun p hp => ?_⟩
  rcases List.mem_append.1 hp with hp | hp
  · exact h5 p hp
  · obtain ⟨q1, q2, q3⟩ := wsA_mem _ _ _ hp
    exact ⟨hb _ q1, by omega, by omega⟩
theorem Fit.wr {D : DD} {t : Nat} (h : Fit D t) (i : Nat) (bs : List (List UInt8)) (hb : ∀ b ∈ bs, b.length = 64) (hi : i + bs.length ≤ D.S.length) : Fit (wrC i bs D).1 (t + bs.length) ∧ (wrC i bs D).1.S = D.S := by
  have hl : -1 ≤ D.L := ((may_iff _ _ _).1 h.may).2.2.1
  have hw := h.w_
  have hl2 := h.l2
  unfold wrC wrD
  split
  · exact ⟨h.more (by omega), rfl⟩
  split
  · exact ⟨⟨h.may, by simp only; omega, h.l2, h.two⟩, rfl⟩
  split
  · rename_i h3
    refine ⟨⟨may_wr h.may ?_ i bs hb hi, by simp only [List.length_append, wsA_len]; omega, ?_, h.two⟩, rfl⟩ <;> simp only [lfw] <;> split <;> omega
  · rename_i h3
    have hk : D.L.toNat ≤ bs.length := by omega
    refine ⟨⟨may_wr h.may ?_ i _ (fun b hx => hb b (List.mem_of_mem_take hx)) (by rw [List.length_take]; omega), by simp only [List.length_append, wsA_len, List.length_take]; omega, ?_, h.two⟩, rfl⟩ <;> simp only [lfw] <;> split <;> omega
theorem Fit.fl {D : DD} {t : Nat} (h : Fit D t) : Fit (flD D).1 t ∧ (flD D).1.S.length = D.S.length := by
  have hl : -1 ≤ D.L := ((may_iff _ _ _).1 h.may).2.2.1
  have hl2 := h.l2
  have hs2 : spL D.L D.O ≤ 9223372036854775807 := by unfold spL; split <;> omega
  unfold flD
  split
  · refine ⟨⟨?_, h.w_, hs2, h.two⟩, rfl⟩
    have := (may_iff _ _ _).1 h.may
    exact (may_iff _ _ _).2 ⟨this.1, this.2.1, spL_lo _ hl, this.2.2.2⟩
  · exact ⟨⟨may_done h.may _ _ (spL_lo _ hl), Nat.zero_le _, hs2, by simp only; rw [done_len]; exact h.two⟩, done_len _ _ _ _⟩

theorem chunk_drop (b : List UInt8) (k : Nat) : chunk (b.drop 64) k = chunk b (k + 1) := by
  unfold chunk
  rw [List.drop_drop]
  congr 2
  omega
theorem chunks_drop (b : List UInt8) (k : Nat) : chunks b (k + 1) = b.take 64 :: chunks (b.drop 64) k := by
  unfold chunks
  rw [List.range_succ_eq_map]
  simp only [List.map_cons, List.map_map]
  congr 1
  apply List.map_congr_left
  intro j _
  exact (chunk_drop b j).symm
theorem chunks_mem {b : List UInt8} {k : Nat} (h : b.length = 64 * k) : ∀ c ∈ chunks b k, c.length = 64 := by
  intro c hc
  unfold chunks at hc
  rw [List.mem_map] at hc
  obtain ⟨j, hj, rfl⟩ := hc
  exact chunk_len b j (by have := List.mem_range.1 hj; omega)
theorem chunks_flat (k : Nat) : ∀ {b : List UInt8}, b.length = 64 * k → (chunks b k).flatten = b := by
  induction k with
  | zero => intro b h; have : b = [] := List.eq_nil_of_length_eq_zero (by omega); subst this; rfl
  | succ k ih =>
    intro b h
    rw [chunks_drop, List.flatten_cons, ih (by rw [List.length_drop]; omega), List.take_append_drop]

/-- The steps of an append: k sectors from some place on, of so many octets. -/
def appSteps (i k : Nat) (l : List UInt8) : List (DD → DD × Int) :=
  [wrC ((i + 1 : Nat) : Int) (chunks (l.drop 64) (k - 1)), wrC ((i + k : Nat) : Int) [nz], flD, wrC (i : Int) [l.take 64], flD]
/-- What an append leaves. -/
def appS (S : List (List UInt8)) (i k : Nat) (l : List UInt8) : List (List UInt8) := S.take i ++ (chunks l k ++ [nz]) ++ S.drop (i + k + 1)
theorem appS_len {S : List (List UInt8)} {i k : Nat} {l : List UInt8} (h : i + k + 1 ≤ S.length) : (appS S i k l).length = S.length := by
  unfold appS
  simp only [List.length_append, List.length_take, List.length_drop, chunks_len, List.length_cons, List.length_nil]
  omega
theorem lfw_add (L : Int) (a b : Nat) (h : L < 0 ∨ (a : Int) ≤ L) : lfw (lfw L a) b = lfw L (a + b) := by
  unfold lfw
  split
  · rfl
  · rw [if_neg (by omega)]; omega
theorem lfw_zero (L : Int) : lfw L 0 = L := by unfold lfw; split <;> omega

/-- One write, or a flush, with power and without. -/
theorem wrC_on {D : DD} {i : Int} {bs : List (List UInt8)} (hO : D.O = false) (h : D.L < 0 ∨ (bs.length : Int) ≤ D.L) : wrC i bs D = (⟨D.S, D.W ++ wsA i bs, lfw D.L bs.length, false⟩, 0) := by
  unfold wrC wrD
  obtain ⟨S, W, L, O⟩ := D
  simp only at hO h ⊢
  subst hO
  split
  · rename_i h0; subst h0; simp [wsA, lfw_zero]
  · first | rfl | rw [if_pos h] | rw [if_neg (by simp), if_pos h]
theorem wrC_off {D : DD} {i : Int} {bs : List (List UInt8)} (hO : D.O = false) (h : ¬ (D.L < 0 ∨ (bs.length : Int) ≤ D.L)) : wrC i bs D = (⟨D.S, D.W ++ wsA i (bs.take D.L.toNat), lfw D.L D.L.toNat, true⟩, 10) := by
  unfold wrC wrD
  rw [if_neg (by rintro rfl; apply h; right; simp; omega), if_neg (by simp [hO]), if_neg h]
theorem flD_on {D : DD} (hO : D.O = false) (h : D.L ≠ 0) : flD D = (⟨done (fun _ => true) 0 D.W D.S, [], lfw D.L 1, false⟩, 0) := by
  unfold flD spO spL lfw
  rw [if_neg (by simp [hO, h])]
  congr 2
  by_cases h1 : 0 < D.L
  · rw [if_pos ⟨h1, hO⟩, if_neg (by omega)]; omega
  · rw [if_neg (by omega), if_pos (by omega)]
theorem flD_off {D : DD} (h : D.L = 0) : flD D = (⟨D.S, D.W, 0, true⟩, 10) := by
  unfold flD spO spL
  rw [if_pos (by simp [h]), h]
  simp
/-- How an append ends: done, or cut off. -/
def Ends (S : List (List UInt8)) (L : Int) (i k : Nat) (l : List UInt8) (q : DD × Int) : Prop :=
  (q.2 = 0 ∧ q.1 = ⟨appS S i k l, [], lfw L (k + 3), false⟩ ∧ (L < 0 ∨ ((k + 3 : Nat) : Int) ≤ L)) ∨
  (q.2 = 10 ∧ 0 ≤ L ∧ ∀ keep, (done keep 0 q.1.W q.1.S).length = S.length ∧ ((done keep 0 q.1.W q.1.S).take (i + 1) = S.take (i + 1) ∨ done keep 0 q.1.W q.1.S = appS S i k l))
theorem done_take (keep : Nat → Bool) (W : Ws) : ∀ (k : Nat) (S : List (List UInt8)) (i : Nat), (∀ p ∈ W, (i : Int) ≤ p.1) → (done keep k W S).take i = S.take i := by
  induction W with
  | nil => intro k S i _; rfl
  | cons p r ih =>
    intro k S i h
    unfold done
    rw [ih _ _ _ (fun q hq => h q (List.mem_cons_of_mem _ hq))]
    split
    · have := h p List.mem_cons_self
      rw [List.take_set_of_le (by omega)]
    · rfl
theorem app_ends {S : List (List UInt8)} {L : Int} {i k : Nat} {l : List UInt8} (hk : 1 ≤ k) (hl : l.length = 64 * k) (hi : i + k + 1 ≤ S.length) : Ends S L i k l (runD (appSteps i k l) ⟨S, [], L, false⟩) := by
  obtain ⟨j, rfl⟩ : ∃ j, k = j + 1 := ⟨k - 1, by omega⟩
  unfold appSteps
  simp only [Nat.add_sub_cancel]
  obtain ⟨C, hC⟩ : ∃ C, C = chunks (l.drop 64) j := ⟨_, rfl⟩
  have hCl : C.length = j := by rw [hC, chunks_len]
  have hap : done (fun _ => true) 0 (wsA ((i + 1 : Nat) : Int) C ++ wsA ((i + (j + 1) : Nat) : Int) [nz]) S = S.take (i + 1) ++ (C ++ [nz]) ++ S.drop (i + 1 + (j + 1)) := by
    rw [done_ap, show i + (j + 1) = i + 1 + C.length by omega, ← wsA_app, ap_run _ _ _ (by simp; omega)]
    simp only [List.length_append, List.length_cons, List.length_nil, hCl, Nat.zero_add]
  have hS2 : (S.take (i + 1) ++ (C ++ [nz]) ++ S.drop (i + 1 + (j + 1))).set i (l.take 64) = appS S i (j + 1) l := by
    unfold appS
    rw [chunks_drop, ← hC]
    apply List.ext_getElem?
    intro x
    simp only [List.getElem?_set, List.getElem?_append, List.getElem?_cons, List.length_append, List.length_take, List.length_cons, List.length_nil, List.getElem?_take, List.getElem?_drop, hCl]
    have e1 : min (i + 1) S.length = i + 1 := by omega
    have e2 : min i S.length = i := by omega
    simp only [e1, e2, List.length_drop]
    by_cases h1 : x < i
    · simp [h1, show x < i + 1 by omega, show x < i + (j + 1 + 1) by omega, show x < i + 1 + (j + 1) by omega, show ¬ i = x by omega]
    · by_cases h2 : x = i
      · subst h2
        simp [show x < x + 1 + (j + 1) + (S.length - (x + 1 + (j + 1))) by omega]
      · have h3 : ¬ i = x := by omega
        obtain ⟨y, rfl⟩ : ∃ y, x = i + 1 + y := ⟨x - (i + 1), by omega⟩
        simp only [if_neg h3, show ¬ i + 1 + y < i by omega, if_false, show ¬ i + 1 + y < i + 1 by omega, show i + 1 + y - i = y + 1 by omega, show i + 1 + y - (i + 1) = y by omega]
        by_cases h4 : y < j
        · simp [h4, show i + 1 + y < i + 1 + (j + 1) by omega, show i + 1 + y < i + (j + 1 + 1) by omega]
        · by_cases h5 : y = j
          · subst h5
            simp [show i + 1 + y < i + 1 + (y + 1) by omega, show i + 1 + y < i + (y + 1 + 1) by omega]
          · simp only [show ¬ i + 1 + y < i + 1 + (j + 1) by omega, show ¬ i + 1 + y < i + (j + 1 + 1) by omega, if_false]
            congr 1
            omega
  have htk : ∀ keep k2 (W : Ws) (S0 : List (List UInt8)), (∀ p ∈ W, ((i + 1 : Nat) : Int) ≤ p.1) → S0.length = S.length → S0.take (i + 1) = S.take (i + 1) → (done keep k2 W S0).length = S.length ∧ ((done keep k2 W S0).take (i + 1) = S.take (i + 1) ∨ done keep k2 W S0 = appS S i (j + 1) l) := fun keep k2 W S0 h1 h2 h3 =>
    ⟨by rw [done_len]; exact h2, .inl (by rw [done_take keep W k2 S0 (i + 1) h1]; exact h3)⟩
  have hS1l : (S.take (i + 1) ++ (C ++ [nz]) ++ S.drop (i + 1 + (j + 1))).length = S.length := by
    simp only [List.length_append, List.length_take, List.length_drop, List.length_cons, List.length_nil, hCl]; omega
  have hS1t : (S.take (i + 1) ++ (C ++ [nz]) ++ S.drop (i + 1 + (j + 1))).take (i + 1) = S.take (i + 1) := by
    rw [List.append_assoc, List.take_append_of_le_length (by rw [List.length_take]; omega), List.take_take]
    congr 1
    omega
  have hm1 : ∀ p ∈ wsA ((i + 1 : Nat) : Int) C ++ wsA ((i + (j + 1) : Nat) : Int) [nz], ((i + 1 : Nat) : Int) ≤ p.1 := by
    intro p hp
    rcases List.mem_append.1 hp with hp | hp
    · exact (wsA_mem _ _ _ hp).2.1
    · have := (wsA_mem _ _ _ hp).2.1
      omega
  rw [← hC]
  by_cases c1 : L < 0 ∨ (C.length : Int) ≤ L
  · rw [runD, wrC_on rfl c1, if_pos rfl, runD]
    simp only [List.nil_append]
    by_cases c2 : L < 0 ∨ ((j + 1 : Nat) : Int) ≤ L
    · have c2' : lfw L C.length < 0 ∨ (([nz] : List (List UInt8)).length : Int) ≤ lfw L C.length := by unfold lfw; simp only [List.length_cons, List.length_nil]; split <;> omega
      rw [wrC_on rfl c2', if_pos rfl, runD]
      simp only [List.length_cons, List.length_nil, Nat.zero_add]
      rw [lfw_add _ _ _ c1, hCl]
      by_cases c3 : lfw L (j + 1) = 0
      · rw [flD_off c3, if_neg (by simp)]
        refine .inr ⟨rfl, by unfold lfw at c3; split at c3 <;> omega, fun keep => htk keep _ _ _ hm1 rfl rfl⟩
      · rw [flD_on rfl c3, if_pos rfl, runD]
        simp only
        rw [hap, lfw_add _ _ _ c2]
        have c3' : L < 0 ∨ ((j + 1 + 1 : Nat) : Int) ≤ L := by unfold lfw at c3; split at c3 <;> omega
        by_cases c4 : lfw L (j + 1 + 1) = 0
        · have hL : L = ((j + 1 + 1 : Nat) : Int) := by unfold lfw at c4; split at c4 <;> omega
          rw [wrC_off rfl (by rw [c4]; simp), if_neg (by simp)]
          refine .inr ⟨rfl, by omega, fun keep => ?_⟩
          simp only [c4]
          simp only [Int.toNat_zero, List.take_zero, wsA, List.append_nil]
          exact htk keep 0 [] _ (fun p hp => by cases hp) hS1l hS1t
        · rw [wrC_on rfl (by unfold lfw at c4 ⊢; simp only [List.length_cons, List.length_nil]; split <;> rename_i hh <;> simp only [hh, if_true, if_false] at c4 <;> omega), if_pos rfl, runD]
          simp only [List.length_cons, List.length_nil, Nat.zero_add, List.nil_append]
          rw [lfw_add _ _ _ c3']
          have c4' : L < 0 ∨ ((j + 1 + 1 + 1 : Nat) : Int) ≤ L := by unfold lfw at c4; split at c4 <;> omega
          by_cases c5 : lfw L (j + 1 + 1 + 1) = 0
          · rw [flD_off c5, if_neg (by simp)]
            refine .inr ⟨rfl, by unfold lfw at c5; split at c5 <;> omega, fun keep => ?_⟩
            simp only [wsA, done, Int.toNat_natCast]
            split
            · exact ⟨by rw [List.length_set]; exact hS1l, .inr hS2⟩
            · exact ⟨hS1l, .inl hS1t⟩
          · rw [flD_on rfl c5, if_pos rfl, runD]
            refine .inl ⟨rfl, ?_, by unfold lfw at c5; split at c5 <;> omega⟩
            simp only [wsA, done, Int.toNat_natCast, if_true, hS2]
            rw [lfw_add _ _ _ c4']
    · have c2' : ¬ (lfw L C.length < 0 ∨ (([nz] : List (List UInt8)).length : Int) ≤ lfw L C.length) := by unfold lfw; simp only [List.length_cons, List.length_nil]; split <;> omega
      rw [wrC_off rfl c2', if_neg (by simp)]
      refine .inr ⟨rfl, by omega, fun keep => htk keep _ _ _ ?_ rfl rfl⟩
      intro p hp
      rcases List.mem_append.1 hp with hp | hp
      · exact hm1 p (List.mem_append_left _ hp)
      · have h2 := (wsA_mem _ _ _ hp).2.1
        omega
  · rw [runD, wrC_off rfl c1, if_neg (by simp)]
    refine .inr ⟨rfl, by omega, fun keep => htk keep _ _ _ ?_ rfl rfl⟩
    intro p hp
    simp only [List.nil_append] at hp
    exact (wsA_mem _ _ _ hp).2.1
end Go.Proofs.Ytjcgggheablpeaa.Wal
