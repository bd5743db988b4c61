/- Plain words for a log on a disk: where records stand, what an append writes, what is found behind it. No Go program here. -/
import Derived.Test.YtjcgggheablpeaaGF
import Derived.Test.YtjcgggheablpeaaGD
namespace Go.Proofs.Ytjcgggheablpeaa.Wal
open Frm Dis.Dk

def nz : List UInt8 := List.replicate 64 0
theorem nz_len : nz.length = 64 := by simp [nz]
/-- How many sectors, of any number of octets. -/
def sectZ (n : Int) : Int := if 0 ≤ n ∧ n ≤ 6000 then (n + 83) / 64 else 0
def placedB (n a : Int) : Bool := decide (2 ≤ n) && (decide (0 ≤ a) && decide (a < n))
def roomB (n a k : Int) : Bool := placedB n a && (decide (0 < sectZ k) && decide (sectZ k < n - a))
theorem placedB_iff {n a : Int} : placedB n a = true ↔ 2 ≤ n ∧ 0 ≤ a ∧ a < n := by simp [placedB]
theorem sectZ_nat {k : Nat} (h : k ≤ 6000) : sectZ k = sect k := by unfold sectZ sect; rw [if_pos (by omega)]; omega
theorem roomB_iff {n a : Int} {k : Nat} (h : k ≤ 6000) : roomB n a k = true ↔ 2 ≤ n ∧ 0 ≤ a ∧ a < n ∧ (sect k : Int) < n - a := by
  unfold roomB
  rw [Bool.and_eq_true, placedB_iff, sectZ_nat h]
  simp
  unfold sect
  omega
theorem sect_pos (k : Nat) : 1 ≤ sect k := by unfold sect; omega

/-- Is what octets begin with the record of this number, with room for it? -/
def okR (n : Int) (b : List UInt8) (a x : Int) : Prop := (rd b).2.2.2 = 0 ∧ ((rd b).1 : Int) = x ∧ roomB n a (rd b).2.1.length = true
instance (n : Int) (b : List UInt8) (a x : Int) : Decidable (okR n b a x) := by unfold okR; exact inferInstance
/-- What is found from some place on. -/
inductive Scans (n : Int) : List UInt8 → Int → Int → Ws → Int → Int → Prop
  | stop {b a x} (h : ¬ okR n b a x) : Scans n b a x [] a x
  | go {b a x fs a' x'} (h : okR n b a x) (t : Scans n (b.drop (rd b).2.2.1) (a + sectZ (rd b).2.1.length) (x + 1) fs a' x') : Scans n b a x ((x, (rd b).2.1) :: fs) a' x'
theorem rd_ok {b : List UInt8} (h : (rd b).2.2.2 = 0) : ∃ s d, rd b = (s, d, size d.length, 0) ∧ d.length ≤ 6000 ∧ size d.length ≤ b.length ∧ s < 281474976710656 := by
  unfold rd at h ⊢
  split at h
  · simp at h
  split at h
  · simp at h
  split at h
  · simp at h
  split at h
  · simp at h
  split at h
  · simp at h
  rename_i h1 h2 h3 h4 h5
  rw [if_neg h1, if_neg h2, if_neg h3, if_neg h4, if_neg h5]
  have hh : headOk b := Decidable.of_not_not h2
  have hc : cntOf b ≤ 6000 := hh.2.2
  have hsz := size_ge (cntOf b)
  have hd : (datOf b).length = cntOf b := dat_len b (by omega)
  refine ⟨seqOf b, datOf b, by rw [hd], by omega, by rw [hd]; omega, ?_⟩
  have := num_lt ((b.drop 4).take 6)
  have h6 : ((b.drop 4).take 6).length = 6 := by simp; omega
  rw [h6] at this
  exact this
theorem scans_ex (n : Int) (k : Nat) : ∀ (b : List UInt8) (a x : Int), (n - a).toNat ≤ k → ∃ fs a' x', Scans n b a x fs a' x' := by
  induction k with
  | zero =>
    intro b a x hk
    refine ⟨[], a, x, .stop fun h => ?_⟩
    have h3 := h.2.2
    unfold roomB at h3
    rw [Bool.and_eq_true, placedB_iff] at h3
    omega
  | succ k ih =>
    intro b a x hk
    by_cases h : okR n b a x
    · obtain ⟨fs, a', x', ht⟩ := ih (b.drop (rd b).2.2.1) (a + sectZ (rd b).2.1.length) (x + 1) (by
        have h3 := h.2.2
        unfold roomB at h3
        rw [Bool.and_eq_true] at h3
        have h4 := h3.2
        simp at h4
        omega)
      exact ⟨_, a', x', .go h ht⟩
    · exact ⟨[], a, x, .stop h⟩
theorem Scans.fun_ {n : Int} {b : List UInt8} {a x : Int} {fs : Ws} {a1 x1 : Int} (h : Scans n b a x fs a1 x1) : ∀ {gs : Ws} {a2 x2 : Int}, Scans n b a x gs a2 x2 → fs = gs ∧ a1 = a2 ∧ x1 = x2 := by
  induction h with
  | stop h =>
    intro gs a2 x2 k
    cases k with
    | stop _ => exact ⟨rfl, rfl, rfl⟩
    | go h' _ => exact absurd h' h
  | go h t ih =>
    intro gs a2 x2 k
    cases k with
    | stop h' => exact absurd h h'
    | go _ t' =>
      obtain ⟨rfl, rfl, rfl⟩ := ih t'
      exact ⟨rfl, rfl, rfl⟩

/-- Records laid down one behind the other. -/
def recs (fs : Ws) : List UInt8 := fs.flatMap fun p => lay p.1.toNat p.2
/-- Numbered records from a place on. -/
inductive Recs : Nat → Nat → Ws → Nat → Nat → Prop
  | nil (a x : Nat) : Recs a x [] a x
  | cons {a x : Nat} {d : List UInt8} {fs : Ws} {a' x' : Nat} (hd : d.length ≤ 6000) (h1 : 1 ≤ x) (h2 : x ≤ 281474976710655) (t : Recs (a + sect d.length) (x + 1) fs a' x') : Recs a x (((x : Int), d) :: fs) a' x'
theorem Recs.le {a x : Nat} {fs : Ws} {a' x' : Nat} (h : Recs a x fs a' x') : a + fs.length ≤ a' ∧ x' = x + fs.length := by
  induction h with
  | nil => exact ⟨Nat.le_refl _, rfl⟩
  | cons hd h1 h2 t ih =>
    rename_i a x d fs a' x'
    have := sect_pos d.length
    simp only [List.length_cons]
    omega
theorem Recs.snoc {a x : Nat} {fs : Ws} {a' x' : Nat} (h : Recs a x fs a' x') {d : List UInt8} (hd : d.length ≤ 6000) (h1 : 1 ≤ x') (h2 : x' ≤ 281474976710655) : Recs a x (fs ++ [((x' : Int), d)]) (a' + sect d.length) (x' + 1) := by
  induction h with
  | nil => exact .cons hd h1 h2 (.nil _ _)
  | cons hd' h1' h2' t ih => exact .cons hd' h1' h2' (ih h1 h2)
theorem recs_snoc (fs : Ws) (x : Nat) (d : List UInt8) : recs (fs ++ [((x : Int), d)]) = recs fs ++ lay x d := by simp [recs]
theorem rd_nz (r : List UInt8) : (rd (nz ++ r)).2.2.2 ≠ 0 := by
  unfold rd
  have h1 : ¬ (nz ++ r).length < 16 := by rw [List.length_append, nz_len]; omega
  have h2 : ¬ headOk (nz ++ r) := fun h => by
    have := h.1
    rw [List.take_append_of_le_length (by rw [nz_len]; omega)] at this
    revert this
    decide
  rw [if_neg h1, if_pos h2]
  decide
/-- Octets that hold records, and noughts behind them, are scanned as these. -/
theorem scan_recs {n : Nat} (hn : 2 ≤ n) {a x : Nat} {fs : Ws} {a' x' : Nat} (h : Recs a x fs a' x') (ha : a' < n) : ∀ r, Scans n (recs fs ++ (nz ++ r)) a x fs a' x' := by
  induction h with
  | nil a x => intro r; exact .stop fun h => rd_nz r h.1
  | cons hd h1 h2 t ih =>
    intro r
    rename_i a x d fs a' x'
    have hle := t.le.1
    have e1 : recs (((x : Int), d) :: fs) ++ (nz ++ r) = lay x d ++ (recs fs ++ (nz ++ r)) := by simp [recs]
    have e2 := rd_lay x d (recs fs ++ (nz ++ r)) h1 (by omega) hd
    rw [← e1] at e2
    have hk : okR n (recs (((x : Int), d) :: fs) ++ (nz ++ r)) a x := by
      unfold okR
      rw [e2]
      refine ⟨rfl, rfl, ?_⟩
      rw [roomB_iff hd]
      omega
    have := Scans.go hk (fs := fs) (a' := (a' : Int)) (x' := (x' : Int)) (by
      rw [e2]
      simp only
      rw [e1, List.drop_append_of_le_length (by rw [lay_len]; exact Nat.le_refl _), List.drop_of_length_le (by rw [lay_len]; exact Nat.le_refl _), List.nil_append]
      have := ih ha r
      rw [sectZ_nat hd]
      simpa using this)
    rw [e2] at this
    exact this
end Go.Proofs.Ytjcgggheablpeaa.Wal
