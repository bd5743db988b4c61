/- Plain words for the disk: which disks may be, what a flush and a crash leave, what a write lays. No Go program here. -/
namespace Go.Proofs.Ytopklkkhddpglaa
namespace Dk

abbrev Ws := List (Int × List UInt8)
def badS (b : List UInt8) : Bool := !decide (b.length = 64)
def secs (S : List (List UInt8)) : Bool := !S.any badS
def thereB (len : Nat) (i n : Int) : Bool := decide (0 ≤ i) && decide (0 ≤ n) && decide (n ≤ (len : Int) - i)
def badW (len : Nat) (p : Int × List UInt8) : Bool := badS p.2 || !thereB len p.1 1
def okW (len : Nat) (W : Ws) : Bool := !W.any (badW len)
def may (S : List (List UInt8)) (W : Ws) (L : Int) : Bool := (decide (1 ≤ S.length) && decide (S.length ≤ 4096) && decide (-1 ≤ L)) && (secs S && okW S.length W)

/-- Of the writes, those of which keep says so are done, in order. -/
def done (keep : Nat → Bool) : Nat → Ws → List (List UInt8) → List (List UInt8)
  | _, [], S => S
  | k, p :: r, S => done keep (k + 1) r (if keep k then S.set p.1.toNat p.2 else S)
theorem done_len (keep : Nat → Bool) (k : Nat) (W : Ws) (S : List (List UInt8)) : (done keep k W S).length = S.length := by
  induction W generalizing k S with
  | nil => rfl
  | cons p r ih => unfold done; rw [ih]; split <;> simp
theorem badS_iff (b : List UInt8) : badS b = false ↔ b.length = 64 := by simp [badS]
theorem badW_iff (len : Nat) (p : Int × List UInt8) : badW len p = false ↔ (p.2.length = 64 ∧ 0 ≤ p.1 ∧ p.1 < len) := by
  unfold badW thereB
  rw [Bool.or_eq_false_iff, badS_iff]
  simp
  omega
theorem secs_iff (S : List (List UInt8)) : secs S = true ↔ ∀ b ∈ S, b.length = 64 := by
  unfold secs
  rw [Bool.not_eq_true', List.any_eq_false]
  exact ⟨fun h b hb => (badS_iff b).1 (by simpa using h b hb), fun h b hb => by simpa using (badS_iff b).2 (h b hb)⟩
theorem okW_iff (len : Nat) (W : Ws) : okW len W = true ↔ ∀ p ∈ W, p.2.length = 64 ∧ 0 ≤ p.1 ∧ p.1 < len := by
  unfold okW
  rw [Bool.not_eq_true', List.any_eq_false]
  exact ⟨fun h b hb => (badW_iff len b).1 (by simpa using h b hb), fun h b hb => by simpa using (badW_iff len b).2 (h b hb)⟩
theorem may_iff (S : List (List UInt8)) (W : Ws) (L : Int) : may S W L = true ↔ (1 ≤ S.length ∧ S.length ≤ 4096 ∧ -1 ≤ L ∧ (∀ b ∈ S, b.length = 64) ∧ ∀ p ∈ W, p.2.length = 64 ∧ 0 ≤ p.1 ∧ p.1 < S.length) := by
  unfold may
  rw [Bool.and_eq_true, Bool.and_eq_true, Bool.and_eq_true, Bool.and_eq_true, secs_iff, okW_iff]
  simp [and_assoc]
theorem done_secs (keep : Nat → Bool) (k : Nat) (W : Ws) (S : List (List UInt8)) (hW : ∀ p ∈ W, p.2.length = 64) (hS : ∀ b ∈ S, b.length = 64) : ∀ b ∈ done keep k W S, b.length = 64 := by
  induction W generalizing k S with
  | nil => exact hS
  | cons p r ih =>
    unfold done
    refine ih _ _ (fun q hq => hW q (List.mem_cons_of_mem _ hq)) ?_
    split
    · intro b hb
      rcases List.mem_or_eq_of_mem_set hb with h | rfl
      · exact hS b h
      · exact hW p List.mem_cons_self
    · exact hS
theorem may_done {S : List (List UInt8)} {W : Ws} {L : Int} (h : may S W L = true) (keep : Nat → Bool) (L' : Int) (hL : -1 ≤ L') : may (done keep 0 W S) [] L' = true := by
  rw [may_iff] at h ⊢
  obtain ⟨h1, h2, _, h4, h5⟩ := h
  rw [done_len]
  exact ⟨h1, h2, hL, done_secs keep 0 W S (fun p hp => (h5 p hp).1) h4, fun p hp => by cases hp⟩

/-- What spends: Left, and whether the power is off. -/
def spL (L : Int) (O : Bool) : Int := if 0 < L ∧ O = false then L - 1 else L
def spO (L : Int) (O : Bool) : Bool := O || decide (L = 0)
theorem spL_lo {L : Int} (O : Bool) (h : -1 ≤ L) : -1 ≤ spL L O := by unfold spL; split <;> omega

/-- Writes of sectors from i on. -/
def wsA : Int → List (List UInt8) → Ws
  | _, [] => []
  | i, b :: r => (i, b) :: wsA (i + 1) r
theorem wsA_snoc (i : Int) (l : List (List UInt8)) (b : List UInt8) : wsA i (l ++ [b]) = wsA i l ++ [(i + l.length, b)] := by
  induction l generalizing i with
  | nil => simp [wsA]
  | cons x r ih =>
    simp only [List.cons_append, wsA, ih, List.length_cons]
    congr 3
    congr 1
    omega
theorem wsA_len (i : Int) (l : List (List UInt8)) : (wsA i l).length = l.length := by
  induction l generalizing i with
  | nil => rfl
  | cons x r ih => simp [wsA, ih]
def chunk (b : List UInt8) (k : Nat) : List UInt8 := (b.drop (64 * k)).take 64
def chunks (b : List UInt8) (n : Nat) : List (List UInt8) := (List.range n).map (chunk b)
theorem chunks_succ (b : List UInt8) (n : Nat) : chunks b (n + 1) = chunks b n ++ [chunk b n] := by simp [chunks, List.range_succ]
theorem chunks_len (b : List UInt8) (n : Nat) : (chunks b n).length = n := by simp [chunks]
theorem chunk_len (b : List UInt8) (k : Nat) (h : 64 * k + 64 ≤ b.length) : (chunk b k).length = 64 := by
  simp [chunk]; omega
theorem wsA_mem (i : Int) (l : List (List UInt8)) (p : Int × List UInt8) (hp : p ∈ wsA i l) : p.2 ∈ l ∧ i ≤ p.1 ∧ p.1 < i + l.length := by
  induction l generalizing i with
  | nil => cases hp
  | cons x r ih =>
    simp only [wsA, List.mem_cons] at hp
    rcases hp with rfl | hp
    · exact ⟨List.mem_cons_self, Int.le_refl _, by simp; omega⟩
    · obtain ⟨h1, h2, h3⟩ := ih _ hp
      exact ⟨List.mem_cons_of_mem _ h1, by omega, by simp; omega⟩
end Dk
end Go.Proofs.Ytopklkkhddpglaa
