/- Plain facts on supers: what may be, how one is laid, how octets are read as one, which one counts; where the parts of a plan are. No Go here. -/
import Derived.Test.YtlieijbjbjnaiaaFMath
namespace Go.Proofs.Ytlieijbjbjnaiaa.Sup
open Crc Frm

def within (n lo hi : Int) : Bool := decide (lo ≤ n) && decide (n ≤ hi)
theorem within_iff {n lo hi : Int} : within n lo hi = true ↔ lo ≤ n ∧ n ≤ hi := by simp [within]
structure Sp where
  g : Int
  h : Int
  n : Int
  p : Int
deriving DecidableEq
def Sp.nil : Sp := ⟨0, 0, 0, 0⟩
def mayB (s : Sp) : Bool := within s.g 1 281474976710655 && (within s.h 0 1 && (within s.n 1 281474976710655 && within s.p 0 200))
theorem may_iff {s : Sp} : mayB s = true ↔ (1 ≤ s.g ∧ s.g ≤ 281474976710655) ∧ (0 ≤ s.h ∧ s.h ≤ 1) ∧ (1 ≤ s.n ∧ s.n ≤ 281474976710655) ∧ (0 ≤ s.p ∧ s.p ≤ 200) := by
  simp [mayB, within_iff]
def mark : List UInt8 := [98, 115, 117, 112]
def head (g h n p : Nat) : List UInt8 := mark ++ be 6 g ++ be 1 h ++ be 6 n ++ be 2 p
def body (g h n p : Nat) : List UInt8 := head g h n p ++ noughts8 41
def encN (g h n p : Nat) : List UInt8 := sealL (body g h n p)
def encS (s : Sp) : List UInt8 := encN s.g.toNat s.h.toNat s.n.toNat s.p.toNat
theorem head_len (g h n p : Nat) : (head g h n p).length = 19 := by simp [head, mark, be_len]
theorem body_len (g h n p : Nat) : (body g h n p).length = 60 := by simp [body, head_len, noughts8]
theorem encN_len (g h n p : Nat) : (encN g h n p).length = 64 := by simp [encN, seal_len, body_len]
theorem encS_len (s : Sp) : (encS s).length = 64 := encN_len _ _ _ _
/-- Four octets behind sixty that are their sum. -/
def soundB (l : List UInt8) : Bool := decide (sumB (l.take 60) = word 0#32 (l.drop 60))
def partS (l : List UInt8) : Sp := ⟨(num ((l.drop 4).take 6) : Nat), (num ((l.drop 10).take 1) : Nat), (num ((l.drop 11).take 6) : Nat), (num ((l.drop 17).take 2) : Nat)⟩
def decS (l : List UInt8) : Sp × Int :=
  if l.length ≠ 64 then (Sp.nil, 3)
  else if soundB l = false then (Sp.nil, 6)
  else if mayB (partS l) = true ∧ encS (partS l) = l then (partS l, 0)
  else (Sp.nil, 4)
theorem dec_short {l : List UInt8} (h : l.length ≠ 64) : decS l = (Sp.nil, 3) := by unfold decS; rw [if_pos h]
theorem dec_sum {l : List UInt8} (h : l.length = 64) (hs : soundB l = false) : decS l = (Sp.nil, 6) := by unfold decS; rw [if_neg (by omega), if_pos hs]
theorem dec_form {l : List UInt8} (h : l.length = 64) (hs : soundB l = true) (hm : ¬ (mayB (partS l) = true ∧ encS (partS l) = l)) : decS l = (Sp.nil, 4) := by
  unfold decS; rw [if_neg (by omega), if_neg (by simp [hs]), if_neg hm]
theorem dec_yes {l : List UInt8} (h : l.length = 64) (hs : soundB l = true) (hm : mayB (partS l) = true ∧ encS (partS l) = l) : decS l = (partS l, 0) := by
  unfold decS; rw [if_neg (by omega), if_neg (by simp [hs]), if_pos hm]
theorem part_bounds (l : List UInt8) : 0 ≤ (partS l).g ∧ (partS l).g < 281474976710656 ∧ 0 ≤ (partS l).h ∧ (partS l).h < 256 ∧ 0 ≤ (partS l).n ∧ (partS l).n < 281474976710656 ∧ 0 ≤ (partS l).p ∧ (partS l).p < 65536 := by
  have h1 := num_lt ((l.drop 4).take 6)
  have h2 := num_lt ((l.drop 10).take 1)
  have h3 := num_lt ((l.drop 11).take 6)
  have h4 := num_lt ((l.drop 17).take 2)
  have p1 : 256 ^ ((l.drop 4).take 6).length ≤ 256 ^ 6 := Nat.pow_le_pow_right (by decide) (by simp; omega)
  have p2 : 256 ^ ((l.drop 10).take 1).length ≤ 256 ^ 1 := Nat.pow_le_pow_right (by decide) (by simp; omega)
  have p3 : 256 ^ ((l.drop 11).take 6).length ≤ 256 ^ 6 := Nat.pow_le_pow_right (by decide) (by simp; omega)
  have p4 : 256 ^ ((l.drop 17).take 2).length ≤ 256 ^ 2 := Nat.pow_le_pow_right (by decide) (by simp; omega)
  unfold partS
  dsimp only
  omega
theorem sound_enc (g h n p : Nat) : soundB (encN g h n p) = true := by
  unfold soundB encN
  have hb := body_len g h n p
  have h1 : (sealL (body g h n p)).take 60 = body g h n p := by unfold sealL; exact take_left' hb
  have h2 : (sealL (body g h n p)).drop 60 = four (sumB (body g h n p)) := by unfold sealL; exact drop_left' hb
  rw [h1, h2]
  exact decide_eq_true ((sealed_iff' _ _ rfl).2 rfl)
theorem part_enc (g h n p : Nat) (hg : g < 281474976710656) (hh : h < 256) (hn : n < 281474976710656) (hp : p < 65536) : partS (encN g h n p) = ⟨g, h, n, p⟩ := by
  have e : encN g h n p = mark ++ (be 6 g ++ (be 1 h ++ (be 6 n ++ (be 2 p ++ (noughts8 41 ++ four (sumB (body g h n p))))))) := by
    simp [encN, sealL, body, head, List.append_assoc]
  have d4 : (encN g h n p).drop 4 = be 6 g ++ (be 1 h ++ (be 6 n ++ (be 2 p ++ (noughts8 41 ++ four (sumB (body g h n p)))))) := by rw [e]; exact drop_left' rfl
  have d10 : (encN g h n p).drop 10 = be 1 h ++ (be 6 n ++ (be 2 p ++ (noughts8 41 ++ four (sumB (body g h n p))))) := by
    rw [show (10 : Nat) = 4 + 6 by rfl, ← List.drop_drop, d4]; exact drop_left' (be_len 6 g)
  have d11 : (encN g h n p).drop 11 = be 6 n ++ (be 2 p ++ (noughts8 41 ++ four (sumB (body g h n p)))) := by
    rw [show (11 : Nat) = 10 + 1 by rfl, ← List.drop_drop, d10]; exact drop_left' (be_len 1 h)
  have d17 : (encN g h n p).drop 17 = be 2 p ++ (noughts8 41 ++ four (sumB (body g h n p))) := by
    rw [show (17 : Nat) = 11 + 6 by rfl, ← List.drop_drop, d11]; exact drop_left' (be_len 6 n)
  unfold partS
  rw [d4, d10, d11, d17, take_left' (be_len 6 g), take_left' (be_len 1 h), take_left' (be_len 6 n), take_left' (be_len 2 p), num_be _ _ hg, num_be _ _ hh, num_be _ _ hn, num_be _ _ hp]
theorem part_encS {s : Sp} (hm : mayB s = true) : partS (encS s) = s := by
  obtain ⟨g, h, n, p⟩ := s
  have := may_iff.1 hm
  dsimp only at this
  unfold encS
  rw [part_enc _ _ _ _ (by dsimp only; omega) (by dsimp only; omega) (by dsimp only; omega) (by dsimp only; omega)]
  simp only [Sp.mk.injEq]
  omega
/-- What is laid is read as it was. -/
theorem dec_enc {s : Sp} (hm : mayB s = true) : decS (encS s) = (s, 0) := by
  have hp := part_encS hm
  rw [dec_yes (encS_len s) (sound_enc _ _ _ _) ⟨by rw [hp]; exact hm, by rw [hp]⟩, hp]
theorem enc_inj {s t : Sp} (hs : mayB s = true) (ht : mayB t = true) (e : encS s = encS t) : s = t := by
  have h1 := part_encS hs
  have h2 := part_encS ht
  rw [e, h2] at h1
  exact h1.symm
theorem dec_ok {l : List UInt8} (h : (decS l).2 = 0) : mayB (decS l).1 = true ∧ encS (decS l).1 = l := by
  by_cases h1 : l.length = 64
  · by_cases h2 : soundB l = true
    · by_cases h3 : mayB (partS l) = true ∧ encS (partS l) = l
      · rw [dec_yes h1 h2 h3]; exact h3
      · rw [dec_form h1 h2 h3] at h; exact absurd h (by decide)
    · rw [dec_sum h1 (by simpa using h2)] at h; exact absurd h (by decide)
  · rw [dec_short h1] at h; exact absurd h (by decide)
theorem dec_cases (l : List UInt8) : (decS l).2 = 0 ∨ decS l = (Sp.nil, 3) ∨ decS l = (Sp.nil, 4) ∨ decS l = (Sp.nil, 6) := by
  by_cases h1 : l.length = 64
  · by_cases h2 : soundB l = true
    · by_cases h3 : mayB (partS l) = true ∧ encS (partS l) = l
      · rw [dec_yes h1 h2 h3]; exact .inl rfl
      · rw [dec_form h1 h2 h3]; exact .inr (.inr (.inl rfl))
    · rw [dec_sum h1 (by simpa using h2)]; exact .inr (.inr (.inr rfl))
  · rw [dec_short h1]; exact .inr (.inl rfl)

/-! Which one counts. -/
/-- A super that counts in its place. -/
def inPlace (k : Int) (l : List UInt8) : Bool := decide ((decS l).2 = 0) && decide ((decS l).1.g % 2 = k)
/-- Behind one place: what is chosen so far. -/
def stepC (k : Int) (l : List UInt8) (c : Sp) : Sp := if inPlace k l = true ∧ c.g < (decS l).1.g then (decS l).1 else c
def chooseS (a b : List UInt8) : Sp × Bool :=
  if inPlace 0 a = true ∧ (inPlace 1 b = false ∨ (decS b).1.g < (decS a).1.g) then ((decS a).1, true)
  else if inPlace 1 b = true then ((decS b).1, true)
  else (Sp.nil, false)
theorem inPlace_gen {k : Int} {l : List UInt8} (h : inPlace k l = true) : 1 ≤ (decS l).1.g ∧ (decS l).1.g % 2 = k := by
  simp only [inPlace, Bool.and_eq_true, decide_eq_true_eq] at h
  have := may_iff.1 (dec_ok h.1).1
  exact ⟨this.1.1, h.2⟩
theorem choose_steps (a b : List UInt8) : stepC 1 b (stepC 0 a Sp.nil) = (chooseS a b).1 ∧ ((chooseS a b).2 = false ↔ (chooseS a b).1 = Sp.nil) := by
  have hz : Sp.nil.g = 0 := rfl
  unfold stepC chooseS
  by_cases h1 : inPlace 0 a = true
  · have g1 := inPlace_gen h1
    have n1 : (decS a).1 ≠ Sp.nil := fun e => by rw [e] at g1; simp [Sp.nil] at g1
    rw [if_pos (show inPlace 0 a = true ∧ Sp.nil.g < (decS a).1.g from ⟨h1, by omega⟩)]
    by_cases h2 : inPlace 1 b = true
    · have g2 := inPlace_gen h2
      have n2 : (decS b).1 ≠ Sp.nil := fun e => by rw [e] at g2; simp [Sp.nil] at g2
      by_cases h3 : (decS b).1.g < (decS a).1.g
      · rw [if_neg (by omega), if_pos ⟨h1, .inr h3⟩]
        simp [n1]
      · rw [if_pos ⟨h2, by omega⟩, if_neg (by simp [h1, h2]; omega), if_pos h2]
        simp [n2]
    · rw [if_neg (by simp [h2]), if_pos ⟨h1, .inl (by simpa using h2)⟩]
      simp [n1]
  · rw [if_neg (show ¬ (inPlace 0 a = true ∧ Sp.nil.g < (decS a).1.g) from fun e => h1 e.1), if_neg (show ¬ (inPlace 0 a = true ∧ (inPlace 1 b = false ∨ (decS b).1.g < (decS a).1.g)) from fun e => h1 e.1)]
    by_cases h2 : inPlace 1 b = true
    · have g2 := inPlace_gen h2
      have n2 : (decS b).1 ≠ Sp.nil := fun e => by rw [e] at g2; simp [Sp.nil] at g2
      rw [if_pos ⟨h2, by omega⟩, if_pos h2]
      simp [n2]
    · rw [if_neg (fun e => h2 e.1), if_neg h2]
      simp

/-! Plans. -/
def fitsB (l p : Int) : Bool := within l 2 500 && (within p 1 200 && decide (2 + 2 * (l + p * 8) ≤ 4096))
def halfN (l p : Int) : Int := l + p * 8
def sectN (l p : Int) : Int := 2 + 2 * (l + p * 8)
theorem fits_iff {l p : Int} : fitsB l p = true ↔ (2 ≤ l ∧ l ≤ 500) ∧ (1 ≤ p ∧ p ≤ 200) ∧ 2 + 2 * (l + p * 8) ≤ 4096 := by simp [fitsB, within_iff]
end Go.Proofs.Ytlieijbjbjnaiaa.Sup
