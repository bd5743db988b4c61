/- Plain facts on frames: numbers as octets, the highest first; how a frame is laid, and how octets are read as one. No Go here. -/
import Derived.Test.YtckbehojcjhcgaaCMath
namespace Go.Proofs.Ytckbehojcjhcgaa.Frm
open Crc

def be : Nat → Nat → List UInt8
  | 0, _ => []
  | k + 1, n => oct (8 * k) n :: be k n
def numFrom (a : Nat) (l : List UInt8) : Nat := l.foldl (fun n b => n * 256 + b.toNat) a
def num (l : List UInt8) : Nat := numFrom 0 l
theorem be_len (k n : Nat) : (be k n).length = k := by
  induction k with
  | zero => rfl
  | succ k ih => simp [be, ih]
theorem be_four (x : BitVec 32) : four x = be 4 x.toNat := rfl
theorem pow8 (k : Nat) : 2 ^ (8 * k) = 256 ^ k := by rw [Nat.pow_mul]
theorem numFrom_be (k a n : Nat) : numFrom a (be k n) = a * 256 ^ k + n % 256 ^ k := by
  induction k generalizing a with
  | zero => simp [be, numFrom, Nat.mod_one]
  | succ k ih =>
    show numFrom (a * 256 + (oct (8 * k) n).toNat) (be k n) = _
    rw [ih, oct_nat, pow8, Nat.pow_succ, Nat.mod_mul, Nat.add_mul, Nat.mul_assoc, Nat.mul_comm 256 (256 ^ k), Nat.mul_comm (n / 256 ^ k % 256)]
    omega
theorem num_be (k n : Nat) (h : n < 256 ^ k) : num (be k n) = n := by
  unfold num
  rw [numFrom_be, Nat.zero_mul, Nat.zero_add, Nat.mod_eq_of_lt h]
theorem numFrom_eq (l : List UInt8) (a : Nat) : numFrom a l = a * 256 ^ l.length + num l := by
  induction l generalizing a with
  | nil => simp [numFrom, num]
  | cons b l ih =>
    show numFrom (a * 256 + b.toNat) l = _ + numFrom (0 * 256 + b.toNat) l
    rw [ih, ih (0 * 256 + b.toNat), List.length_cons, Nat.pow_succ, Nat.add_mul, Nat.zero_mul, Nat.zero_add, Nat.mul_assoc, Nat.mul_comm 256]
    omega
theorem num_cons (b : UInt8) (l : List UInt8) : num (b :: l) = b.toNat * 256 ^ l.length + num l := by
  show numFrom (0 * 256 + b.toNat) l = _
  rw [numFrom_eq, Nat.zero_mul, Nat.zero_add]
theorem num_lt (l : List UInt8) : num l < 256 ^ l.length := by
  induction l with
  | nil => simp [num, numFrom]
  | cons b l ih =>
    have hb := UInt8.toNat_lt b
    rw [num_cons, List.length_cons, Nat.pow_succ]
    have h2 : (b.toNat + 1) * 256 ^ l.length ≤ 256 * 256 ^ l.length := Nat.mul_le_mul_right _ (by omega)
    rw [Nat.add_mul, Nat.one_mul, Nat.mul_comm 256] at h2
    omega
theorem be_add (k a n : Nat) : be k (a * 256 ^ k + n) = be k n := by
  have gen : ∀ j, j ≤ k → be j (a * 256 ^ k + n) = be j n := by
    intro j
    induction j with
    | zero => intro _; rfl
    | succ j ih =>
      intro hj
      show oct _ _ :: _ = oct _ _ :: _
      rw [ih (by omega)]
      refine congrArg (· :: _) (UInt8.toNat_inj.1 ?_)
      rw [oct_nat, oct_nat, pow8]
      obtain ⟨d, rfl⟩ : ∃ d, k = j + 1 + d := ⟨k - (j + 1), by omega⟩
      have hp : 0 < 256 ^ j := Nat.pow_pos (by decide)
      rw [show 256 ^ (j + 1 + d) = 256 ^ d * 256 * 256 ^ j by rw [Nat.pow_add, Nat.pow_succ, Nat.mul_comm]; rw [Nat.mul_comm (256 ^ j), Nat.mul_assoc], ← Nat.mul_assoc, Nat.add_comm, Nat.add_mul_div_right _ _ hp, ← Nat.mul_assoc]
      omega
  exact gen k (Nat.le_refl k)
theorem be_num (l : List UInt8) : be l.length (num l) = l := by
  induction l with
  | nil => rfl
  | cons b l ih =>
    have hb := UInt8.toNat_lt b
    have hp : 0 < 256 ^ l.length := Nat.pow_pos (by decide)
    show oct _ (num (b :: l)) :: be l.length (num (b :: l)) = _
    rw [num_cons, be_add, ih]
    refine congrArg (· :: l) (UInt8.toNat_inj.1 ?_)
    rw [oct_nat, pow8, Nat.add_comm, Nat.add_mul_div_right _ _ hp, Nat.div_eq_of_lt (num_lt l)]
    omega
theorem be_num' {k : Nat} {l : List UInt8} (h : l.length = k) : be k (num l) = l := by subst h; exact be_num l
theorem num_inj {l m : List UInt8} (h : l.length = m.length) (e : num l = num m) : l = m := by
  rw [← be_num l, ← be_num m, e, h]

/-! A frame that is laid. -/
def magic : List UInt8 := [98, 117, 114, 115]
def hd (s : Nat) (d : List UInt8) : List UInt8 := magic ++ (be 6 s ++ (be 2 d.length ++ four (sumB d)))
def pre (s : Nat) (d : List UInt8) : List UInt8 := hd s d ++ d
def sect (n : Nat) : Nat := (n + 83) / 64
def size (n : Nat) : Nat := sect n * 64
def pad (n : Nat) : Nat := size n - (20 + n)
def noughts8 (k : Nat) : List UInt8 := List.replicate k 0
def lay (s : Nat) (d : List UInt8) : List UInt8 := sealL (pre s d) ++ noughts8 (pad d.length)
theorem size_ge (n : Nat) : 20 + n ≤ size n ∧ size n < 20 + n + 64 := by unfold size sect; omega
theorem hd_len (s : Nat) (d : List UInt8) : (hd s d).length = 16 := by simp [hd, magic, be_len, four]
theorem pre_len (s : Nat) (d : List UInt8) : (pre s d).length = 16 + d.length := by simp [pre, hd_len]
theorem lay_len (s : Nat) (d : List UInt8) : (lay s d).length = size d.length := by
  have := size_ge d.length
  simp only [lay, List.length_append, seal_len, pre_len, noughts8, List.length_replicate, pad]
  omega

/-! How octets are read. -/
def seqOf (l : List UInt8) : Nat := num ((l.drop 4).take 6)
def cntOf (l : List UInt8) : Nat := num ((l.drop 10).take 2)
def headOk (l : List UInt8) : Prop := l.take 4 = magic ∧ seqOf l ≠ 0 ∧ cntOf l ≤ 6000
instance (l : List UInt8) : Decidable (headOk l) := by unfold headOk; exact inferInstance
def datOf (l : List UInt8) : List UInt8 := (l.drop 16).take (cntOf l)
def sumsOk (l : List UInt8) : Prop := num ((l.drop 12).take 4) = (sumB (datOf l)).toNat ∧ num ((l.drop (16 + cntOf l)).take 4) = (sumB (l.take (16 + cntOf l))).toNat
instance (l : List UInt8) : Decidable (sumsOk l) := by unfold sumsOk; exact inferInstance
def padOk (l : List UInt8) : Prop := (l.take (size (cntOf l))).drop (20 + cntOf l) = noughts8 (pad (cntOf l))
instance (l : List UInt8) : Decidable (padOk l) := by unfold padOk; exact inferInstance
/-- The head's number, its count, and the error's number. -/
def hdr (l : List UInt8) : Nat × Nat × Nat := if l.length < 16 then (0, 0, 3) else if headOk l then (seqOf l, cntOf l, 0) else (0, 0, 4)
/-- The frame's number, its octets, how many octets it is, and the error's number. -/
def rd (l : List UInt8) : Nat × List UInt8 × Nat × Nat :=
  if l.length < 16 then (0, [], 0, 3)
  else if ¬ headOk l then (0, [], 0, 4)
  else if l.length < size (cntOf l) then (0, [], 0, 3)
  else if ¬ sumsOk l then (0, [], 0, 6)
  else if ¬ padOk l then (0, [], 0, 4)
  else (seqOf l, datOf l, size (cntOf l), 0)

theorem take_left' {α : Type} {k : Nat} {a b : List α} (h : a.length = k) : (a ++ b).take k = a := by subst h; exact List.take_left
theorem drop_left' {α : Type} {k : Nat} {a b : List α} (h : a.length = k) : (a ++ b).drop k = b := by subst h; exact List.drop_left
theorem four_len (x : BitVec 32) : (four x).length = 4 := rfl
theorem num_four (x : BitVec 32) : num (four x) = x.toNat := by
  rw [be_four, num_be]
  have := x.isLt
  omega
theorem four_num {l : List UInt8} (h : l.length = 4) (x : BitVec 32) (e : num l = x.toNat) : l = four x := by
  rw [be_four, ← e, be_num' h]

/-- Octets that begin with a frame's head and go on anyhow. -/
theorem parts_of (s : Nat) (c t x : List UInt8) (hs : s < 281474976710656) (hc : c.length = 2) (ht : t.length = 4) :
    (magic ++ (be 6 s ++ (c ++ (t ++ x)))).take 4 = magic ∧ seqOf (magic ++ (be 6 s ++ (c ++ (t ++ x)))) = s ∧ cntOf (magic ++ (be 6 s ++ (c ++ (t ++ x)))) = num c
    ∧ ((magic ++ (be 6 s ++ (c ++ (t ++ x)))).drop 12).take 4 = t ∧ (magic ++ (be 6 s ++ (c ++ (t ++ x)))).drop 16 = x := by
  have h6 := be_len 6 s
  have d4 : (magic ++ (be 6 s ++ (c ++ (t ++ x)))).drop 4 = be 6 s ++ (c ++ (t ++ x)) := drop_left' rfl
  have d10 : (magic ++ (be 6 s ++ (c ++ (t ++ x)))).drop 10 = c ++ (t ++ x) := by
    rw [show (10 : Nat) = 4 + 6 by rfl, ← List.drop_drop, d4]; exact drop_left' h6
  have d12 : (magic ++ (be 6 s ++ (c ++ (t ++ x)))).drop 12 = t ++ x := by
    rw [show (12 : Nat) = 10 + 2 by rfl, ← List.drop_drop, d10]; exact drop_left' hc
  have d16 : (magic ++ (be 6 s ++ (c ++ (t ++ x)))).drop 16 = x := by
    rw [show (16 : Nat) = 12 + 4 by rfl, ← List.drop_drop, d12]; exact drop_left' ht
  refine ⟨take_left' rfl, ?_, ?_, ?_, d16⟩
  · unfold seqOf
    rw [d4, take_left' h6, num_be _ _ hs]
  · unfold cntOf
    rw [d10, take_left' hc]
  · rw [d12, take_left' ht]
theorem lay_shape (s : Nat) (d x : List UInt8) : lay s d ++ x = magic ++ (be 6 s ++ (be 2 d.length ++ (four (sumB d) ++ (d ++ (four (sumB (pre s d)) ++ (noughts8 (pad d.length) ++ x)))))) := by
  simp [lay, sealL, pre, hd]
theorem rd_lay (s : Nat) (d x : List UInt8) (h0 : 1 ≤ s) (hs : s < 281474976710656) (hd : d.length ≤ 6000) : rd (lay s d ++ x) = (s, d, size d.length, 0) := by
  have hsz := size_ge d.length
  have hlen : (lay s d ++ x).length = size d.length + x.length := by rw [List.length_append, lay_len]
  obtain ⟨h1, h2, h3, h4, h5⟩ := parts_of s (be 2 d.length) (four (sumB d)) (d ++ (four (sumB (pre s d)) ++ (noughts8 (pad d.length) ++ x))) hs (be_len _ _) rfl
  rw [← lay_shape] at h1 h2 h3 h4 h5
  rw [num_be 2 _ (by omega)] at h3
  have hdat : datOf (lay s d ++ x) = d := by
    unfold datOf
    rw [h5, h3, List.take_left]
  have htk : (lay s d ++ x).take (16 + d.length) = pre s d := by
    unfold lay sealL
    rw [List.append_assoc, List.append_assoc]
    exact take_left' (pre_len s d)
  have hdr2 : (lay s d ++ x).drop (16 + d.length) = four (sumB (pre s d)) ++ (noughts8 (pad d.length) ++ x) := by
    unfold lay sealL
    rw [List.append_assoc, List.append_assoc]
    exact drop_left' (pre_len s d)
  have hok : headOk (lay s d ++ x) := ⟨h1, by omega, by omega⟩
  have hsum : sumsOk (lay s d ++ x) := by
    refine ⟨by rw [h4, hdat, num_four], ?_⟩
    rw [h3, hdr2, htk, take_left' (four_len _), num_four]
  have hpad : padOk (lay s d ++ x) := by
    unfold padOk
    rw [h3, take_left' (lay_len s d)]
    unfold lay
    exact drop_left' (by rw [seal_len, pre_len]; omega)
  unfold rd
  rw [if_neg (by omega), if_neg (by simpa using hok), h3, if_neg (by omega), if_neg (by simpa using hsum), if_neg (by simpa using hpad), h2, hdat]
theorem hdr_lay (s : Nat) (d x : List UInt8) (h0 : 1 ≤ s) (hs : s < 281474976710656) (hd : d.length ≤ 6000) : hdr (lay s d ++ x) = (s, d.length, 0) := by
  have hsz := size_ge d.length
  have hlen : (lay s d ++ x).length = size d.length + x.length := by rw [List.length_append, lay_len]
  obtain ⟨h1, h2, h3, h4, h5⟩ := parts_of s (be 2 d.length) (four (sumB d)) (d ++ (four (sumB (pre s d)) ++ (noughts8 (pad d.length) ++ x))) hs (be_len _ _) rfl
  rw [← lay_shape] at h1 h2 h3 h4 h5
  rw [num_be 2 _ (by omega)] at h3
  unfold hdr
  rw [if_neg (by omega), if_pos ⟨h1, by omega, by omega⟩, h2, h3]
theorem rd_nil : rd [] = (0, [], 0, 3) := rfl

/-! The document's way to read: what is read, laid again, is what stood there. -/
theorem split_at (l : List UInt8) (h : 20 + cntOf l ≤ l.length) :
    ∃ c t q r, c.length = 2 ∧ t.length = 4 ∧ q.length = 4 ∧ (datOf l).length = cntOf l ∧ l = l.take 4 ++ ((l.drop 4).take 6 ++ (c ++ (t ++ (datOf l ++ (q ++ r))))) ∧ c = (l.drop 10).take 2 ∧ t = (l.drop 12).take 4 ∧ q = (l.drop (16 + cntOf l)).take 4 := by
  refine ⟨(l.drop 10).take 2, (l.drop 12).take 4, (l.drop (16 + cntOf l)).take 4, l.drop (20 + cntOf l), ?_, ?_, ?_, ?_, ?_, rfl, rfl, rfl⟩
  · simp; omega
  · simp; omega
  · simp; omega
  · unfold datOf; simp; omega
  · have e5 : l.drop (16 + cntOf l) = (l.drop (16 + cntOf l)).take 4 ++ l.drop (20 + cntOf l) := by
      have : l.drop (20 + cntOf l) = (l.drop (16 + cntOf l)).drop 4 := by rw [List.drop_drop]; congr 1; omega
      rw [this, List.take_append_drop]
    have e4 : l.drop 16 = datOf l ++ l.drop (16 + cntOf l) := by
      unfold datOf
      rw [← List.drop_drop, List.take_append_drop]
    have e3 : l.drop 12 = (l.drop 12).take 4 ++ l.drop 16 := by rw [show (16 : Nat) = 12 + 4 by rfl, ← List.drop_drop, List.take_append_drop]
    have e2 : l.drop 10 = (l.drop 10).take 2 ++ l.drop 12 := by rw [show (12 : Nat) = 10 + 2 by rfl, ← List.drop_drop, List.take_append_drop]
    have e1 : l.drop 4 = (l.drop 4).take 6 ++ l.drop 10 := by rw [show (10 : Nat) = 4 + 6 by rfl, ← List.drop_drop, List.take_append_drop]
    rw [← e5, ← e4, ← e3, ← e2, ← e1, List.take_append_drop]
theorem dat_len (l : List UInt8) (h : 16 + cntOf l ≤ l.length) : (datOf l).length = cntOf l := by unfold datOf; simp; omega
/-- What is laid of a head that may be: the same number and count. -/
theorem pre_of (l : List UInt8) (h : 20 + cntOf l ≤ l.length) : pre (seqOf l) (datOf l) = magic ++ ((l.drop 4).take 6 ++ ((l.drop 10).take 2 ++ (four (sumB (datOf l)) ++ datOf l))) := by
  have h6 : ((l.drop 4).take 6).length = 6 := by simp; omega
  have h2 : ((l.drop 10).take 2).length = 2 := by simp; omega
  unfold pre hd
  rw [dat_len l (by omega)]
  unfold seqOf cntOf
  rw [be_num' h6, be_num' h2]
  simp
theorem take_hd (l r y : List UInt8) (n : Nat) (hl : l = y ++ r) (hy : y.length = n) : l.take n = y := by
  subst hl
  exact take_left' hy
theorem sums_iff (l : List UInt8) (hok : headOk l) (h : 20 + cntOf l ≤ l.length) : sumsOk l ↔ (lay (seqOf l) (datOf l)).take (20 + cntOf l) = l.take (20 + cntOf l) := by
  obtain ⟨c, t, q, r, hc, ht, hq, hdl, hl, ec, et, eq⟩ := split_at l h
  have hp := pre_of l h
  have hpl := pre_len (seqOf l) (datOf l)
  have e1 : (lay (seqOf l) (datOf l)).take (20 + cntOf l) = pre (seqOf l) (datOf l) ++ four (sumB (pre (seqOf l) (datOf l))) := by
    unfold lay sealL
    exact take_left' (by simp [hpl, hdl, four]; omega)
  have h6 : ((l.drop 4).take 6).length = 6 := by simp; omega
  have e0 : l.take (16 + cntOf l) = magic ++ ((l.drop 4).take 6 ++ (c ++ (t ++ datOf l))) := by
    rw [← hok.1]
    exact take_hd l (q ++ r) _ _ (hl.trans (by simp)) (by simp [hc, ht, hdl]; omega)
  have e2 : l.take (20 + cntOf l) = (magic ++ ((l.drop 4).take 6 ++ (c ++ (t ++ datOf l)))) ++ q := by
    rw [← hok.1]
    exact take_hd l r _ _ (hl.trans (by simp)) (by simp [hc, ht, hq, hdl]; omega)
  rw [e1, e2]
  unfold sumsOk
  rw [← et, ← eq, e0, hp, ← ec]
  constructor
  · rintro ⟨a, b⟩
    have ea := four_num ht _ a
    have eb := four_num hq _ b
    rw [← ea, ← eb]
  · intro e
    have hlen : (magic ++ ((l.drop 4).take 6 ++ (c ++ (four (sumB (datOf l)) ++ datOf l)))).length = (magic ++ ((l.drop 4).take 6 ++ (c ++ (t ++ datOf l)))).length := by simp [ht, four]; omega
    obtain ⟨ea, eb⟩ := List.append_inj e hlen
    have ea' : four (sumB (datOf l)) = t := by
      have := List.append_cancel_left ea
      have := List.append_cancel_left this
      have := List.append_cancel_left this
      exact (List.append_inj this (by simp [ht, four])).1
    refine ⟨by rw [← ea', num_four], ?_⟩
    rw [← eb, num_four, ← ea]
theorem pad_iff (l : List UInt8) (hok : headOk l) (h : size (cntOf l) ≤ l.length) (hs : sumsOk l) : padOk l ↔ lay (seqOf l) (datOf l) = l.take (size (cntOf l)) := by
  have hsz := size_ge (cntOf l)
  have h1 := (sums_iff l hok (by omega)).1 hs
  have hdl := dat_len l (by omega)
  have e : lay (seqOf l) (datOf l) = (lay (seqOf l) (datOf l)).take (20 + cntOf l) ++ noughts8 (pad (cntOf l)) := by
    rw [show (lay (seqOf l) (datOf l)).take (20 + cntOf l) = sealL (pre (seqOf l) (datOf l)) from take_left' (by rw [seal_len, pre_len, hdl]; omega)]
    unfold lay
    rw [hdl]
  have e2 : l.take (size (cntOf l)) = l.take (20 + cntOf l) ++ (l.take (size (cntOf l))).drop (20 + cntOf l) := by
    have := (List.take_append_drop (20 + cntOf l) (l.take (size (cntOf l)))).symm
    rwa [List.take_take, Nat.min_eq_left hsz.1] at this
  unfold padOk
  generalize (l.take (size (cntOf l))).drop (20 + cntOf l) = X at e2 ⊢
  rw [e, e2, h1, List.append_cancel_left_eq]
  exact eq_comm
end Go.Proofs.Ytckbehojcjhcgaa.Frm
