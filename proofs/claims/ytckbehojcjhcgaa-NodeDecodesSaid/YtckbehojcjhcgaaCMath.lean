/- Plain facts on the sum of octets: a word of 32 bits that is shifted bit by bit; it is additive (exclusive-or), and nothing but nought is shifted into nought. No Go here. -/
namespace Go.Proofs.Ytckbehojcjhcgaa.Crc

def tk : BitVec 32 := 79764919#32
def ones : BitVec 32 := 4294967295#32
/-- A word shifted by one bit. -/
def sh (x : BitVec 32) : BitVec 32 := if x.msb then (x <<< 1) ^^^ tk else x <<< 1
def shn : Nat → BitVec 32 → BitVec 32
  | 0, x => x
  | n + 1, x => shn n (sh x)
/-- An octet at a place of a word. -/
def o (k : Nat) (b : UInt8) : BitVec 32 := (b.toBitVec.setWidth 32) <<< k
/-- One octet taken. -/
def st (x : BitVec 32) (b : UInt8) : BitVec 32 := shn 8 (x ^^^ o 24 b)
def crc (x : BitVec 32) (l : List UInt8) : BitVec 32 := l.foldl st x
def sumB (l : List UInt8) : BitVec 32 := ~~~ crc ones l
def tab (n : Nat) : BitVec 32 := shn 8 (BitVec.ofNat 32 (n * 16777216))

theorem xor4 (a b c d : BitVec 32) : (a ^^^ b) ^^^ (c ^^^ d) = (a ^^^ c) ^^^ (b ^^^ d) := by
  rw [BitVec.xor_assoc, BitVec.xor_assoc, ← BitVec.xor_assoc b, BitVec.xor_comm b c, BitVec.xor_assoc c]
theorem sh_lin (x y : BitVec 32) : sh (x ^^^ y) = sh x ^^^ sh y := by
  unfold sh
  rw [BitVec.msb_xor, BitVec.shiftLeft_xor_distrib]
  cases x.msb <;> cases y.msb
  · simp
  · simp [BitVec.xor_assoc]
  · simp only [Bool.xor_false, ↓reduceIte, Bool.false_eq_true]
    rw [BitVec.xor_assoc, BitVec.xor_assoc, BitVec.xor_comm tk]
  · simp only [Bool.xor_self, Bool.false_eq_true, ↓reduceIte]
    rw [xor4, BitVec.xor_self]; simp
theorem shn_lin (n : Nat) (x y : BitVec 32) : shn n (x ^^^ y) = shn n x ^^^ shn n y := by
  induction n generalizing x y with
  | zero => rfl
  | succ n ih => show shn n (sh (x ^^^ y)) = shn n (sh x) ^^^ shn n (sh y); rw [sh_lin, ih]
theorem shn_add (n m : Nat) (x : BitVec 32) : shn (n + m) x = shn m (shn n x) := by
  induction n generalizing x with
  | zero => rw [Nat.zero_add]; rfl
  | succ n ih => rw [Nat.succ_add]; exact ih (sh x)
theorem sh_nought {x : BitVec 32} (h : sh x = 0#32) : x = 0#32 := by
  unfold sh at h
  cases hm : x.msb with
  | true =>
    rw [hm, if_pos rfl] at h
    have := congrArg (fun y : BitVec 32 => y.getLsbD 0) h
    simp [tk] at this
  | false =>
    rw [hm, if_neg (by decide)] at h
    have h1 := congrArg BitVec.toNat h
    rw [BitVec.toNat_shiftLeft, Nat.shiftLeft_eq] at h1
    rw [BitVec.msb_eq_decide] at hm
    have h2 : ¬ 2 ^ (32 - 1) ≤ x.toNat := by simpa using hm
    apply BitVec.eq_of_toNat_eq
    have e : (0#32).toNat = 0 := rfl
    rw [e] at h1 ⊢
    omega
theorem shn_nought {n : Nat} {x : BitVec 32} (h : shn n x = 0#32) : x = 0#32 := by
  induction n generalizing x with
  | zero => exact h
  | succ n ih => exact sh_nought (ih h)
theorem xor_eq_nought {x y : BitVec 32} (h : x ^^^ y = 0#32) : x = y := by
  have := congrArg (· ^^^ y) h
  simp only [BitVec.xor_assoc, BitVec.xor_self] at this
  simpa using this
theorem shn_inj {n : Nat} {x y : BitVec 32} (h : shn n x = shn n y) : x = y := by
  apply xor_eq_nought
  apply shn_nought (n := n)
  rw [shn_lin, h, BitVec.xor_self]
/-- What has room is shifted as it stands. -/
theorem shn_small (k : Nat) (x : BitVec 32) (hk : k ≤ 32) (h : x.toNat * 2 ^ k < 4294967296) : (shn k x).toNat = x.toNat * 2 ^ k := by
  induction k generalizing x with
  | zero => simp [shn]
  | succ k ih =>
    have hp : 1 ≤ 2 ^ k := Nat.one_le_two_pow
    have e : x.toNat * 2 ^ (k + 1) = (x.toNat * 2) * 2 ^ k := by rw [Nat.pow_succ, Nat.mul_assoc, Nat.mul_comm 2]
    have h1 : x.toNat * 2 < 4294967296 := Nat.lt_of_le_of_lt (Nat.le_mul_of_pos_right _ hp) (e ▸ h)
    have hm : x.msb = false := by rw [BitVec.msb_eq_decide]; simp; omega
    have hs : (sh x).toNat = x.toNat * 2 := by
      unfold sh
      rw [hm, if_neg (by decide), BitVec.toNat_shiftLeft, Nat.shiftLeft_eq]
      omega
    show (shn k (sh x)).toNat = _
    rw [ih (sh x) (by omega) (by rw [hs, ← e]; exact h), hs, e]
theorem o_nat (k : Nat) (b : UInt8) (hk : k ≤ 24) : (o k b).toNat = b.toNat * 2 ^ k := by
  unfold o
  have hb : b.toNat < 256 := UInt8.toNat_lt b
  have h2 : 2 ^ k ≤ 2 ^ 24 := Nat.pow_le_pow_right (by decide) hk
  rw [BitVec.toNat_shiftLeft, BitVec.toNat_setWidth, Nat.shiftLeft_eq]
  have h3 : b.toBitVec.toNat = b.toNat := rfl
  rw [h3, Nat.mod_eq_of_lt (by omega : b.toNat < 2 ^ 32)]
  apply Nat.mod_eq_of_lt
  calc b.toNat * 2 ^ k ≤ 255 * 2 ^ 24 := Nat.mul_le_mul (by omega) h2
    _ < 2 ^ 32 := by decide
theorem o_xor (k : Nat) (a b : UInt8) : o k (a ^^^ b) = o k a ^^^ o k b := by
  unfold o
  rw [UInt8.toBitVec_xor, BitVec.setWidth_xor, BitVec.shiftLeft_xor_distrib]
theorem o_up (k : Nat) (b : UInt8) (hk : k ≤ 16) : shn 8 (o k b) = o (k + 8) b := by
  have hb : b.toNat < 256 := UInt8.toNat_lt b
  have h2 : 2 ^ k ≤ 2 ^ 16 := Nat.pow_le_pow_right (by decide) hk
  apply BitVec.eq_of_toNat_eq
  have h4 : b.toNat * 2 ^ k ≤ 255 * 2 ^ 16 := Nat.mul_le_mul (by omega) h2
  rw [shn_small 8 _ (by decide) (by rw [o_nat _ _ (by omega)]; omega), o_nat _ _ (by omega), o_nat _ _ (by omega), Nat.pow_add, Nat.mul_assoc]
theorem crc_lin (x y : BitVec 32) (l : List UInt8) : crc (x ^^^ y) l = crc x l ^^^ shn (8 * l.length) y := by
  induction l generalizing x y with
  | nil => rfl
  | cons b l ih =>
    have e : st (x ^^^ y) b = st x b ^^^ shn 8 y := by
      unfold st
      rw [BitVec.xor_assoc, BitVec.xor_comm y, ← BitVec.xor_assoc, shn_lin]
    show crc (st (x ^^^ y) b) l = crc (st x b) l ^^^ _
    rw [e, ih, ← shn_add]
    congr 2
    simp [Nat.mul_add]; omega
theorem crc_append (x : BitVec 32) (l m : List UInt8) : crc x (l ++ m) = crc (crc x l) m := List.foldl_append
theorem crc_cons (x : BitVec 32) (b : UInt8) (m : List UInt8) : crc x (b :: m) = crc (st x b) m := rfl
theorem crc_snoc (x : BitVec 32) (l : List UInt8) (b : UInt8) : crc x (l ++ [b]) = st (crc x l) b := crc_append x l [b]
theorem st_xor (x : BitVec 32) (b d : UInt8) : st x (b ^^^ d) = st x b ^^^ shn 8 (o 24 d) := by
  unfold st
  rw [o_xor, ← BitVec.xor_assoc, shn_lin]
theorem crc_set (x : BitVec 32) (l : List UInt8) (p : Nat) (b d : UInt8) (h : l[p]? = some b) : crc x (l.set p (b ^^^ d)) = crc x l ^^^ shn (8 * (l.length - p)) (o 24 d) := by
  obtain ⟨hp, rfl⟩ := List.getElem?_eq_some_iff.1 h
  have e : l = l.take p ++ l[p] :: l.drop (p + 1) := by rw [← List.drop_eq_getElem_cons hp, List.take_append_drop]
  rw [List.set_eq_take_append_cons_drop, if_pos hp, crc_append, crc_cons, st_xor, crc_lin]
  conv => rhs; rw [e]
  rw [crc_append, crc_cons, ← shn_add]
  congr 2
  simp
  omega
theorem st3 (x y z : BitVec 32) (a b c : UInt8) : st (x ^^^ y ^^^ z) (a ^^^ b ^^^ c) = st x a ^^^ st y b ^^^ st z c := by
  unfold st
  rw [o_xor, o_xor, ← shn_lin, ← shn_lin]
  refine congrArg (shn 8) ?_
  rw [xor4, xor4 x y]
theorem ones3 : ones = ones ^^^ ones ^^^ ones := by decide
theorem ones_bit : ∀ i, i < 32 → ones.getLsbD i = true := by decide
theorem not3 (x y z : BitVec 32) : ~~~ x ^^^ ~~~ y ^^^ ~~~ z = ~~~ (x ^^^ y ^^^ z) := by
  apply BitVec.eq_of_getLsbD_eq
  intro i hi
  simp [hi]

/-! The word of four octets. -/
def w4 (p q r t : UInt8) : BitVec 32 := o 24 p ^^^ o 16 q ^^^ o 8 r ^^^ o 0 t
theorem crc4 (x : BitVec 32) (p q r t : UInt8) : crc x [p, q, r, t] = shn 32 (x ^^^ w4 p q r t) := by
  have e1 : ∀ y : BitVec 32, ∀ b k, k ≤ 16 → shn 8 y ^^^ o (k + 8) b = shn 8 (y ^^^ o k b) := fun y b k hk => by rw [shn_lin, o_up _ _ hk]
  show shn 8 (shn 8 (shn 8 (shn 8 (x ^^^ o 24 p) ^^^ o (16 + 8) q) ^^^ o (16 + 8) r) ^^^ o (16 + 8) t) = _
  rw [e1 _ q 16 (by decide), e1 _ r 16 (by decide), e1 _ t 16 (by decide)]
  rw [show shn 8 (x ^^^ o 24 p ^^^ o 16 q) ^^^ o 16 r = shn 8 (x ^^^ o 24 p ^^^ o 16 q ^^^ o 8 r) from e1 _ r 8 (by decide), ← shn_add]
  have e2 : shn (8 + 8) (x ^^^ o 24 p ^^^ o 16 q ^^^ o 8 r) ^^^ o 16 t = shn (8 + 8) (x ^^^ o 24 p ^^^ o 16 q ^^^ o 8 r ^^^ o 0 t) := by
    rw [shn_lin (8 + 8) _ (o 0 t), shn_add 8 8 (o 0 t), o_up 0 t (by decide), o_up 8 t (by decide)]
  rw [← shn_add 8 8 (x ^^^ _ ^^^ _ ^^^ _), e2, ← shn_add]
  refine congrArg (shn 32) ?_
  unfold w4
  simp only [BitVec.xor_assoc]
def acc (x : BitVec 32) (b : UInt8) : BitVec 32 := (x <<< 8) ||| (b.toBitVec.setWidth 32)
def word (x : BitVec 32) (l : List UInt8) : BitVec 32 := l.foldl acc x
theorem word4 (p q r t : UInt8) : word 0#32 [p, q, r, t] = w4 p q r t := by
  unfold word w4 o
  simp only [List.foldl]
  unfold acc
  apply BitVec.eq_of_getLsbD_eq
  intro i hi
  simp only [BitVec.getLsbD_or, BitVec.getLsbD_xor, BitVec.getLsbD_shiftLeft, BitVec.getLsbD_setWidth, hi, decide_true, Bool.true_and]
  have ge : ∀ (b : UInt8) n, 8 ≤ n → b.toBitVec.getLsbD n = false := fun b n h => BitVec.getLsbD_of_ge _ _ h
  by_cases h8 : i < 8
  · simp [h8, show i < 16 by omega, show i < 24 by omega, hi]
  · by_cases h16 : i < 16
    · simp [h8, h16, show i - 8 < 32 by omega, show i - 8 < 8 by omega, show i < 24 by omega, ge t i (by omega)]
    · by_cases h24 : i < 24
      · simp [h8, h16, h24, show i - 8 < 32 by omega, show ¬ i - 8 < 8 by omega, show i - 16 < 32 by omega, ge t i (by omega), ge r (i - 8) (by omega), show i - 8 - 8 = i - 16 by omega, show i - 16 < 8 by omega]
      · simp [h8, h16, h24, show i - 8 < 32 by omega, show ¬ i - 8 < 8 by omega, show i - 16 < 32 by omega, show ¬ i - 16 < 8 by omega, show i - 24 < 32 by omega, ge t i (by omega), ge r (i - 8) (by omega), ge q (i - 16) (by omega), show i - 8 - 8 = i - 16 by omega, show i - 16 - 8 = i - 24 by omega]
theorem w4_nat (p q r t : UInt8) : (w4 p q r t).toNat = p.toNat * 16777216 + q.toNat * 65536 + r.toNat * 256 + t.toNat := by
  have hp := UInt8.toNat_lt p
  have hq := UInt8.toNat_lt q
  have hr := UInt8.toNat_lt r
  have ht := UInt8.toNat_lt t
  have step : ∀ (x : BitVec 32) (b : UInt8), x.toNat < 16777216 → (acc x b).toNat = x.toNat * 256 + b.toNat := by
    intro x b h
    have hb := UInt8.toNat_lt b
    unfold acc
    have h3 : b.toBitVec.toNat = b.toNat := rfl
    rw [BitVec.toNat_or, BitVec.toNat_shiftLeft, BitVec.toNat_setWidth, h3, Nat.mod_eq_of_lt (by omega : b.toNat < 2 ^ 32), Nat.mod_eq_of_lt (by rw [Nat.shiftLeft_eq]; omega), ← Nat.shiftLeft_add_eq_or_of_lt (by omega : b.toNat < 2 ^ 8), Nat.shiftLeft_eq]
  have h0 : (0#32).toNat = 0 := rfl
  have s1 := step 0#32 p (by decide)
  have s2 := step _ q (show (acc 0#32 p).toNat < 16777216 by omega)
  have s3 := step _ r (show (acc (acc 0#32 p) q).toNat < 16777216 by omega)
  have s4 := step _ t (show (acc (acc (acc 0#32 p) q) r).toNat < 16777216 by omega)
  have e : word 0#32 [p, q, r, t] = acc (acc (acc (acc 0#32 p) q) r) t := by unfold word; simp only [List.foldl]
  rw [← word4, e, s4, s3, s2, s1, h0, Nat.zero_mul, Nat.zero_add, Nat.add_mul, Nat.add_mul, Nat.add_mul, Nat.mul_assoc, Nat.mul_assoc, Nat.mul_assoc]
/-- The octets of a word, the highest first. -/
def oct (k : Nat) (n : Nat) : UInt8 := UInt8.ofNat (n / 2 ^ k)
def four (x : BitVec 32) : List UInt8 := [oct 24 x.toNat, oct 16 x.toNat, oct 8 x.toNat, oct 0 x.toNat]
theorem oct_nat (k n : Nat) : (oct k n).toNat = n / 2 ^ k % 256 := by unfold oct; rw [UInt8.toNat_ofNat']
theorem four_word (x : BitVec 32) : w4 (oct 24 x.toNat) (oct 16 x.toNat) (oct 8 x.toNat) (oct 0 x.toNat) = x := by
  apply BitVec.eq_of_toNat_eq
  have := x.isLt
  rw [w4_nat, oct_nat, oct_nat, oct_nat, oct_nat]
  omega
def sealL (l : List UInt8) : List UInt8 := l ++ four (sumB l)
theorem seal_len (l : List UInt8) : (sealL l).length = l.length + 4 := by simp [sealL, four]
theorem seal_crc (l : List UInt8) : crc ones (sealL l) = shn 32 ones := by
  unfold sealL four
  rw [crc_append, crc4, four_word]
  refine congrArg (shn 32) ?_
  unfold sumB
  apply BitVec.eq_of_getLsbD_eq
  intro i hi
  rw [ones_bit i hi]
  simp [hi]
/-- Sealed: the word behind is the sum. -/
theorem sealed_iff (l m : List UInt8) (hm : m.length = 4) : sumB l = word 0#32 m ↔ crc ones (l ++ m) = shn 32 ones := by
  match m, hm with
  | [p, q, r, t], _ =>
    rw [crc_append, crc4, word4]
    unfold sumB
    have e : ∀ x y : BitVec 32, ~~~ x = y ↔ x ^^^ y = ones := by
      intro x y
      constructor
      · intro h; subst h
        apply BitVec.eq_of_getLsbD_eq; intro i hi; rw [ones_bit i hi]; simp [hi]
      · intro h
        apply BitVec.eq_of_getLsbD_eq; intro i hi
        have := congrArg (fun z : BitVec 32 => z.getLsbD i) h
        simp only [ones_bit i hi, BitVec.getLsbD_xor] at this
        rw [BitVec.getLsbD_not]
        revert this
        cases x.getLsbD i <;> cases y.getLsbD i <;> simp [hi]
    rw [e]
    exact ⟨fun h => by rw [h], fun h => shn_inj h⟩
theorem word_four (x : BitVec 32) : word 0#32 (four x) = x := by unfold four; rw [word4, four_word]
theorem four_w4 (p q r t : UInt8) : four (w4 p q r t) = [p, q, r, t] := by
  have hp := UInt8.toNat_lt p
  have hq := UInt8.toNat_lt q
  have hr := UInt8.toNat_lt r
  have ht := UInt8.toNat_lt t
  have ext : ∀ (k : Nat) (b : UInt8), (w4 p q r t).toNat / 2 ^ k % 256 = b.toNat → oct k (w4 p q r t).toNat = b := fun k b h => UInt8.toNat_inj.1 (by rw [oct_nat, h])
  have e := w4_nat p q r t
  unfold four
  rw [ext 24 p (by rw [e]; omega), ext 16 q (by rw [e]; omega), ext 8 r (by rw [e]; omega), ext 0 t (by rw [e]; omega)]
/-- Sealed, as the document says it: what is ahead, sealed, is all. -/
theorem sealed_iff' (l m : List UInt8) (hm : m.length = 4) : sumB l = word 0#32 m ↔ sealL l = l ++ m := by
  match m, hm with
  | [p, q, r, t], _ =>
    unfold sealL
    rw [word4, List.append_cancel_left_eq]
    exact ⟨fun h => by rw [h, four_w4], fun h => by rw [← four_word (sumB l), ← word4]; unfold four at h; rw [h, word4]⟩

/-! The table. -/
theorem ofNat_xor (a b : Nat) : BitVec.ofNat 32 (a ^^^ b) = BitVec.ofNat 32 a ^^^ BitVec.ofNat 32 b := by
  apply BitVec.eq_of_getLsbD_eq; intro i hi; simp [hi]
theorem st_tab (x : BitVec 32) (b : UInt8) : st x b = (x <<< 8) ^^^ tab ((x.toNat / 16777216 % 256) ^^^ b.toNat) := by
  have hb := UInt8.toNat_lt b
  have hx := x.isLt
  obtain ⟨hi, hhi⟩ : ∃ y : BitVec 32, y = BitVec.ofNat 32 (x.toNat / 16777216 * 16777216) := ⟨_, rfl⟩
  obtain ⟨lo, hlo⟩ : ∃ y : BitVec 32, y = BitVec.ofNat 32 (x.toNat % 16777216) := ⟨_, rfl⟩
  have elo : lo.toNat = x.toNat % 16777216 := by rw [hlo, BitVec.toNat_ofNat]; omega
  have ex : x = lo ^^^ hi := by
    rw [hlo, hhi, ← ofNat_xor]
    apply BitVec.eq_of_getLsbD_eq
    intro i hi
    rw [BitVec.getLsbD_ofNat]
    simp only [hi, decide_true, Bool.true_and, Nat.testBit_xor]
    rw [show (16777216 : Nat) = 2 ^ 24 by decide, Nat.testBit_mod_two_pow, Nat.testBit_mul_two_pow, Nat.testBit_div_two_pow]
    show x.toNat.testBit i = _
    by_cases h : i < 24
    · simp [h, show ¬ 24 ≤ i by omega]
    · simp [h, show 24 ≤ i by omega, show i - 24 + 24 = i by omega]
  have e8 : shn 8 lo = x <<< 8 := by
    apply BitVec.eq_of_toNat_eq
    rw [shn_small 8 lo (by decide) (by omega), elo, BitVec.toNat_shiftLeft, Nat.shiftLeft_eq]
    omega
  have et : hi ^^^ o 24 b = BitVec.ofNat 32 (((x.toNat / 16777216 % 256) ^^^ b.toNat) * 16777216) := by
    have h1 : o 24 b = BitVec.ofNat 32 (b.toNat * 16777216) := by
      apply BitVec.eq_of_toNat_eq
      rw [o_nat 24 b (by decide), BitVec.toNat_ofNat]
      omega
    have h2 : x.toNat / 16777216 % 256 = x.toNat / 16777216 := by omega
    rw [h1, hhi, ← ofNat_xor, h2, show (16777216 : Nat) = 2 ^ 24 by decide, ← Nat.shiftLeft_eq, ← Nat.shiftLeft_eq, ← Nat.shiftLeft_eq, Nat.shiftLeft_xor_distrib]
  unfold st tab
  rw [← et, ← e8, ← shn_lin, ← BitVec.xor_assoc, ← ex]
theorem tab_next : ∀ n, n < 256 → 0 < n → tab n = if n % 2 = 1 then sh (tab (n / 2)) ^^^ tk else sh (tab (n / 2)) := by
  intro n h
  have : ∀ i : Fin 256, 0 < i.val → tab i.val = if i.val % 2 = 1 then sh (tab (i.val / 2)) ^^^ tk else sh (tab (i.val / 2)) := by decide +kernel
  exact this ⟨n, h⟩
theorem tab_zero : tab 0 = 0#32 := by decide +kernel

/-! Bits beside one another. -/
def turned (V n : Nat) : BitVec 32 := shn (8 * n) (o 24 (oct 56 V)) ^^^ shn (8 * (n - 1)) (o 24 (oct 48 V)) ^^^ shn (8 * (n - 2)) (o 24 (oct 40 V)) ^^^ shn (8 * (n - 3)) (o 24 (oct 32 V))
theorem turned4 (V n : Nat) (hn : 4 ≤ n) : turned V n = shn (8 * n) (w4 (oct 56 V) (oct 48 V) (oct 40 V) (oct 32 V)) := by
  obtain ⟨m, rfl⟩ : ∃ m, n = m + 4 := ⟨n - 4, by omega⟩
  have e : crc 0#32 [oct 56 V, oct 48 V, oct 40 V, oct 32 V] = shn 32 (w4 (oct 56 V) (oct 48 V) (oct 40 V) (oct 32 V)) := by rw [crc4]; simp
  rw [show 8 * (m + 4) = 32 + 8 * m by omega, shn_add, ← e]
  unfold turned
  have z : ∀ x : BitVec 32, ∀ b, st x b = shn 8 x ^^^ shn 8 (o 24 b) := fun x b => shn_lin 8 x _
  simp only [crc, List.foldl, z, shn_lin]
  have z0 : ∀ n, shn n 0#32 = 0#32 := by
    intro n
    induction n with
    | zero => rfl
    | succ n ih => show shn n (sh 0#32) = _; rw [show sh 0#32 = 0#32 by decide]; exact ih
  simp only [z0, ← shn_add, BitVec.zero_xor]
  rw [show 8 * (m + 4) = 8 + 8 + 8 + 8 + 8 * m by omega, show 8 * (m + 4 - 1) = 8 + 8 + 8 + 8 * m by omega, show 8 * (m + 4 - 2) = 8 + 8 + 8 * m by omega, show 8 * (m + 4 - 3) = 8 + 8 * m by omega]
theorem split_lo (y : BitVec 32) (j : Nat) : ∃ h l : BitVec 32, h ^^^ l = y ∧ h.toNat = y.toNat / 2 ^ j * 2 ^ j ∧ l.toNat = y.toNat % 2 ^ j := by
  have hy := y.isLt
  have h1 : y.toNat / 2 ^ j * 2 ^ j ≤ y.toNat := Nat.div_mul_le_self _ _
  have h2 : y.toNat % 2 ^ j ≤ y.toNat := Nat.mod_le _ _
  refine ⟨BitVec.ofNat 32 (y.toNat / 2 ^ j * 2 ^ j), BitVec.ofNat 32 (y.toNat % 2 ^ j), ?_, ?_, ?_⟩
  · rw [← ofNat_xor]
    apply BitVec.eq_of_getLsbD_eq
    intro i hi
    rw [BitVec.getLsbD_ofNat]
    simp only [hi, decide_true, Bool.true_and, Nat.testBit_xor]
    rw [Nat.testBit_mod_two_pow, Nat.testBit_mul_two_pow, Nat.testBit_div_two_pow]
    show _ = y.toNat.testBit i
    by_cases h : i < j
    · simp [h, show ¬ j ≤ i by omega]
    · simp [h, show j ≤ i by omega, show i - j + j = i by omega]
  · rw [BitVec.toNat_ofNat, Nat.mod_eq_of_lt (by omega)]
  · rw [BitVec.toNat_ofNat, Nat.mod_eq_of_lt (by omega)]
/-- The five octets of a turned word that begins at bit j of the first one. -/
theorem turned_all (y : BitVec 32) (j n : Nat) (hj : j ≤ 7) (hn : 4 ≤ n) (hj0 : n = 4 → j = 0) :
    turned (y.toNat * 2 ^ (32 - j)) n ^^^ (if n = 4 then 0#32 else shn (8 * (n - 4)) (o 24 (oct 24 (y.toNat * 2 ^ (32 - j))))) = shn (8 * n - j) y := by
  have hy := y.isLt
  have hoct := fun k => oct_nat k (y.toNat * 2 ^ (32 - j))
  obtain ⟨h, l, hhl, hh, hl⟩ := split_lo y j
  obtain ⟨w, hw⟩ : ∃ w, w = w4 (oct 56 (y.toNat * 2 ^ (32 - j))) (oct 48 (y.toNat * 2 ^ (32 - j))) (oct 40 (y.toNat * 2 ^ (32 - j))) (oct 32 (y.toNat * 2 ^ (32 - j))) := ⟨_, rfl⟩
  have hwn : w.toNat = y.toNat / 2 ^ j := by
    rw [hw, w4_nat, hoct, hoct, hoct, hoct]
    have : j = 0 ∨ j = 1 ∨ j = 2 ∨ j = 3 ∨ j = 4 ∨ j = 5 ∨ j = 6 ∨ j = 7 := by omega
    rcases this with rfl | rfl | rfl | rfl | rfl | rfl | rfl | rfl <;> omega
  have hws : shn j w = h := by
    apply BitVec.eq_of_toNat_eq
    have : w.toNat * 2 ^ j ≤ y.toNat := by rw [hwn]; exact Nat.div_mul_le_self _ _
    rw [shn_small j w (by omega) (by omega), hwn, hh]
  rw [turned4 _ _ hn, ← hw]
  by_cases h4 : n = 4
  · obtain rfl := hj0 h4
    rw [if_pos h4]
    have : w = y := BitVec.eq_of_toNat_eq (by rw [hwn]; simp)
    rw [this]; simp
  · rw [if_neg h4]
    have hlo : shn (32 - j) l = o 24 (oct 24 (y.toNat * 2 ^ (32 - j))) := by
      apply BitVec.eq_of_toNat_eq
      have : j = 0 ∨ j = 1 ∨ j = 2 ∨ j = 3 ∨ j = 4 ∨ j = 5 ∨ j = 6 ∨ j = 7 := by omega
      rcases this with rfl | rfl | rfl | rfl | rfl | rfl | rfl | rfl <;> (rw [shn_small _ l (by omega) (by omega), o_nat _ _ (by decide), hoct, hl]; omega)
    rw [← hlo, ← shn_add, show 8 * n = j + (8 * n - j) by omega, shn_add, hws, show 32 - j + 8 * (n - 4) = 8 * n - j by omega, show j + (8 * n - j) - j = 8 * n - j by omega, ← shn_lin, hhl]

end Go.Proofs.Ytckbehojcjhcgaa.Crc
