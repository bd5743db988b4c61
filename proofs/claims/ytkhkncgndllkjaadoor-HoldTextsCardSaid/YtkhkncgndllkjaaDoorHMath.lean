/- Plain facts on digits: a number in a width, what digits spell, sums of which each second one is doubled. Conditions: none; nothing of the program is named here. -/
namespace Go.Proofs.YtkhkncgndllkjaaDoor.Cht

def dg1 (n : Nat) : UInt8 := UInt8.ofNat (48 + n % 10)
theorem dg1_nat (n : Nat) : (dg1 n).toNat = 48 + n % 10 := by unfold dg1; rw [UInt8.toNat_ofNat']; omega
theorem u8_ext {a b : UInt8} (h : a.toNat = b.toNat) : a = b := UInt8.toNat_inj.1 h
def isD (c : UInt8) : Bool := decide (48 ≤ c.toNat ∧ c.toNat ≤ 57)
def allD (l : List UInt8) : Bool := l.all isD
theorem isD_t {c : UInt8} : isD c = true ↔ 48 ≤ c.toNat ∧ c.toNat ≤ 57 := by simp [isD]
theorem isD_dg1 (n : Nat) : isD (dg1 n) = true := by rw [isD_t, dg1_nat]; omega
theorem allD_cons (c : UInt8) (l : List UInt8) : allD (c :: l) = (isD c && allD l) := rfl
theorem allD_append (l m : List UInt8) : allD (l ++ m) = (allD l && allD m) := by simp [allD]
theorem allD_mem {l : List UInt8} (h : allD l = true) {c : UInt8} (hc : c ∈ l) : 48 ≤ c.toNat ∧ c.toNat ≤ 57 := by
  have := List.all_eq_true.1 h c hc; exact isD_t.1 this
theorem drop_cons (l : List UInt8) (k : Nat) (h : k < l.length) : l.drop k = l[k] :: l.drop (k + 1) := List.drop_eq_getElem_cons h

/-! ### A number in a width -/
def putL (n : Nat) : Nat → List UInt8
  | 0 => []
  | w + 1 => putL (n / 10) w ++ [dg1 n]
theorem putL_len (n w : Nat) : (putL n w).length = w := by
  induction w generalizing n with
  | zero => rfl
  | succ w ih => simp [putL, ih]
theorem putL_all (n w : Nat) : allD (putL n w) = true := by
  induction w generalizing n with
  | zero => rfl
  | succ w ih => rw [putL, allD_append, ih]; simp [allD, isD_dg1]
theorem putL_front (n w : Nat) : putL n (w + 1) = dg1 (n / 10 ^ w) :: putL n w := by
  induction w generalizing n with
  | zero => simp [putL]
  | succ w ih =>
    rw [putL, ih (n / 10), Nat.div_div_eq_div_mul, Nat.pow_succ, Nat.mul_comm 10]
    rfl
theorem div_step (n k : Nat) : n / 10 ^ k / 10 = n / 10 ^ (k + 1) := by rw [Nat.div_div_eq_div_mul, Nat.pow_succ]
theorem div_zero_iff (n w : Nat) : n / 10 ^ w = 0 ↔ n < 10 ^ w := by
  rw [Nat.div_eq_zero_iff]
  have : 0 < 10 ^ w := Nat.pow_pos (by decide)
  omega
def val (acc : Nat) (l : List UInt8) : Nat := l.foldl (fun a c => a * 10 + (c.toNat - 48)) acc
theorem val_nil (acc : Nat) : val acc [] = acc := rfl
theorem val_cons (acc : Nat) (c : UInt8) (l : List UInt8) : val acc (c :: l) = val (acc * 10 + (c.toNat - 48)) l := by unfold val; rw [List.foldl_cons]
theorem val_append (acc : Nat) (l m : List UInt8) : val acc (l ++ m) = val (val acc l) m := by unfold val; rw [List.foldl_append]
theorem val_put (n w : Nat) (h : n < 10 ^ w) : val 0 (putL n w) = n := by
  induction w generalizing n with
  | zero => simp at h; subst h; rfl
  | succ w ih =>
    rw [putL, val_append, ih (n / 10) (by rw [Nat.pow_succ] at h; omega), val_cons, val_nil, dg1_nat]; omega
theorem pow19 {k : Nat} (h : k ≤ 18) : 10 ^ k ≤ 1000000000000000000 := by
  have : (10 : Nat) ^ k ≤ 10 ^ 18 := Nat.pow_le_pow_right (by decide) h
  simpa using this
theorem pow_s (k : Nat) : 10 ^ (k + 1) = 10 * 10 ^ k := by rw [Nat.pow_succ]; omega

/-! ### Sums of which each second one is doubled -/
def wv (b : Bool) (d : Nat) : Nat := if b then (if 4 < d then 2 * d - 9 else 2 * d) else d
def ls (o : Nat) : List UInt8 → Nat
  | [] => 0
  | c :: l => wv ((l.length + 1 + o) % 2 == 0) (c.toNat - 48) + ls o l
theorem ls_cons (o : Nat) (c : UInt8) (l : List UInt8) : ls o (c :: l) = wv ((l.length + 1 + o) % 2 == 0) (c.toNat - 48) + ls o l := rfl
theorem ls_append (o : Nat) (a r : List UInt8) : ls o (a ++ r) = ls (o + r.length) a + ls o r := by
  induction a with
  | nil => simp [ls]
  | cons c a ih =>
    rw [List.cons_append, ls_cons, ls_cons, ih, List.length_append]
    rw [show a.length + r.length + 1 + o = a.length + 1 + (o + r.length) by omega]
    omega
theorem wv_le {b : Bool} {d : Nat} (h : d ≤ 9) : wv b d ≤ 9 := by unfold wv; split <;> (try split) <;> omega
theorem ls_le (o : Nat) (l : List UInt8) (h : allD l = true) : ls o l ≤ 9 * l.length := by
  induction l with
  | nil => simp [ls]
  | cons c l ih =>
    rw [allD_cons, Bool.and_eq_true] at h
    have hc := isD_t.1 h.1
    have := ih h.2
    have := wv_le (b := (l.length + 1 + o) % 2 == 0) (d := c.toNat - 48) (by omega)
    rw [ls_cons, List.length_cons]; omega
def soundL (l : List UInt8) : Bool := decide (2 ≤ l.length) && allD l && (ls 0 l % 10 == 0)
def okL (l : List UInt8) : Bool := !l.isEmpty && allD l
def lastL (l : List UInt8) : UInt8 := dg1 (10 - ls 1 l % 10)
def signL (l : List UInt8) : List UInt8 := l ++ [lastL l]
theorem lastL_D (l : List UInt8) : isD (lastL l) = true := isD_dg1 _
theorem sound_snoc {l : List UInt8} (h : okL l = true) {c : UInt8} (hc : isD c = true) : soundL (l ++ [c]) = (c == lastL l) := by
  unfold okL at h
  rw [Bool.and_eq_true] at h
  have hl : 1 ≤ l.length := by
    cases l with
    | nil => simp at h
    | cons _ _ => simp
  unfold soundL
  rw [allD_append, h.2, ls_append]
  have hc' := isD_t.1 hc
  have e1 : ls 0 [c] = c.toNat - 48 := by simp [ls, wv]
  rw [e1]
  have e2 : allD [c] = true := by simp [allD, hc]
  rw [e2]
  have e3 : (c == lastL l) = decide (c.toNat = 48 + (10 - ls 1 l % 10) % 10) := by
    rw [Bool.eq_iff_iff]; simp only [beq_iff_eq, decide_eq_true_eq]
    unfold lastL
    constructor
    · intro h; rw [h, dg1_nat]
    · intro h; apply u8_ext; rw [dg1_nat]; exact h
  rw [e3, Bool.eq_iff_iff]
  simp
  constructor
  · rintro ⟨_, h⟩; omega
  · intro h; exact ⟨by omega, by omega⟩
theorem sign_sound {l : List UInt8} (h : okL l = true) : soundL (signL l) = true := by
  unfold signL; rw [sound_snoc h (lastL_D l)]; simp
theorem sign_all {l : List UInt8} (h : okL l = true) : allD (signL l) = true := by
  unfold okL at h; rw [Bool.and_eq_true] at h
  unfold signL; rw [allD_append, h.2]; simp [allD, lastL_D]
theorem sign_len (l : List UInt8) : (signL l).length = l.length + 1 := by simp [signL]

/-! ### A wrong digit; two that are exchanged -/
theorem wv_inj {b : Bool} {x y : Nat} (hx : x ≤ 9) (hy : y ≤ 9) (h : wv b x = wv b y) : x = y := by
  unfold wv at h; split at h
  · split at h <;> split at h <;> omega
  · exact h
theorem one_wrong (a r : List UInt8) (x d : UInt8) (hs : soundL (a ++ x :: r) = true) (hd : isD d = true) (hne : d ≠ x) : soundL (a ++ d :: r) = false := by
  unfold soundL at hs ⊢
  simp only [Bool.and_eq_true, decide_eq_true_eq, beq_iff_eq] at hs
  obtain ⟨⟨hl, ha⟩, hm⟩ := hs
  rw [ls_append, ls_cons] at hm
  have hx : 48 ≤ x.toNat ∧ x.toNat ≤ 57 := allD_mem ha (by simp)
  have hd' := isD_t.1 hd
  have e : ls 0 (a ++ d :: r) % 10 ≠ 0 := by
    rw [ls_append, ls_cons]
    intro h
    simp only [List.length_cons] at hm h
    have h1 := wv_le (b := (r.length + 1 + 0) % 2 == 0) (d := x.toNat - 48) (by omega)
    have h2 := wv_le (b := (r.length + 1 + 0) % 2 == 0) (d := d.toNat - 48) (by omega)
    have h3 := wv_inj (b := (r.length + 1 + 0) % 2 == 0) (x := x.toNat - 48) (y := d.toNat - 48) (by omega) (by omega) (by omega)
    exact hne (u8_ext (by omega))
  have : (ls 0 (a ++ d :: r) % 10 == 0) = false := by simpa using e
  rw [this, Bool.and_false]
def endsB (x y : UInt8) : Bool := (x == 48 && y == 57) || (x == 57 && y == 48)
theorem wv_swap : ∀ b : Bool, ∀ x : Fin 10, ∀ y : Fin 10, x ≠ y → ((wv b x + wv (!b) y) % 10 = (wv b y + wv (!b) x) % 10 ↔ (x.1 = 0 ∧ y.1 = 9) ∨ (x.1 = 9 ∧ y.1 = 0)) := by decide
theorem par_flip (n : Nat) : ((n + 1) % 2 == 0) = !(n % 2 == 0) := by
  rcases Nat.mod_two_eq_zero_or_one n with h | h
  · have : (n + 1) % 2 = 1 := by omega
    rw [h, this]; rfl
  · have : (n + 1) % 2 = 0 := by omega
    rw [h, this]; rfl
theorem two_swapped (a r : List UInt8) (x y : UInt8) (hs : soundL (a ++ x :: y :: r) = true) (hne : x ≠ y) : soundL (a ++ y :: x :: r) = endsB x y := by
  unfold soundL at hs ⊢
  simp only [Bool.and_eq_true, decide_eq_true_eq, beq_iff_eq] at hs
  obtain ⟨⟨hl, ha⟩, hm⟩ := hs
  have hx : 48 ≤ x.toNat ∧ x.toNat ≤ 57 := allD_mem ha (by simp)
  have hy : 48 ≤ y.toNat ∧ y.toNat ≤ 57 := allD_mem ha (by simp)
  have ha' : allD (a ++ y :: x :: r) = true := by
    rw [allD_append, allD_cons, allD_cons] at ha ⊢
    revert ha
    cases allD a <;> cases isD x <;> cases isD y <;> cases allD r <;> simp
  have hl' : 2 ≤ (a ++ y :: x :: r).length := by simp at hl ⊢; omega
  rw [ha', decide_eq_true hl', Bool.true_and, Bool.true_and]
  rw [ls_append, ls_cons, ls_cons] at hm ⊢
  simp only [List.length_cons] at hm ⊢
  obtain ⟨b, hb⟩ : ∃ b, ((r.length + 1 + 0) % 2 == 0) = b := ⟨_, rfl⟩
  have hb2 : ((r.length + 1 + 1 + 0) % 2 == 0) = !b := by rw [← hb]; exact par_flip _
  rw [hb, hb2] at hm ⊢
  have hsw := wv_swap (!b) ⟨x.toNat - 48, by omega⟩ ⟨y.toNat - 48, by omega⟩ (by intro h; apply hne; apply u8_ext; have := congrArg Fin.val h; simp at this; omega)
  rw [Bool.not_not] at hsw
  simp only at hsw
  have e : endsB x y = decide ((x.toNat - 48 = 0 ∧ y.toNat - 48 = 9) ∨ (x.toNat - 48 = 9 ∧ y.toNat - 48 = 0)) := by
    rw [Bool.eq_iff_iff]
    unfold endsB
    simp only [Bool.or_eq_true, Bool.and_eq_true, beq_iff_eq, decide_eq_true_eq]
    have k : ∀ z : UInt8, z = 48 ↔ z.toNat = 48 := fun z => ⟨fun h => by rw [h]; rfl, fun h => u8_ext (by rw [h]; rfl)⟩
    have k' : ∀ z : UInt8, z = 57 ↔ z.toNat = 57 := fun z => ⟨fun h => by rw [h]; rfl, fun h => u8_ext (by rw [h]; rfl)⟩
    rw [k, k, k', k']; omega
  rw [e, Bool.eq_iff_iff]
  simp only [beq_iff_eq, decide_eq_true_eq]
  rw [← hsw]
  omega

/-! ### Order -/
theorem put_order (n m w : Nat) : (putL n w < putL m w) ↔ n % 10 ^ w < m % 10 ^ w := by
  induction w with
  | zero => simp [putL, Nat.mod_one]
  | succ w ih =>
    rw [putL_front, putL_front, List.cons_lt_cons_iff, ih, UInt8.lt_iff_toNat_lt, dg1_nat, dg1_nat]
    have k : ∀ x : Nat, x % 10 ^ (w + 1) = x % 10 ^ w + 10 ^ w * (x / 10 ^ w % 10) := fun x => by rw [Nat.pow_succ, Nat.mod_mul]
    rw [k n, k m]
    have hn := Nat.mod_lt n (Nat.pow_pos (n := w) (show 0 < 10 by decide))
    have hm := Nat.mod_lt m (Nat.pow_pos (n := w) (show 0 < 10 by decide))
    have e : dg1 (n / 10 ^ w) = dg1 (m / 10 ^ w) ↔ n / 10 ^ w % 10 = m / 10 ^ w % 10 := by
      constructor
      · intro h; have := congrArg UInt8.toNat h; rw [dg1_nat, dg1_nat] at this; omega
      · intro h; apply u8_ext; rw [dg1_nat, dg1_nat, h]
    rw [e]
    generalize n / 10 ^ w % 10 = a at *
    generalize m / 10 ^ w % 10 = b at *
    generalize n % 10 ^ w = x at *
    generalize m % 10 ^ w = y at *
    generalize 10 ^ w = p at *
    constructor
    · rintro (h | ⟨h, h2⟩)
      · have : p * (a + 1) ≤ p * b := Nat.mul_le_mul_left p (by omega)
        rw [Nat.mul_add] at this; omega
      · subst h; omega
    · intro h
      rcases Nat.lt_trichotomy a b with hab | hab | hab
      · exact .inl (by omega)
      · subst hab; exact .inr ⟨rfl, by omega⟩
      · have : p * (b + 1) ≤ p * a := Nat.mul_le_mul_left p (by omega)
        rw [Nat.mul_add] at this; omega
end Go.Proofs.YtkhkncgndllkjaaDoor.Cht
