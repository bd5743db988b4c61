/- Plain facts on the text of an amount: its digits, how they are parsed, that each text has one amount. Conditions: none; nothing of the program is named here. -/
import Derived.Test.YtkhkncgndllkjaaDoorMMath
import Derived.Lib.ItoaNum
import Derived.Lib.ParseIntB
import Derived.Lib.IndexMore
import Derived.Lib.Strings
namespace Go.Proofs.YtkhkncgndllkjaaDoor.Mny.Txt
open Go.Lib

def Dig (c : UInt8) : Prop := 48 ≤ c.toNat ∧ c.toNat ≤ 57
instance (c : UInt8) : Decidable (Dig c) := inferInstanceAs (Decidable (_ ∧ _))
def dg1 (n : Nat) : UInt8 := UInt8.ofNat (48 + n % 10)
theorem dg1_nat (n : Nat) : (dg1 n).toNat = 48 + n % 10 := by unfold dg1; rw [UInt8.toNat_ofNat']; omega
theorem dg1_dig (n : Nat) : Dig (dg1 n) := by unfold Dig; rw [dg1_nat]; omega
def two (r : Nat) : List UInt8 := [dg1 (r / 10), dg1 r]
def body (n : Nat) : List UInt8 := decDigits (n / 100) ++ 46 :: two n
def txt (a : Int) : List UInt8 := if a < 0 then 45 :: body a.natAbs else body a.natAbs

theorem dec_small {u : Nat} (h : u < 10) : decDigits u = [dg1 u] := by rw [decDigits_one h]; unfold dg1; rw [Nat.mod_eq_of_lt h]
theorem dec_big {u : Nat} (h : ¬ u < 10) : decDigits u = decDigits (u / 10) ++ [dg1 u] := by rw [decDigits, dif_neg h]; rfl
theorem dec_dig (u : Nat) : ∀ c ∈ decDigits u, Dig c := by
  induction u using Nat.strongRecOn with
  | _ u ih =>
    intro c hc
    by_cases h : u < 10
    · rw [dec_small h] at hc; simp at hc; subst hc; exact dg1_dig u
    · rw [dec_big h] at hc
      rcases List.mem_append.1 hc with hc | hc
      · exact ih (u / 10) (by omega) c hc
      · simp at hc; subst hc; exact dg1_dig u
theorem dec_ne (u : Nat) : decDigits u ≠ [] := by
  by_cases h : u < 10
  · rw [dec_small h]; simp
  · rw [dec_big h]; simp
theorem two_dig (r : Nat) : ∀ c ∈ two r, Dig c := by
  intro c hc; unfold two at hc; simp at hc; rcases hc with rfl | rfl <;> exact dg1_dig _

/-- What digits spell. -/
def val (acc : Nat) (l : List UInt8) : Nat := l.foldl (fun a c => a * 10 + (c.toNat - 48)) acc
theorem val_nil (acc : Nat) : val acc [] = acc := rfl
theorem val_cons (acc : Nat) (c : UInt8) (l : List UInt8) : val acc (c :: l) = val (acc * 10 + (c.toNat - 48)) l := by unfold val; rw [List.foldl_cons]
theorem val_append (acc : Nat) (l m : List UInt8) : val acc (l ++ m) = val (val acc l) m := by unfold val; rw [List.foldl_append]
theorem val_le (l : List UInt8) : ∀ acc, acc ≤ val acc l := by
  induction l with
  | nil => intro acc; exact Nat.le_refl _
  | cons c r ih => intro acc; rw [val_cons]; have := ih (acc * 10 + (c.toNat - 48)); omega
theorem val_dec (u : Nat) : val 0 (decDigits u) = u := by
  induction u using Nat.strongRecOn with
  | _ u ih =>
    by_cases h : u < 10
    · rw [dec_small h, val_cons, val_nil, dg1_nat]; omega
    · rw [dec_big h, val_append, ih (u / 10) (by omega), val_cons, val_nil, dg1_nat]; omega
theorem val_two (q r : Nat) : val q (two r) = q * 100 + r % 100 := by
  unfold two; rw [val_cons, val_cons, val_nil, dg1_nat, dg1_nat]; omega
theorem val_body (n : Nat) : val 0 (decDigits (n / 100) ++ two n) = n := by rw [val_append, val_dec, val_two]; omega
theorem parse_digits (l : List UInt8) : ∀ acc, (∀ c ∈ l, Dig c) → val acc l ≤ 18446744073709551615 → parseUintM 18446744073709551615 acc l = .ok (val acc l) := by
  induction l with
  | nil => intro acc _ _; rfl
  | cons c r ih =>
    intro acc hd hv
    have hc := hd c (by simp)
    rw [val_cons] at hv
    have hle := val_le r (acc * 10 + (c.toNat - 48))
    have e : 48 ≤ c.toNat ∧ c.toNat ≤ 57 := hc
    rw [parseUintM, if_pos e, if_neg (by omega), if_neg (by omega), ih _ (fun x hx => hd x (by simp [hx])) hv, val_cons]
theorem digs (n : Nat) : ∀ c ∈ decDigits (n / 100) ++ two n, Dig c := fun c hc => by
  rcases List.mem_append.1 hc with h | h
  · exact dec_dig _ c h
  · exact two_dig _ c h
theorem parse_body (n : Nat) (h : n < 18446744073709551616) : parseUintB 64 (decDigits (n / 100) ++ two n) = .ok n := by
  unfold parseUintB
  rw [if_neg (by simp [two])]
  have e := parse_digits (decDigits (n / 100) ++ two n) 0 (digs n) (by rw [val_body]; omega)
  rw [val_body] at e
  exact e

/-! ### Sign and dot -/
theorem head_body (n : Nat) : ∃ c r, body n = c :: r ∧ Dig c := by
  unfold body
  rcases hd : decDigits (n / 100) with _ | ⟨c, r⟩
  · exact absurd hd (dec_ne _)
  · exact ⟨c, _, rfl, dec_dig (n / 100) c (by rw [hd]; simp)⟩
theorem minus_body (n : Nat) : hasPrefix (body n) [45] = false := by
  obtain ⟨c, r, e, hd⟩ := head_body n
  rw [e]
  unfold hasPrefix Dig at *
  simp [List.isPrefixOf]
  intro h; subst h; simp at hd
theorem minus_txt (a : Int) : hasPrefix (txt a) [45] = decide (a < 0) := by
  unfold txt
  by_cases h : a < 0
  · rw [if_pos h]; simp [hasPrefix, List.isPrefixOf, h]
  · rw [if_neg h, minus_body]; simp; omega
theorem trim_txt (a : Int) : trimPrefix (txt a) [45] = body a.natAbs := by
  unfold trimPrefix
  rw [minus_txt]
  unfold txt
  by_cases h : a < 0
  · rw [if_pos (by simpa using h), if_pos h]; rfl
  · rw [if_neg (by simpa using h), if_neg h]
theorem cut_body (n : Nat) : cut (body n) [46] = (decDigits (n / 100), two n, true) := by
  have hi : index (body n) [46] = (decDigits (n / 100)).length := by
    refine index_first (by unfold body; simp) ?_ ?_
    · unfold occAt body; rw [List.drop_left]; simp [List.isPrefixOf]
    · intro j hj
      unfold occAt body
      rw [List.drop_append_of_le_length (by omega), List.drop_eq_getElem_cons hj]
      have hd := dec_dig (n / 100) _ (List.getElem_mem hj)
      simp only [List.cons_append, List.isPrefixOf, Bool.and_true]
      rw [beq_eq_false_iff_ne]
      intro h
      rw [← h] at hd
      unfold Dig at hd; simp at hd
  unfold cut
  rw [hi, if_pos (by omega)]
  unfold body
  simp [two]

/-! ### The amount of a text, as the program finds it -/
def half (s : List UInt8) : List UInt8 := (cut (trimPrefix s [45]) [46]).1 ++ (cut (trimPrefix s [45]) [46]).2.1
def rd (s : List UInt8) : Option Int :=
  match parseUintB 64 (half s) with
  | .ok n => if Fits (sg (hasPrefix s [45]) n) ∧ txt (sg (hasPrefix s [45]) n) = s then some (sg (hasPrefix s [45]) n) else none
  | _ => none
theorem sg_abs (a : Int) : sg (decide (a < 0)) a.natAbs = a := by
  unfold sg
  by_cases h : a < 0
  · rw [if_pos (by simpa using h)]; omega
  · rw [if_neg (by simpa using h)]; omega
theorem rd_txt {a : Int} (h : Fits a) : rd (txt a) = some a := by
  have hn := natAbs_le h
  unfold rd half
  rw [trim_txt, cut_body, minus_txt]
  simp only
  rw [parse_body _ (by omega)]
  simp only [sg_abs]
  rw [if_pos ⟨h, trivial⟩]
theorem rd_some {s : List UInt8} {a : Int} (h : rd s = some a) : Fits a ∧ txt a = s := by
  unfold rd at h
  split at h
  · rename_i n _
    by_cases c : Fits (sg (hasPrefix s [45]) n) ∧ txt (sg (hasPrefix s [45]) n) = s
    · rw [if_pos c] at h
      injection h with h
      rw [← h]; exact c
    · rw [if_neg c] at h; cases h
  · cases h
theorem rd_ok {s : List UInt8} {n : Nat} (h : parseUintB 64 (half s) = .ok n) : rd s = if Fits (sg (hasPrefix s [45]) n) ∧ txt (sg (hasPrefix s [45]) n) = s then some (sg (hasPrefix s [45]) n) else none := by
  unfold rd; rw [h]

/-! ### The document's way: from the front, below 0 -/
def rp (n : Nat) : Nat → List UInt8 → Int → Option Int
  | _, [], a => some a
  | i, c :: r, a =>
    if i + 3 = n ∧ c = 46 then rp n (i + 1) r a
    else if ¬ Dig c then none
    else if a < -922337203685477580 ∨ a = -922337203685477580 ∧ 8 < (c.toNat : Int) - 48 then none
    else rp n (i + 1) r (10 * a - ((c.toNat : Int) - 48))
theorem dig_dot {c : UInt8} (h : Dig c) : c ≠ 46 := by
  intro e; subst e; unfold Dig at h; simp at h
theorem rp_digits (n : Nat) (t : List UInt8) (l : List UInt8) : ∀ i v, (∀ c ∈ l, Dig c) → val v l ≤ 9223372036854775808 →
    rp n i (l ++ t) (-(v : Int)) = rp n (i + l.length) t (-(val v l : Nat)) := by
  induction l with
  | nil => intro i v _ _; rfl
  | cons c r ih =>
    intro i v hd hv
    have hc := hd c (by simp)
    have hc' : 48 ≤ c.toNat ∧ c.toNat ≤ 57 := hc
    rw [val_cons] at hv
    have hle := val_le r (v * 10 + (c.toNat - 48))
    rw [List.cons_append, rp, if_neg (fun h => dig_dot hc h.2), if_neg (not_not_intro hc), if_neg (by omega)]
    rw [show 10 * -(v : Int) - ((c.toNat : Int) - 48) = -((v * 10 + (c.toNat - 48) : Nat) : Int) from by omega]
    rw [ih _ _ (fun x hx => hd x (by simp [hx])) hv, List.length_cons, val_cons]
    congr 1; omega
theorem rp_body (m at_ n : Nat) (h : m ≤ 9223372036854775808) (hn : n = at_ + (body m).length) : rp n at_ (body m) 0 = some (-(m : Int)) := by
  have h1 := val_body m
  rw [val_append] at h1
  have hv1 : val 0 (decDigits (m / 100)) = m / 100 := val_dec _
  rw [hv1] at h1
  have e0 : (0 : Int) = -((0 : Nat) : Int) := rfl
  unfold body at *
  rw [e0, rp_digits n _ _ at_ 0 (dec_dig _) (by rw [hv1]; omega), hv1]
  have hdot : at_ + (decDigits (m / 100)).length + 3 = n := by rw [hn, List.length_append]; simp [two]; omega
  rw [rp, if_pos ⟨hdot, rfl⟩]
  have h2 := rp_digits n [] (two m) (at_ + (decDigits (m / 100)).length + 1) (m / 100) (two_dig m) (by rw [h1]; omega)
  rw [List.append_nil, h1] at h2
  rw [h2]; rfl
/-- What the document's parse comes to. -/
def at0 (s : List UInt8) : Nat := if hasPrefix s [45] then 1 else 0
def rsome (s : List UInt8) (x : Int) : Prop := rp s.length (at0 s) (s.drop (at0 s)) 0 = some x
theorem rp_txt {a : Int} (h : Fits a) : rsome (txt a) (-(a.natAbs : Int)) := by
  have hn := natAbs_le h
  unfold rsome at0
  rw [minus_txt]
  by_cases c : a < 0
  · rw [if_pos (by simpa using c)]
    unfold txt
    rw [if_pos c]
    exact rp_body _ _ _ hn (by simp; omega)
  · rw [if_neg (by simpa using c)]
    unfold txt
    rw [if_neg c]
    exact rp_body _ _ _ hn (by simp)
end Go.Proofs.YtkhkncgndllkjaaDoor.Mny.Txt
