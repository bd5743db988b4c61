/- Plain facts: a frame of which bits beside one another are turned over is refused. No Go here. -/
import Derived.Test.YtckgfbpgomkpnaaMath
namespace Go.Proofs.Ytckgfbpgomkpnaa.Frm
open Crc

theorem crc_lay (s : Nat) (d : List UInt8) : crc ones (lay s d) = crc (shn 32 ones) (noughts8 (pad d.length)) := by
  unfold lay
  rw [crc_append, seal_crc]
theorem rd_turned (s : Nat) (d x : List UInt8) (hl : x.length = size d.length) (hc : cntOf x = d.length) (hx : crc ones x ≠ crc ones (lay s d)) : ∃ e : Nat, e ≠ 0 ∧ rd x = (0, [], 0, e) := by
  have hsz := size_ge d.length
  unfold rd
  rw [if_neg (by omega)]
  by_cases hy : headOk x
  · rw [if_neg (by simpa using hy), if_neg (by rw [hc]; omega)]
    by_cases h1 : sumsOk x
    · rw [if_neg (by simpa using h1)]
      by_cases h2 : padOk x
      · exfalso
        have h3 := (pad_iff x hy (by rw [hc]; omega) h1).1 h2
        rw [hc, List.take_of_length_le (by omega)] at h3
        have h4 := crc_lay (seqOf x) (datOf x)
        rw [h3, dat_len x (by rw [hc]; omega), hc, ← crc_lay s d] at h4
        exact hx h4
      · exact ⟨4, by decide, by rw [if_pos h2]⟩
    · exact ⟨6, by decide, by rw [if_pos h1]⟩
  · exact ⟨4, by decide, by rw [if_pos hy]⟩
theorem cnt_lay (s : Nat) (d : List UInt8) (hs : s < 281474976710656) (hd : d.length ≤ 6000) : cntOf (lay s d) = d.length := by
  obtain ⟨_, _, h3, _, _⟩ := parts_of s (be 2 d.length) (four (sumB d)) (d ++ (four (sumB (pre s d)) ++ (noughts8 (pad d.length) ++ []))) hs (be_len _ _) rfl
  rw [← lay_shape, List.append_nil] at h3
  rw [h3, num_be 2 _ (by omega)]
/-- An octet that is turned elsewhere leaves the count; one that is turned by nought leaves all. -/
theorem cnt_set (x : List UInt8) (p : Nat) (b : UInt8) (h : p ≠ 10 ∧ p ≠ 11) : cntOf (x.set p b) = cntOf x := by
  unfold cntOf
  congr 1
  apply List.ext_getElem?
  intro i
  simp only [List.getElem?_take, List.getElem?_drop, List.getElem?_set]
  by_cases hi : i < 2
  · rw [if_pos hi, if_pos hi, if_neg (by omega)]
  · rw [if_neg hi, if_neg hi]
theorem set_none (x : List UInt8) (p : Nat) (b : UInt8) (h : x[p]? = some b) : x.set p (b ^^^ 0) = x := by
  obtain ⟨hp, e⟩ := List.getElem?_eq_some_iff.1 h
  rw [UInt8.xor_zero, ← e, List.set_getElem_self]
/-- What the first octets of a turned word add. -/
def tn (V m : Nat) : Nat → BitVec 32
  | 0 => 0#32
  | q + 1 => tn V m q ^^^ shn (8 * (m - q)) (o 24 (oct (56 - 8 * q) V))
theorem tn4 (V m : Nat) : tn V m 4 = turned V m := by simp [tn, turned]
theorem tn5 (V m : Nat) : tn V m 5 = turned V m ^^^ shn (8 * (m - 4)) (o 24 (oct 24 V)) := by
  show tn V m 4 ^^^ _ = _
  rw [tn4]
theorem tn_some (y : BitVec 32) (j m q : Nat) (hy : y ≠ 0#32) (hj : j ≤ 7) (hj4 : m = 4 → j = 0) (hq : (q = 5 ∧ 5 ≤ m) ∨ (q = 4 ∧ m = 4)) : tn (y.toNat * 2 ^ (32 - j)) m q ≠ 0#32 := by
  rcases hq with ⟨rfl, h5⟩ | ⟨rfl, rfl⟩
  · have h := turned_all y j m hj (by omega) hj4
    rw [if_neg (by omega)] at h
    rw [tn5, h]
    exact fun e => hy (shn_nought e)
  · have h := turned_all y j 4 hj (by decide) hj4
    rw [if_pos rfl, BitVec.xor_zero] at h
    rw [tn4, h]
    exact fun e => hy (shn_nought e)
theorem xor_ne {a b : BitVec 32} (hb : b ≠ 0#32) : a ^^^ b ≠ a := by
  intro e
  apply hb
  have := congrArg (a ^^^ ·) e
  simp only [← BitVec.xor_assoc, BitVec.xor_self] at this
  simpa using this
end Go.Proofs.Ytckgfbpgomkpnaa.Frm
