/- Contracts: numbers as octets (get, Number), Sectors, May, few, and the library's search for an octet that is not nought. -/
import Derived.Test.YtckbehojcjhcgaaFMath
import Derived.Test.YtckbehojcjhcgaaC8
import Derived.LoopTactic
namespace Go.Proofs.Ytckbehojcjhcgaa.Fra
open Go.RowKit Crc Chk Frm

theorem retb {a b : Bool} (h : a = b) : Ending.returned (.bool a) = .returned (.bool b) := by rw [h]
theorem ofInt_i64 (a : Nat) (ha : a < 9223372036854775808) : (BitVec.ofInt 64 (a : Int)).toNat = a := by
  rw [BitVec.toNat_ofInt]
  omega
theorem or_i64 (n : Nat) (b : UInt8) (h : n < 36028797018963968) : bits .or .i64 ((n : Int) * 256) (b.toNat : Int) = ((n * 256 + b.toNat : Nat) : Int) := by
  have hb := UInt8.toNat_lt b
  show IntKind.i64.wrap ((BitVec.ofInt 64 ((n : Int) * 256) ||| BitVec.ofInt 64 (b.toNat : Int)).toNat : Int) = _
  rw [show ((n : Int) * 256) = ((n * 256 : Nat) : Int) by omega, BitVec.toNat_or, ofInt_i64 _ (by omega), ofInt_i64 _ (by omega), nat_join 8 _ _ (by omega) (by omega)]
  exact IntWalk.i64_in _ (by omega)
theorem pow_le7 {k : Nat} (h : k ≤ 7) : 256 ^ k ≤ 72057594037927936 := by
  calc 256 ^ k ≤ 256 ^ 7 := Nat.pow_le_pow_right (by decide) h
    _ = 72057594037927936 := by decide
theorem numFrom_cons (y : Nat) (b : UInt8) (l : List UInt8) : numFrom y (b :: l) = numFrom (y * 256 + b.toNat) l := rfl
theorem left_lt {y : Nat} {l : List UInt8} {n : Nat} (h : numFrom y l = n) (h0 : 0 < l.length) (hn : n < 72057594037927936) : y < 281474976710656 := by
  have h1 := numFrom_eq l y
  have h2 : 256 ^ 1 ≤ 256 ^ l.length := Nat.pow_le_pow_right (by decide) h0
  have h3 : y * 256 ≤ y * 256 ^ l.length := Nat.mul_le_mul_left _ (by omega)
  omega
def sectI (n : Int) : Int := if 0 ≤ n ∧ n ≤ 6000 then (n + 83) / 64 else 0
def mayB (s : Int) (n : Nat) : Bool := decide (1 ≤ s) && (decide (s ≤ 281474976710655) && decide (n ≤ 6000))
/-- No more octets than are looked at. -/
def fw (l : List UInt8) : List UInt8 := if 400 < l.length ∧ l.length ≤ 6000 then l.take 400 else l.take 6001
theorem fw_len (l : List UInt8) : (fw l).length ≤ 6001 := by unfold fw; split <;> simp <;> omega
theorem fw_octs {w : World} {B : Nat} {A : Option Addr} {l : List UInt8} (h : Octs w B A l) : Octs w B A (fw l) := by
  unfold fw; split
  · exact h.take 400
  · exact h.take 6001
def FoundB (b : Bool) (w : World) (e : Ending) (w' : World) : Prop := ∃ r : Int, e = .returned (.int .i64 r) ∧ decide (0 ≤ r) = b ∧ w = w'
def some8 (l : List UInt8) : Bool := l.any fun b => !(b == 0)
theorem some8_noughts (k : Nat) : some8 (noughts8 k) = false := by
  unfold some8
  rw [List.any_eq_false]
  intro b hb
  obtain rfl := List.eq_of_mem_replicate hb
  decide
theorem some8_iff (l : List UInt8) : some8 l = false ↔ l = noughts8 l.length := by
  constructor
  · intro h
    unfold some8 at h
    rw [List.any_eq_false] at h
    refine List.eq_replicate_iff.2 ⟨rfl, fun b hb => ?_⟩
    have := h b hb
    simpa using this
  · intro h
    rw [h]; exact some8_noughts _
end Go.Proofs.Ytckbehojcjhcgaa.Fra
