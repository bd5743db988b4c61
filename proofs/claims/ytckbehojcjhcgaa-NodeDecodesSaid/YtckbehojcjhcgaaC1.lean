/- Contracts: a word shifted by one bit; octets as a word. -/
import Derived.Test.YtckbehojcjhcgaaCMath
import Derived.Test.YtckbehojcjhcgaaProg
import Derived.Laws.BitsAllLaws
import Derived.Tactics
import Derived.WalkKit
import Derived.Below
import Derived.Lib.Hide
import Derived.Lib.Walk
namespace Go.Proofs.Ytckbehojcjhcgaa.Chk
open Go.RowKit Crc

theorem ret1 {k : IntKind} {a b : Int} (h : a = b) : Ending.returned (.int k a) = .returned (.int k b) := by rw [h]
theorem sh_hi (x : BitVec 32) (h : 2147483648 ≤ x.toNat) : bits .xor .u32 ((x.toNat : Int) * 2 % 4294967296) 79764919 = ((sh x).toNat : Int) := by
  have hx := x.isLt
  have hm : x.msb = true := by rw [BitVec.msb_eq_decide]; simpa using h
  have e : ((x.toNat : Int) * 2 % 4294967296) = ((x.toNat * 2 % 4294967296 : Nat) : Int) := by omega
  rw [e, show (79764919 : Int) = ((79764919 : Nat) : Int) by rfl, u32_xor_nat _ _ (by omega) (by decide)]
  unfold sh
  rw [hm, if_pos rfl, BitVec.toNat_xor, BitVec.toNat_shiftLeft, Nat.shiftLeft_eq]
  rfl
theorem sh_lo (x : BitVec 32) (h : x.toNat < 2147483648) : (x.toNat : Int) * 2 % 4294967296 = ((sh x).toNat : Int) := by
  have hm : x.msb = false := by rw [BitVec.msb_eq_decide]; simp; omega
  unfold sh
  rw [hm, if_neg (by decide), BitVec.toNat_shiftLeft, Nat.shiftLeft_eq]
  omega

theorem shift_any (x : BitVec 32) (w : World) :
    Calls Try.prog 56 #[.int .u32 (x.toNat : Int)] w fun e w' => e = .returned (.int .u32 ((sh x).toNat : Int)) ∧ w = w' := by
  have hx := x.isLt
  obtain ⟨n, hn⟩ : ∃ n, n = x.toNat := ⟨_, rfl⟩
  rw [← hn] at hx ⊢
  have HN := Lib.hid hn
  clear hn
  by_cases h : 2147483648 ≤ n
  · go_enter Try.func56, Try.ntmps56
    go_wp2
    go_ret
    exact ⟨ret1 (by have := HN.out; subst this; exact sh_hi x h), rfl⟩
  · go_enter Try.func56, Try.ntmps56
    go_wp2
    go_ret
    exact ⟨ret1 (by have := HN.out; subst this; rw [← sh_lo x (by omega)]; omega), rfl⟩

/-- The slice at an address (or none) has, in this world, below block B, the octets of the list. -/
def Octs (w : World) (B : Nat) (A : Option Addr) (l : List UInt8) : Prop :=
  ∀ i, (h : i < l.length) → ∃ ad, A = some ad ∧ ad.block < B ∧ w.cell? (ad.add i) = some (.int .u8 (l[i].toNat : Int))
theorem blockAdd (a : Addr) (n : Nat) : (a.add n).block = a.block := by unfold Addr.add; split <;> rfl
theorem Octs.moved {w w' : World} {B : Nat} {A : Option Addr} {l : List UInt8} (h : Octs w B A l) (hc : ∀ p : Addr, p.block < B → w'.cell? p = w.cell? p) : Octs w' B A l := fun i hi => by
  obtain ⟨ad, e, hb, c⟩ := h i hi
  exact ⟨ad, e, hb, (hc _ (by rw [blockAdd]; exact hb)).trans c⟩
theorem Octs.below {w w' : World} {B B' : Nat} {A : Option Addr} {l : List UInt8} (h : Octs w B A l) (hb : Below B' w w') (hB : B ≤ B') : Octs w' B A l := h.moved fun _ hp => hb.cell (Nat.lt_of_lt_of_le hp hB)
theorem Octs.more {w : World} {B B' : Nat} {A : Option Addr} {l : List UInt8} (h : Octs w B A l) (hB : B ≤ B') : Octs w B' A l := fun i hi => by
  obtain ⟨ad, e, hb, c⟩ := h i hi
  exact ⟨ad, e, by omega, c⟩
theorem drop_cons {α : Type} (l : List α) (k : Nat) (h : k < l.length) : l.drop k = l[k] :: l.drop (k + 1) := List.drop_eq_getElem_cons h
theorem int_eq {k : IntKind} {a b : Int} (h : a = b) : Value.int k a = .int k b := by rw [h]
theorem acc_eq (y : BitVec 32) (b : UInt8) : bits .or .u32 ((y.toNat : Int) * 256 % 4294967296) (b.toNat : Int) = ((acc y b).toNat : Int) := by
  have hb := UInt8.toNat_lt b
  rw [show ((y.toNat : Int) * 256 % 4294967296) = ((y.toNat * 256 % 4294967296 : Nat) : Int) by omega, u32_or_nat _ _ (by omega) (by omega)]
  unfold acc
  have h3 : b.toBitVec.toNat = b.toNat := rfl
  rw [BitVec.toNat_or, BitVec.toNat_shiftLeft, BitVec.toNat_setWidth, h3, Nat.mod_eq_of_lt (by omega : b.toNat < 2 ^ 32), Nat.shiftLeft_eq]
theorem word_any (A : Option Addr) (l : List UInt8) (c B : Nat) (w : World) (hr : Octs w B A l) (hl : l.length ≤ 1000000) :
    Calls Try.prog 42 #[.slice A l.length c] w fun e w' => e = .returned (.int .u32 ((word 0#32 l).toNat : Int)) ∧ w = w' := by
  go_enter Try.func42, Try.ntmps42
  go_wp2
  go_loop [3, 8] (fun x i => ∃ (k : Nat) (y : BitVec 32), k ≤ l.length ∧ i = .int .i64 k ∧ x = .int .u32 (y.toNat : Int) ∧ Hid (word y (l.drop k) = word 0#32 l)) (fun _ i => l.length - (intOf i).toNat)
  case atStart => exact ⟨0, 0#32, Nat.zero_le _, rfl, rfl, rfl⟩
  case round =>
    obtain ⟨k, y, hk, rfl, rfl, HR⟩ := hrel
    have hy := y.isLt
    by_cases hlt : k < l.length
    · obtain ⟨ad, rfl, hb1, hc⟩ := hr k hlt
      have HD := Lib.hid (drop_cons l k hlt)
      obtain ⟨b, hb⟩ : ∃ b, b = l[k] := ⟨_, rfl⟩
      rw [← hb] at hc HD
      have hb8 := UInt8.toNat_lt b
      have HA := Lib.hid (acc_eq y b)
      clear hb
      go_wp2
      go_round
      case rel => exact ⟨k + 1, acc y b, by omega, by go_num, int_eq HA.out, by
        show _ = _
        rw [← HR.out, HD.out]; rfl⟩
      case measure => simp [intOf]; omega
    · obtain rfl : k = l.length := by omega
      go_wp2
      go_ret
      exact ⟨ret1 (by rw [← HR.out, List.drop_length]; rfl), rfl⟩
end Go.Proofs.Ytckbehojcjhcgaa.Chk
