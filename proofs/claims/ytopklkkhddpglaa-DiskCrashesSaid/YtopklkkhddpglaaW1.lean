/- Contracts: May and there, with what they call. -/
import Derived.Test.YtopklkkhddpglaaMath
import Derived.Test.YtopklkkhddpglaaProg
import Derived.Tactics
import Derived.WalkKit
import Derived.Below
import Derived.Lib.Hide
import Derived.Lib.Walk
import Derived.Laws.EntriesVeiled
import Derived.Outline
namespace Go.Proofs.Ytopklkkhddpglaa
open Go.RowKit Dk

theorem ret1 {k : IntKind} {a b : Int} (h : a = b) : Ending.returned (.int k a) = .returned (.int k b) := by rw [h]
theorem retb {a b : Bool} (h : a = b) : Ending.returned (.bool a) = .returned (.bool b) := by rw [h]
/-- The slice at an address (or none) has, in this world, below block B, the octets of the list. -/
def Octs (w : World) (B : Nat) (A : Option Addr) (l : List UInt8) : Prop :=
  ∀ i, (h : i < l.length) → ∃ b o, A = some ⟨b, o, none⟩ ∧ b < B ∧ w.cell? ⟨b, o + i, none⟩ = some (.int .u8 (l[i].toNat : Int))
theorem Octs.moved {w w' : World} {B : Nat} {A : Option Addr} {l : List UInt8} (h : Octs w B A l) (hc : ∀ p : Addr, p.block < B → w'.cell? p = w.cell? p) : Octs w' B A l := fun i hi => by
  obtain ⟨b, o, e, hb, c⟩ := h i hi
  exact ⟨b, o, e, hb, (hc ⟨b, o + i, none⟩ hb).trans c⟩
theorem Octs.below {w w' : World} {B B' : Nat} {A : Option Addr} {l : List UInt8} (h : Octs w B A l) (hb : Below B' w w') (hB : B ≤ B') : Octs w' B A l := h.moved fun _ hp => hb.cell (Nat.lt_of_lt_of_le hp hB)
theorem Octs.more {w : World} {B B' : Nat} {A : Option Addr} {l : List UInt8} (h : Octs w B A l) (hB : B ≤ B') : Octs w B' A l := fun i hi => by
  obtain ⟨b, o, e, hb, c⟩ := h i hi
  exact ⟨b, o, e, by omega, c⟩
/-- A slice of slices of octets. -/
def Parts (w : World) (B : Nat) (A : Option Addr) (S : List (List UInt8)) : Prop :=
  ∀ i, (h : i < S.length) → ∃ b o A' c, A = some ⟨b, o, none⟩ ∧ b < B ∧ w.cell? ⟨b, o + i, none⟩ = some (.slice A' S[i].length c) ∧ Octs w B A' S[i] ∧ S[i].length ≤ c ∧ S[i].length ≤ 140737488351232
theorem Parts.moved {w w' : World} {B : Nat} {A : Option Addr} {S : List (List UInt8)} (h : Parts w B A S) (hb : ∀ p : Addr, p.block < B → w'.cell? p = w.cell? p) : Parts w' B A S := fun i hi => by
  obtain ⟨b, o, A', c, e, hb1, hc, ho, hl⟩ := h i hi
  exact ⟨b, o, A', c, e, hb1, (hb ⟨b, o + i, none⟩ hb1).trans hc, ho.moved hb, hl⟩
theorem Parts.below {w w' : World} {B B' : Nat} {A : Option Addr} {S : List (List UInt8)} (h : Parts w B A S) (hb : Below B' w w') (hB : B ≤ B') : Parts w' B A S := h.moved fun _ hp => hb.cell (Nat.lt_of_lt_of_le hp hB)
theorem Parts.more {w : World} {B B' : Nat} {A : Option Addr} {S : List (List UInt8)} (h : Parts w B A S) (hB : B ≤ B') : Parts w B' A S := fun i hi => by
  obtain ⟨b, o, A', c, e, hb1, hc, ho, hl⟩ := h i hi
  exact ⟨b, o, A', c, e, by omega, hc, ho.more hB, hl⟩
/-- A slice of writes that wait. -/
def Pend (w : World) (B : Nat) (A : Option Addr) (W : Ws) : Prop :=
  ∀ i, (h : i < W.length) → ∃ b o A' c, A = some ⟨b, o, none⟩ ∧ b < B ∧ w.cell? ⟨b, o + i * 2, none⟩ = some (.int .i64 W[i].1) ∧ w.cell? ⟨b, o + i * 2 + 1, none⟩ = some (.slice A' W[i].2.length c) ∧ Octs w B A' W[i].2 ∧
    W[i].2.length ≤ c ∧ W[i].2.length ≤ 140737488351232 ∧ -9223372036854775808 ≤ W[i].1 ∧ W[i].1 ≤ 9223372036854775807
theorem Pend.moved {w w' : World} {B : Nat} {A : Option Addr} {W : Ws} (h : Pend w B A W) (hb : ∀ p : Addr, p.block < B → w'.cell? p = w.cell? p) : Pend w' B A W := fun i hi => by
  obtain ⟨b, o, A', c, e, hb1, hc, hd, ho, hl⟩ := h i hi
  exact ⟨b, o, A', c, e, hb1, (hb ⟨b, o + i * 2, none⟩ hb1).trans hc, (hb ⟨b, o + i * 2 + 1, none⟩ hb1).trans hd, ho.moved hb, hl⟩
theorem Pend.below {w w' : World} {B B' : Nat} {A : Option Addr} {W : Ws} (h : Pend w B A W) (hb : Below B' w w') (hB : B ≤ B') : Pend w' B A W := h.moved fun _ hp => hb.cell (Nat.lt_of_lt_of_le hp hB)
theorem Pend.more {w : World} {B B' : Nat} {A : Option Addr} {W : Ws} (h : Pend w B A W) (hB : B ≤ B') : Pend w B' A W := fun i hi => by
  obtain ⟨b, o, A', c, e, hb1, hc, hd, ho, hl⟩ := h i hi
  exact ⟨b, o, A', c, e, by omega, hc, hd, ho.more hB, hl⟩

abbrev dv (A : Option Addr) (n c : Nat) (A' : Option Addr) (m c' : Nat) (L : Int) (O : Bool) : Value := .agg #[.slice A n c, .slice A' m c', .int .i64 L, .bool O]

theorem there_any (A : Option Addr) (n c : Nat) (A' : Option Addr) (m c' : Nat) (L : Int) (O : Bool) (i k : Int) (w : World) (hn : n ≤ 4611686018427387904) (hi : -9223372036854775808 ≤ i) (hi2 : i ≤ 9223372036854775807) :
    Calls Try.prog 24 #[dv A n c A' m c' L O, .int .i64 i, .int .i64 k] w fun e w' => e = .returned (.bool (thereB n i k)) ∧ Below w.heap.size w w' := by
  have hB : Below w.heap.size w (w.alloc (.cells #[.slice A n c, .slice A' m c', .int .i64 L, .bool O] 25)) := (Below.refl _ _).alloc (Nat.le_refl _) _
  have HB := Lib.hid hB
  clear hB
  by_cases h1 : 0 ≤ i
  · by_cases h2 : 0 ≤ k
    · by_cases h3 : k ≤ (n : Int) - i
      · have HT : Hid (thereB n i k = true) := by show _ = _; simp [thereB, h1, h2, h3]
        go_enter Try.func24, Try.ntmps24
        go_wp2
        go_ret
        exact ⟨retb HT.out.symm, HB.out⟩
      · have HT : Hid (thereB n i k = false) := by show _ = _; simp [thereB, h3]
        have h3' : decide (k ≤ (n : Int) - i) = false := by simpa using h3
        go_enter Try.func24, Try.ntmps24
        go_wp2
        go_ret
        exact ⟨retb HT.out.symm, HB.out⟩
    · have HT : Hid (thereB n i k = false) := by show _ = _; simp [thereB, h2]
      have h2' : decide (0 ≤ k) = false := by simpa using h2
      go_enter Try.func24, Try.ntmps24
      go_wp2
      go_ret
      exact ⟨retb HT.out.symm, HB.out⟩
  · have HT : Hid (thereB n i k = false) := by show _ = _; simp [thereB, h1]
    have h1' : decide (0 ≤ i) = false := by simpa using h1
    go_enter Try.func24, Try.ntmps24
    go_wp2
    go_ret
    exact ⟨retb HT.out.symm, HB.out⟩

theorem broken_any (A : Option Addr) (l : List UInt8) (c : Nat) (w : World) :
    Calls Try.prog 30 #[.slice A l.length c] w fun e w' => e = .returned (.bool (badS l)) ∧ w = w' := by
  by_cases h : l.length = 64
  · have HT : Hid (badS l = false) := (badS_iff l).2 h
    rw [h]
    go_enter Try.func30, Try.ntmps30
    go_wp2
    go_ret
    exact ⟨retb HT.out.symm, rfl⟩
  · have HT : Hid (badS l = true) := by show _ = _; unfold badS; simp [h]
    have h' : ((l.length : Int) != 64) = true := by rw [bne_iff_ne]; omega
    go_enter Try.func30, Try.ntmps30
    go_wp2
    go_ret
    exact ⟨retb HT.out.symm, rfl⟩
end Go.Proofs.Ytopklkkhddpglaa
