/- Contracts: the sum of parts. -/
import Derived.Test.YtckbehojcjhcgaaC2
namespace Go.Proofs.Ytckbehojcjhcgaa.Chk
open Go.RowKit Crc

/-- The slice at an address (or none) has, in this world, below block B, slices that read as the lists of octets. -/
def Parts (w : World) (B : Nat) (A : Option Addr) (L : List (List UInt8)) : Prop :=
  ∀ i, (h : i < L.length) → ∃ ad A' c, A = some ad ∧ ad.block < B ∧ w.cell? (ad.add i) = some (.slice A' L[i].length c) ∧ Octs w B A' L[i] ∧ L[i].length ≤ 1000000
theorem Parts.below {w w' : World} {B B' : Nat} {A : Option Addr} {L : List (List UInt8)} (h : Parts w B A L) (hb : Below B' w w') (hB : B ≤ B') : Parts w' B A L := fun i hi => by
  obtain ⟨ad, A', c, e, hb1, hc, ho, hl⟩ := h i hi
  exact ⟨ad, A', c, e, hb1, (hb.cell (by rw [blockAdd]; omega)).trans hc, ho.below hb hB, hl⟩
theorem Parts.more {w : World} {B B' : Nat} {A : Option Addr} {L : List (List UInt8)} (h : Parts w B A L) (hB : B ≤ B') : Parts w B' A L := fun i hi => by
  obtain ⟨ad, A', c, e, hb1, hc, ho, hl⟩ := h i hi
  exact ⟨ad, A', c, e, by omega, hc, ho.more hB, hl⟩
/-- A block that holds the table. -/
def Table (w : World) (g : Nat) : Prop := ∀ j, j < 256 → w.cell? ⟨g, j, none⟩ = some (.int .u32 ((tab j).toNat : Int))

theorem st_eq (y : BitVec 32) (b : UInt8) : bits .xor .u32 ((y.toNat : Int) * 256 % 4294967296) ((tab ((y.toNat / 16777216 % 256) ^^^ b.toNat)).toNat : Int) = ((st y b).toNat : Int) := by
  have hb := UInt8.toNat_lt b
  have ht := (tab ((y.toNat / 16777216 % 256) ^^^ b.toNat)).isLt
  rw [show ((y.toNat : Int) * 256 % 4294967296) = ((y.toNat * 256 % 4294967296 : Nat) : Int) by omega, u32_xor_nat _ _ (by omega) (by omega), st_tab, BitVec.toNat_xor, BitVec.toNat_shiftLeft, Nat.shiftLeft_eq]
theorem ix_eq (y : BitVec 32) (b : UInt8) : bits .xor .u8 ((y.toNat : Int) / 16777216) (b.toNat : Int) = (((y.toNat / 16777216 % 256) ^^^ b.toNat : Nat) : Int) := by
  have hb := UInt8.toNat_lt b
  have hy := y.isLt
  rw [show ((y.toNat : Int) / 16777216) = ((y.toNat / 16777216 % 256 : Nat) : Int) by omega, u8_xor_nat _ _ (by omega) (by omega)]
theorem ix_lt (y : BitVec 32) (b : UInt8) : (y.toNat / 16777216 % 256) ^^^ b.toNat < 256 :=
  Nat.xor_lt_two_pow (n := 8) (by omega) (by have := UInt8.toNat_lt b; omega)

theorem not_eq (y : BitVec 32) : bits .xor .u32 IntKind.u32.max (y.toNat : Int) = ((~~~ y).toNat : Int) := by
  have hy := y.isLt
  rw [show IntKind.u32.max = ((4294967295 : Nat) : Int) by rfl, u32_xor_nat _ _ (by decide) (by omega), ← BitVec.allOnes_xor, BitVec.toNat_xor]
  rfl
set_option maxHeartbeats 1600000 in
set_option maxRecDepth 1000000 in
theorem sum_any (A : Option Addr) (L : List (List UInt8)) (c : Nat) (w : World) (hr : Parts w w.heap.size A L) (hL : L.length ≤ 1000000) :
    Calls Try.prog 35 #[.slice A L.length c] w fun e w' => e = .returned (.int .u32 ((sumB L.flatten).toNat : Int)) ∧ Below w.heap.size w w' := by
  obtain ⟨hv41, hi41⟩ := zero_of_info info41
  have HP := Lib.hid hr
  clear hr
  go_enter Try.func35, Try.ntmps35
  go_wp2_with fail
  refine (words_any _).mono ?_
  rintro e w1 ⟨tc, rfl, hup, hb1⟩
  have hi41' : (Try.prog.info? 79).map (·.size) = some tc.size := by rw [hup.size]; exact hi41
  have htsz := hup.size
  have HU := Lib.hid hup
  have HB1 := Lib.hid hb1
  clear hup hb1
  go_wp2_with fail
  simp only [run_storeCells_new (P := Try.prog) w1 79 (Array.replicate 256 (Value.int IntKind.u32 0)) tc hi41' (by rw [htsz]; simp) HU.out.one, Result.andThen]
  rw [Oper.upon_skip]
  obtain ⟨w2, hw2⟩ : ∃ w2, w2 = w1.alloc (.cells tc 79) := ⟨_, rfl⟩
  have HB2 : Hid (Below w.heap.size w w2) := by
    rw [hw2]
    exact HB1.out.alloc HB1.out.size _
  have HT : Hid (Table w2 w1.heap.size) := fun j hj => by
    rw [hw2, World.cell?_alloc_new]
    exact HU.out.at' j hj
  have HP2 : Hid (Parts w2 w.heap.size A L) := HP.out.below HB2.out (Nat.le_refl _)
  obtain ⟨g, hg⟩ : ∃ g, g = w1.heap.size := ⟨_, rfl⟩
  rw [← hw2]
  rw [← hg] at HT ⊢
  clear hw2 hg HP HU HB1 hi41' htsz hv41 hi41
  go_wp2_with fail
  go_loop [4, 12] (fun s i => ∃ (k : Nat) (y : BitVec 32), k ≤ L.length ∧ i = .int .i64 k ∧ s = .int .u32 (y.toNat : Int) ∧ Hid (crc y (L.drop k).flatten = crc ones L.flatten)) (fun _ i => L.length - (intOf i).toNat)
  case atStart => exact ⟨0, ones, Nat.zero_le _, rfl, rfl, rfl⟩
  case round =>
    obtain ⟨k, y, hk, rfl, rfl, HR⟩ := hrel
    have hy := y.isLt
    by_cases hlt : k < L.length
    · obtain ⟨ad, A', c', rfl, hb1, hc, ho, hl⟩ := HP2.out k hlt
      have HD := Lib.hid (drop_cons L k hlt)
      obtain ⟨l, hll⟩ : ∃ l, l = L[k] := ⟨_, rfl⟩
      rw [← hll] at hc HD ho hl
      have HO := Lib.hid ho
      clear hll ho
      go_wp2_with fail
      go_loop [4, 18] (fun s i => ∃ (j : Nat) (z : BitVec 32), j ≤ l.length ∧ i = .int .i64 j ∧ s = .int .u32 (z.toNat : Int) ∧ Hid (crc z (l.drop j) = crc y l)) (fun _ i => l.length - (intOf i).toNat)
      case atStart => exact ⟨0, y, Nat.zero_le _, rfl, rfl, rfl⟩
      case round =>
        obtain ⟨j, z, hj, rfl, rfl, HR2⟩ := hrel
        have hz := z.isLt
        by_cases hjt : j < l.length
        · obtain ⟨ad2, rfl, hb2, hc2⟩ := HO.out j hjt
          have HD2 := Lib.hid (drop_cons l j hjt)
          obtain ⟨b, hbb⟩ : ∃ b, b = l[j] := ⟨_, rfl⟩
          rw [← hbb] at hc2 HD2
          have hb8 := UInt8.toNat_lt b
          have hix := ix_eq z b
          have hixl := ix_lt z b
          have HSt := Lib.hid (st_eq z b)
          obtain ⟨x, hx⟩ : ∃ x, x = (z.toNat / 16777216 % 256) ^^^ b.toNat := ⟨_, rfl⟩
          rw [← hx] at hix hixl HSt
          have hct := HT.out x hixl
          have htl := (tab x).isLt
          clear hbb hx
          go_wp2_with fail
          go_round
          case rel => exact ⟨j + 1, st z b, by omega, by go_num, int_eq HSt.out, by
            show _ = _
            rw [← HR2.out, HD2.out]; rfl⟩
          case measure => simp [intOf]; omega
        · obtain rfl : j = l.length := by omega
          go_wp2_with fail
          go_round
          case rel => exact ⟨k + 1, z, by omega, by go_num, rfl, by
            show _ = _
            rw [← HR.out, HD.out, List.flatten_cons, crc_append, ← HR2.out, List.drop_length]; rfl⟩
          case measure => simp [intOf]; omega
    · obtain rfl : k = L.length := by omega
      go_wp2_with fail
      go_ret
      exact ⟨ret1 (by
        have h := HR.out
        rw [List.drop_length] at h
        unfold sumB
        rw [← h]
        exact not_eq y), HB2.out⟩
end Go.Proofs.Ytckbehojcjhcgaa.Chk
