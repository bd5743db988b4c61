/- Contracts: the document's sum. -/
import Derived.Test.YtckbehojcjhcgaaC3
namespace Go.Proofs.Ytckbehojcjhcgaa.Chk
open Go.RowKit Crc

theorem lsz (s : ByteArray) : s.data.toList.length = s.size := Array.length_toList
theorem at_eq (s : ByteArray) (k : Nat) (h : k < s.size) : s.data.toList.drop k = s[k] :: s.data.toList.drop (k + 1) := by
  rw [drop_cons _ k (by rw [lsz]; exact h)]; rfl
theorem o24_eq (y : BitVec 32) (b : UInt8) : bits .xor .u32 (y.toNat : Int) ((b.toNat : Int) * 16777216) = ((y ^^^ o 24 b).toNat : Int) := by
  have hy := y.isLt
  have hb := UInt8.toNat_lt b
  rw [show ((b.toNat : Int) * 16777216) = ((b.toNat * 16777216 : Nat) : Int) by omega, u32_xor_nat _ _ (by omega) (by omega), BitVec.toNat_xor, o_nat 24 b (by decide)]

set_option maxHeartbeats 800000 in
set_option maxRecDepth 100000 in
theorem rsum_any (s : ByteArray) (w : World) (hs : s.size ≤ 1000000) :
    Calls Try.prog 50 #[.string s] w fun e w' => e = .returned (.int .u32 ((sumB s.data.toList).toNat : Int)) ∧ w = w' := by
  go_enter Try.func50, Try.ntmps50
  go_wp2
  go_loop [3, 4] (fun x i => ∃ (k : Nat) (y : BitVec 32), k ≤ s.size ∧ i = .int .i64 k ∧ x = .int .u32 (y.toNat : Int) ∧ Hid (crc y (s.data.toList.drop k) = crc ones s.data.toList)) (fun _ i => s.size - (intOf i).toNat)
  case atStart => exact ⟨0, ones, Nat.zero_le _, rfl, rfl, rfl⟩
  case round =>
    obtain ⟨k, y, hk, rfl, rfl, HR⟩ := hrel
    have hy := y.isLt
    by_cases hlt : k < s.size
    · have HD := Lib.hid (at_eq s k hlt)
      obtain ⟨b, hbb⟩ : ∃ b, b = s[k] := ⟨_, rfl⟩
      rw [← hbb] at HD
      have hsk : s[k] = b := hbb.symm
      have hb8 := UInt8.toNat_lt b
      have HO := Lib.hid (o24_eq y b)
      clear hbb
      go_wp2_with fail
      go_loop [3, 5] (fun x i => ∃ (j : Nat) (z : BitVec 32), j ≤ 8 ∧ i = .int .i64 j ∧ x = .int .u32 (z.toNat : Int) ∧ Hid (shn (8 - j) z = st y b)) (fun _ i => 8 - (intOf i).toNat)
      case atStart => exact ⟨0, y ^^^ o 24 b, by decide, rfl, int_eq HO.out, rfl⟩
      case round =>
        obtain ⟨j, z, hj, rfl, rfl, HR2⟩ := hrel
        have hz := z.isLt
        have HZ := Lib.hid (sh_hi z)
        have HZ2 := Lib.hid (sh_lo z)
        obtain ⟨n, hn⟩ : ∃ n, n = z.toNat := ⟨_, rfl⟩
        rw [← hn] at hz HZ HZ2 ⊢
        have HN := Lib.hid hn
        clear hn
        by_cases hjt : j < 8
        · have HS : Hid (shn (8 - (j + 1)) (sh z) = st y b) := by
            show _ = _
            rw [← HR2.out, show 8 - j = (8 - (j + 1)) + 1 by omega]; rfl
          by_cases hh : 2147483648 ≤ n
          · have hd : decide ((2147483648 : Int) ≤ (n : Int)) = true := decide_eq_true (by omega)
            have HH := Lib.hid hh
            have HHZ := Lib.hid hz
            clear hh hz
            go_wp2_with fail
            go_round
            case rel => exact ⟨j + 1, sh z, by omega, by go_num, int_eq (HZ.out HH.out), HS⟩
            case measure => simp [intOf]; omega
          · have hd : decide ((2147483648 : Int) ≤ (n : Int)) = false := decide_eq_false (by omega)
            have HH := Lib.hid hh
            have HHZ := Lib.hid hz
            clear hh hz
            go_wp2_with fail
            go_round
            case rel => exact ⟨j + 1, sh z, by omega, by go_num, int_eq (by have := HH.out; rw [← HZ2.out (by omega)]), HS⟩
            case measure => simp [intOf]; omega
        · obtain rfl : j = 8 := by omega
          go_wp2_with fail
          go_round
          case rel => exact ⟨k + 1, z, by omega, by go_num, int_eq (by rw [HN.out]), by
            show _ = _
            rw [← HR.out, HD.out, crc_cons, ← HR2.out]; rfl⟩
          case measure => simp [intOf]; omega
    · obtain rfl : k = s.size := by omega
      go_wp2_with fail
      go_ret
      exact ⟨ret1 (by
        have h := HR.out
        rw [List.drop_of_length_le (by rw [lsz]; omega)] at h
        unfold sumB
        rw [← h]
        show _ = ((~~~ y).toNat : Int)
        rw [BitVec.toNat_not]
        omega), rfl⟩
end Go.Proofs.Ytckbehojcjhcgaa.Chk
