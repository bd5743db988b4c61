/- Contracts: the document's All; few; twice; what digits spell. -/
import Derived.Test.YthhakhlooopkcaaDoorW1
namespace Go.Proofs.YthhakhlooopkcaaDoor
open Go.RowKit

set_option maxHeartbeats 400000 in
theorem rall_any (s : ByteArray) (w : World) (hs : s.size ≤ 1000) :
    Calls Tryd.prog 15 #[.string s] w fun e w' => e = .returned (.bool (allD s.data.toList)) ∧ w = w' := by
  go_enter Tryd.func15, Tryd.ntmps15
  go_wp2
  go_loop [3] (fun i => ∃ k : Nat, k ≤ s.size ∧ i = .int .i64 k ∧ Hid (allD (s.data.toList.drop k) = allD s.data.toList)) (fun i => s.size - (intOf i).toNat)
  case atStart => exact ⟨0, Nat.zero_le _, rfl, rfl⟩
  case round =>
    obtain ⟨k, hk, rfl, HR⟩ := hrel
    by_cases hlt : k < s.size
    · have HD := Lib.hid (at_eq s k hlt)
      by_cases hd : 48 ≤ s[k].toNat ∧ s[k].toNat ≤ 57
      · obtain ⟨h1, h2⟩ := hd
        have h1' : ¬ (s[k].toNat : Int) < 48 := by omega
        have h2' : ¬ (57 : Int) < s[k].toNat := by omega
        go_wp2
        go_round
        case rel => exact ⟨k + 1, by omega, by go_num, by
          show _ = _
          rw [← HR.out, HD.out, allD_cons, isD_t.2 ⟨h1, h2⟩, Bool.true_and]⟩
        case measure => simp [intOf]; omega
      · have hf : isD s[k] = false := by
          cases h : isD s[k] with
          | false => rfl
          | true => exact absurd (isD_t.1 h) hd
        have HA : Hid (false = allD s.data.toList) := by
          show _ = _
          rw [← HR.out, HD.out, allD_cons, hf, Bool.false_and]
        clear hf
        by_cases h1 : s[k].toNat < 48
        · have h1' : (s[k].toNat : Int) < 48 := by omega
          go_wp2
          go_ret
          exact ⟨retb HA.out, rfl⟩
        · have h1' : ¬ (s[k].toNat : Int) < 48 := by omega
          have h2' : (57 : Int) < s[k].toNat := by omega
          go_wp2
          go_ret
          exact ⟨retb HA.out, rfl⟩
    · have HA : Hid (true = allD s.data.toList) := by
        show _ = _
        rw [← HR.out, List.drop_of_length_le (by rw [lsz]; omega)]; rfl
      go_wp2
      go_ret
      exact ⟨retb HA.out, rfl⟩

theorem few_short (s : ByteArray) (w : World) (h : s.size ≤ 200) :
    Calls Tryd.prog 12 #[.string s] w fun e w' => e = .returned (.string s) ∧ w = w' := by
  go_enter Tryd.func12, Tryd.ntmps12
  go_wp2
  go_ret
  exact ⟨rfl, rfl⟩
theorem few_long (s : ByteArray) (w : World) (h : 200 < s.size) (hm : s.size ≤ 9223372036854775807) :
    Calls Tryd.prog 12 #[.string s] w fun e w' => e = .returned (.string (s.extract 0 200)) ∧ w = w' := by
  go_enter Tryd.func12, Tryd.ntmps12
  go_wp2
  go_ret
  exact ⟨rfl, rfl⟩
/-- A text that is cut is no longer than is looked at. -/
theorem few_any (s : ByteArray) (w : World) (hm : s.size ≤ 9223372036854775807) : ∃ t : ByteArray, t.size ≤ 200 ∧
    Calls Tryd.prog 12 #[.string s] w fun e w' => e = .returned (.string t) ∧ w = w' := by
  by_cases h : s.size ≤ 200
  · exact ⟨s, h, few_short s w h⟩
  · exact ⟨s.extract 0 200, by rw [ByteArray.size_extract]; omega, few_long s w (by omega) hm⟩

theorem twice_any (d : Nat) (w : World) (h : d ≤ 9) :
    Calls Tryd.prog 24 #[.int .i64 d] w fun e w' => e = .returned (.int .i64 ((wv true d : Nat) : Int)) ∧ w = w' := by
  by_cases h4 : 4 < d
  · have h4' : (4 : Int) < d := by omega
    go_enter Tryd.func24, Tryd.ntmps24
    go_wp2
    go_ret
    exact ⟨ret1 (by unfold wv; simp [h4]; omega), rfl⟩
  · have h4' : ¬ (4 : Int) < d := by omega
    go_enter Tryd.func24, Tryd.ntmps24
    go_wp2
    go_ret
    exact ⟨ret1 (by unfold wv; simp [h4]), rfl⟩

/-! ### What digits spell -/
theorem sz0 {n : Nat} (h : 1 ≤ n) : ((n : Int) == 0) = false := by
  have : (n : Int) ≠ 0 := by omega
  simpa using this
theorem get_arg (s : ByteArray) (w : World) (h : s.size = 0 ∨ 19 < s.size) (hs : s.size ≤ 1000) :
    Calls Tryd.prog 11 #[.string s] w fun e w' => e = .returned (.tuple #[.int .u64 0, .int .i64 1]) ∧ w = w' := by
  rcases h with h | h
  · have h0 : ((s.size : Int) == 0) = true := by rw [h]; rfl
    go_enter Tryd.func11, Tryd.ntmps11
    go_wp2
    go_ret2
    exact ⟨rfl, rfl⟩
  · have h0 : ((s.size : Int) == 0) = false := sz0 (by omega)
    go_enter Tryd.func11, Tryd.ntmps11
    go_wp2
    go_ret2
    exact ⟨rfl, rfl⟩
theorem get_form (s : ByteArray) (w : World) (h0 : 1 ≤ s.size) (h19 : s.size ≤ 19) (ha : allD s.data.toList = false) :
    Calls Tryd.prog 11 #[.string s] w fun e w' => e = .returned (.tuple #[.int .u64 0, .int .i64 4]) ∧ w = w' := by
  have h00 : ((s.size : Int) == 0) = false := sz0 (by omega)
  have HA := Lib.hid ha
  clear ha
  go_enter Tryd.func11, Tryd.ntmps11
  go_wp2_with fail
  refine (all_any s _ (by omega)).mono ?_
  rintro e w' ⟨rfl, rfl⟩
  rw [HA.out]
  go_wp2_with fail
  go_ret2
  exact ⟨rfl, rfl⟩
theorem val_at {s : ByteArray} {a k : Nat} (h : k < s.size) (hr : val a (s.data.toList.drop k) = val 0 s.data.toList) : val (a * 10 + (s[k].toNat - 48)) (s.data.toList.drop (k + 1)) = val 0 s.data.toList := by
  rw [← hr, at_eq s k h, val_cons]
theorem D_at {s : ByteArray} (ha : allD s.data.toList = true) {k : Nat} (h : k < s.size) : 48 ≤ s[k].toNat ∧ s[k].toNat ≤ 57 :=
  allD_mem ha (by
    have : s[k] = s.data.toList[k]'(by rw [lsz]; exact h) := rfl
    rw [this]; exact List.getElem_mem _)
set_option maxHeartbeats 400000 in
theorem get_ok (s : ByteArray) (w : World) (h0 : 1 ≤ s.size) (h19 : s.size ≤ 19) (ha : allD s.data.toList = true) :
    Calls Tryd.prog 11 #[.string s] w fun e w' => e = .returned (.tuple #[.int .u64 ((val 0 s.data.toList : Nat) : Int), .int .i64 0]) ∧ w = w' := by
  have h00 : ((s.size : Int) == 0) = false := sz0 (by omega)
  have HA := Lib.hid ha
  clear ha
  go_enter Tryd.func11, Tryd.ntmps11
  go_wp2_with fail
  refine (all_any s _ (by omega)).mono ?_
  rintro e w' ⟨rfl, rfl⟩
  rw [HA.out]
  go_wp2_with fail
  go_loop [4, 19] (fun v i => ∃ k a : Nat, k ≤ s.size ∧ i = .int .i64 k ∧ v = .int .u64 a ∧ a < 10 ^ k ∧ Hid (val a (s.data.toList.drop k) = val 0 s.data.toList)) (fun _ i => s.size - (intOf i).toNat)
  case atStart => exact ⟨0, 0, Nat.zero_le _, rfl, rfl, by decide, rfl⟩
  case round =>
    obtain ⟨k, a, hk, rfl, rfl, hak, HR⟩ := hrel
    by_cases hlt : k < s.size
    · have hp := pow19 (k := k) (by omega)
      have HP := Lib.hid (pow_s k)
      obtain ⟨h1, h2⟩ := D_at HA.out hlt
      have HV := Lib.hid (val_at hlt HR.out)
      have hx : (0 : Int) ≤ (s[k].toNat : Int) - 48 := by omega
      have hy : (s[k].toNat : Int) - 48 ≤ 9 := by omega
      have hb : (a : Int) ≤ 1000000000000000000 := by omega
      have HC : Hid ((a : Int) * 10 + ((s[k].toNat : Int) - 48) = ((a * 10 + (s[k].toNat - 48) : Nat) : Int)) := by
        show _ = _
        omega
      have hn : a * 10 + (s[k].toNat - 48) < 10 ^ (k + 1) := by rw [HP.out]; omega
      go_wp2
      go_round
      case rel => exact ⟨k + 1, a * 10 + (s[k].toNat - 48), by omega, by go_num, by first | exact congrArg (Value.int .u64) HC.out | (simp; omega), hn, HV.out⟩
      case measure => simp [intOf]; omega
    · have HE : Hid (a = val 0 s.data.toList) := by
        show _ = _
        rw [← HR.out, List.drop_of_length_le (by rw [lsz]; omega)]; rfl
      go_wp2
      go_ret2
      exact ⟨ret2 (by rw [← HE.out]) rfl, rfl⟩
theorem rget_arg (s : ByteArray) (w : World) (h : s.size = 0 ∨ 19 < s.size) (hs : s.size ≤ 1000) :
    Calls Tryd.prog 13 #[.string s] w fun e w' => e = .returned (.tuple #[.int .u64 0, .int .i64 1]) ∧ w = w' := by
  rcases h with h | h
  · have h0 : s.size < 1 := by omega
    clear h
    go_enter Tryd.func13, Tryd.ntmps13
    go_wp2
    go_ret2
    exact ⟨rfl, rfl⟩
  · have h0 : ¬ s.size < 1 := by omega
    go_enter Tryd.func13, Tryd.ntmps13
    go_wp2
    go_ret2
    exact ⟨rfl, rfl⟩
theorem rget_form (s : ByteArray) (w : World) (h0 : 1 ≤ s.size) (h19 : s.size ≤ 19) (ha : allD s.data.toList = false) :
    Calls Tryd.prog 13 #[.string s] w fun e w' => e = .returned (.tuple #[.int .u64 0, .int .i64 4]) ∧ w = w' := by
  have h00 : ¬ s.size < 1 := by omega
  have HA := Lib.hid ha
  clear ha
  go_enter Tryd.func13, Tryd.ntmps13
  go_wp2_with fail
  refine (rall_any s _ (by omega)).mono ?_
  rintro e w' ⟨rfl, rfl⟩
  rw [HA.out]
  go_wp2_with fail
  go_ret2
  exact ⟨rfl, rfl⟩
set_option maxHeartbeats 400000 in
theorem rget_ok (s : ByteArray) (w : World) (h0 : 1 ≤ s.size) (h19 : s.size ≤ 19) (ha : allD s.data.toList = true) :
    Calls Tryd.prog 13 #[.string s] w fun e w' => e = .returned (.tuple #[.int .u64 ((val 0 s.data.toList : Nat) : Int), .int .i64 0]) ∧ w = w' := by
  have h00 : ¬ s.size < 1 := by omega
  have HA := Lib.hid ha
  clear ha
  go_enter Tryd.func13, Tryd.ntmps13
  go_wp2_with fail
  refine (rall_any s _ (by omega)).mono ?_
  rintro e w' ⟨rfl, rfl⟩
  rw [HA.out]
  go_wp2_with fail
  go_loop [4, 5] (fun v i => ∃ k a : Nat, k ≤ s.size ∧ i = .int .i64 k ∧ v = .int .u64 a ∧ a < 10 ^ k ∧ Hid (val a (s.data.toList.drop k) = val 0 s.data.toList)) (fun _ i => s.size - (intOf i).toNat)
  case atStart => exact ⟨0, 0, Nat.zero_le _, rfl, rfl, by decide, rfl⟩
  case round =>
    obtain ⟨k, a, hk, rfl, rfl, hak, HR⟩ := hrel
    by_cases hlt : k < s.size
    · have hp := pow19 (k := k) (by omega)
      have HP := Lib.hid (pow_s k)
      obtain ⟨h1, h2⟩ := D_at HA.out hlt
      have HV := Lib.hid (val_at hlt HR.out)
      have hb : (a : Int) ≤ 1000000000000000000 := by omega
      have hx : (48 : Int) ≤ s[k].toNat := by omega
      have hy : (s[k].toNat : Int) ≤ 57 := by omega
      have HC : Hid (10 * (a : Int) + (s[k].toNat : Int) - 48 = ((a * 10 + (s[k].toNat - 48) : Nat) : Int)) := by
        show _ = _
        omega
      have hn : a * 10 + (s[k].toNat - 48) < 10 ^ (k + 1) := by rw [HP.out]; omega
      go_wp2
      go_round
      case rel => exact ⟨k + 1, a * 10 + (s[k].toNat - 48), by omega, by go_num, by first | exact congrArg (Value.int .u64) HC.out | (simp; omega), hn, HV.out⟩
      case measure => simp [intOf]; omega
    · have HE : Hid (a = val 0 s.data.toList) := by
        show _ = _
        rw [← HR.out, List.drop_of_length_le (by rw [lsz]; omega)]; rfl
      go_wp2
      go_ret2
      exact ⟨ret2 (by rw [← HE.out]) rfl, rfl⟩
end Go.Proofs.YthhakhlooopkcaaDoor
