/- Contracts: references; the ticks till which an amount may be held. Conditions: texts no longer than 1000 octets. -/
import Derived.Test.YtkhkncgndllkjaaDoorH3
namespace Go.Proofs.YtkhkncgndllkjaaDoor.Hol
open Go.RowKit Cht

def isU (c : UInt8) : Bool := decide (48 ≤ c.toNat ∧ c.toNat ≤ 57) || decide (65 ≤ c.toNat ∧ c.toNat ≤ 90)
def allU (l : List UInt8) : Bool := l.all isU
theorem allU_cons (c : UInt8) (l : List UInt8) : allU (c :: l) = (isU c && allU l) := rfl
theorem isU_cases (c : UInt8) : (isU c = false ∧ c.toNat < 48) ∨ (isU c = true ∧ 48 ≤ c.toNat ∧ c.toNat ≤ 57) ∨ (isU c = false ∧ 57 < c.toNat ∧ c.toNat < 65) ∨ (isU c = true ∧ 65 ≤ c.toNat ∧ c.toNat ≤ 90) ∨ (isU c = false ∧ 90 < c.toNat) := by
  have hc : c.toNat < 256 := UInt8.toNat_lt c
  unfold isU
  by_cases h1 : c.toNat < 48
  · left; exact ⟨by simp; omega, h1⟩
  by_cases h2 : c.toNat ≤ 57
  · right; left; exact ⟨by simp; omega, by omega, h2⟩
  by_cases h3 : c.toNat < 65
  · right; right; left; exact ⟨by simp; omega, by omega, h3⟩
  by_cases h4 : c.toNat ≤ 90
  · right; right; right; left; exact ⟨by simp; omega, by omega, h4⟩
  · right; right; right; right; exact ⟨by simp; omega, by omega⟩
/-- May a text be a reference? -/
def refB (s : ByteArray) : Bool := decide (s.size = 12) && allU s.data.toList
theorem refB_n {s : ByteArray} (h : ¬ s.size = 12) : refB s = false := by unfold refB; rw [decide_eq_false h]; rfl
theorem refB_y {s : ByteArray} (h : s.size = 12) : refB s = allU s.data.toList := by unfold refB; rw [decide_eq_true h]; rfl
set_option maxHeartbeats 800000 in
theorem ref_any (s : ByteArray) (w : World) :
    Calls Tryd.prog 10 #[.string s] w fun e w' => e = .returned (.bool (refB s)) ∧ w = w' := by
  by_cases h12 : s.size = 12
  case' neg =>
    have HR := Lib.hid (refB_n h12)
    have h12' : ((s.size : Int) != 12) = true := by simpa using (show (s.size : Int) ≠ 12 by omega)
    go_enter Tryd.func10, Tryd.ntmps10
    go_wp2_with fail
    go_ret
    exact ⟨retb HR.out.symm, rfl⟩
  have HR := Lib.hid (refB_y h12)
  have h12' : ((s.size : Int) != 12) = false := by simpa using (show (s.size : Int) = 12 by omega)
  go_enter Tryd.func10, Tryd.ntmps10
  go_wp2_with fail
  go_loop [11] (fun i => ∃ k : Nat, k ≤ s.size ∧ i = .int .i64 k ∧ Hid (allU (s.data.toList.drop k) = allU s.data.toList)) (fun i => s.size - (intOf i).toNat)
  case atStart => exact ⟨0, Nat.zero_le _, rfl, rfl⟩
  case round =>
    obtain ⟨k, hk, rfl, HL⟩ := hrel
    by_cases hlt : k < s.size
    · have HD := Lib.hid (at_eq s k hlt)
      have hlt' : decide ((k : Int) < 12) = true := by simp; omega
      rcases isU_cases s[k] with h | h | h | h | h
      · obtain ⟨hu, hq⟩ := h
        have HU := Lib.hid hu
        have q48 : decide ((s[k].toNat : Int) < 48) = true := by simp; omega
        have r48 : decide ((48 : Int) ≤ (s[k].toNat : Int)) = false := by simp; omega
        have u48 : decide (48 ≤ s[k].toNat) = false := by simp; omega
        have v48 : decide (s[k].toNat < 48) = true := by simp; omega
        have q57 : decide ((s[k].toNat : Int) ≤ 57) = true := by simp; omega
        have r57 : decide ((57 : Int) < (s[k].toNat : Int)) = false := by simp; omega
        have u57 : decide (s[k].toNat ≤ 57) = true := by simp; omega
        have v57 : decide (57 < s[k].toNat) = false := by simp; omega
        have q65 : decide ((s[k].toNat : Int) < 65) = true := by simp; omega
        have r65 : decide ((65 : Int) ≤ (s[k].toNat : Int)) = false := by simp; omega
        have u65 : decide (65 ≤ s[k].toNat) = false := by simp; omega
        have v65 : decide (s[k].toNat < 65) = true := by simp; omega
        have q90 : decide ((s[k].toNat : Int) ≤ 90) = true := by simp; omega
        have r90 : decide ((90 : Int) < (s[k].toNat : Int)) = false := by simp; omega
        have u90 : decide (s[k].toNat ≤ 90) = true := by simp; omega
        have v90 : decide (90 < s[k].toNat) = false := by simp; omega
        clear hu hq
        go_wp2_with fail
        go_ret
        refine ⟨retb ?_, rfl⟩
        rw [HR.out, ← HL.out, HD.out, allU_cons, HU.out, Bool.false_and]
      · obtain ⟨hu, hq⟩ := h
        have HU := Lib.hid hu
        have q48 : decide ((s[k].toNat : Int) < 48) = false := by simp; omega
        have r48 : decide ((48 : Int) ≤ (s[k].toNat : Int)) = true := by simp; omega
        have u48 : decide (48 ≤ s[k].toNat) = true := by simp; omega
        have v48 : decide (s[k].toNat < 48) = false := by simp; omega
        have q57 : decide ((s[k].toNat : Int) ≤ 57) = true := by simp; omega
        have r57 : decide ((57 : Int) < (s[k].toNat : Int)) = false := by simp; omega
        have u57 : decide (s[k].toNat ≤ 57) = true := by simp; omega
        have v57 : decide (57 < s[k].toNat) = false := by simp; omega
        have q65 : decide ((s[k].toNat : Int) < 65) = true := by simp; omega
        have r65 : decide ((65 : Int) ≤ (s[k].toNat : Int)) = false := by simp; omega
        have u65 : decide (65 ≤ s[k].toNat) = false := by simp; omega
        have v65 : decide (s[k].toNat < 65) = true := by simp; omega
        clear hu hq
        go_wp2_with fail
        go_round
        case rel => exact ⟨k + 1, by omega, by go_num, by
          show _ = _
          rw [← HL.out, HD.out, allU_cons, HU.out, Bool.true_and]⟩
        case measure => simp [intOf]; omega
      · obtain ⟨hu, hq⟩ := h
        have HU := Lib.hid hu
        have q48 : decide ((s[k].toNat : Int) < 48) = false := by simp; omega
        have r48 : decide ((48 : Int) ≤ (s[k].toNat : Int)) = true := by simp; omega
        have u48 : decide (48 ≤ s[k].toNat) = true := by simp; omega
        have v48 : decide (s[k].toNat < 48) = false := by simp; omega
        have q57 : decide ((s[k].toNat : Int) ≤ 57) = false := by simp; omega
        have r57 : decide ((57 : Int) < (s[k].toNat : Int)) = true := by simp; omega
        have u57 : decide (s[k].toNat ≤ 57) = false := by simp; omega
        have v57 : decide (57 < s[k].toNat) = true := by simp; omega
        have q65 : decide ((s[k].toNat : Int) < 65) = true := by simp; omega
        have r65 : decide ((65 : Int) ≤ (s[k].toNat : Int)) = false := by simp; omega
        have u65 : decide (65 ≤ s[k].toNat) = false := by simp; omega
        have v65 : decide (s[k].toNat < 65) = true := by simp; omega
        clear hu hq
        go_wp2_with fail
        go_ret
        refine ⟨retb ?_, rfl⟩
        rw [HR.out, ← HL.out, HD.out, allU_cons, HU.out, Bool.false_and]
      · obtain ⟨hu, hq⟩ := h
        have HU := Lib.hid hu
        have q48 : decide ((s[k].toNat : Int) < 48) = false := by simp; omega
        have r48 : decide ((48 : Int) ≤ (s[k].toNat : Int)) = true := by simp; omega
        have u48 : decide (48 ≤ s[k].toNat) = true := by simp; omega
        have v48 : decide (s[k].toNat < 48) = false := by simp; omega
        have q57 : decide ((s[k].toNat : Int) ≤ 57) = false := by simp; omega
        have r57 : decide ((57 : Int) < (s[k].toNat : Int)) = true := by simp; omega
        have u57 : decide (s[k].toNat ≤ 57) = false := by simp; omega
        have v57 : decide (57 < s[k].toNat) = true := by simp; omega
        have q65 : decide ((s[k].toNat : Int) < 65) = false := by simp; omega
        have r65 : decide ((65 : Int) ≤ (s[k].toNat : Int)) = true := by simp; omega
        have u65 : decide (65 ≤ s[k].toNat) = true := by simp; omega
        have v65 : decide (s[k].toNat < 65) = false := by simp; omega
        have q90 : decide ((s[k].toNat : Int) ≤ 90) = true := by simp; omega
        have r90 : decide ((90 : Int) < (s[k].toNat : Int)) = false := by simp; omega
        have u90 : decide (s[k].toNat ≤ 90) = true := by simp; omega
        have v90 : decide (90 < s[k].toNat) = false := by simp; omega
        clear hu hq
        go_wp2_with fail
        go_round
        case rel => exact ⟨k + 1, by omega, by go_num, by
          show _ = _
          rw [← HL.out, HD.out, allU_cons, HU.out, Bool.true_and]⟩
        case measure => simp [intOf]; omega
      · obtain ⟨hu, hq⟩ := h
        have HU := Lib.hid hu
        have q48 : decide ((s[k].toNat : Int) < 48) = false := by simp; omega
        have r48 : decide ((48 : Int) ≤ (s[k].toNat : Int)) = true := by simp; omega
        have u48 : decide (48 ≤ s[k].toNat) = true := by simp; omega
        have v48 : decide (s[k].toNat < 48) = false := by simp; omega
        have q57 : decide ((s[k].toNat : Int) ≤ 57) = false := by simp; omega
        have r57 : decide ((57 : Int) < (s[k].toNat : Int)) = true := by simp; omega
        have u57 : decide (s[k].toNat ≤ 57) = false := by simp; omega
        have v57 : decide (57 < s[k].toNat) = true := by simp; omega
        have q65 : decide ((s[k].toNat : Int) < 65) = false := by simp; omega
        have r65 : decide ((65 : Int) ≤ (s[k].toNat : Int)) = true := by simp; omega
        have u65 : decide (65 ≤ s[k].toNat) = true := by simp; omega
        have v65 : decide (s[k].toNat < 65) = false := by simp; omega
        have q90 : decide ((s[k].toNat : Int) ≤ 90) = false := by simp; omega
        have r90 : decide ((90 : Int) < (s[k].toNat : Int)) = true := by simp; omega
        have u90 : decide (s[k].toNat ≤ 90) = false := by simp; omega
        have v90 : decide (90 < s[k].toNat) = true := by simp; omega
        clear hu hq
        go_wp2_with fail
        go_ret
        refine ⟨retb ?_, rfl⟩
        rw [HR.out, ← HL.out, HD.out, allU_cons, HU.out, Bool.false_and]
    · have HA : Hid (true = refB s) := by
        show _ = _
        rw [HR.out, ← HL.out, List.drop_of_length_le (by rw [lsz]; omega)]; rfl
      have hlt' : decide ((k : Int) < 12) = false := by simp; omega
      go_wp2_with fail
      go_ret
      exact ⟨retb HA.out, rfl⟩
set_option maxHeartbeats 800000 in
theorem rref_any (s : ByteArray) (w : World) :
    Calls Tryd.prog 11 #[.string s] w fun e w' => e = .returned (.bool (refB s)) ∧ w = w' := by
  by_cases h12 : s.size = 12
  case' neg =>
    have HR := Lib.hid (refB_n h12)
    have h12' : ((s.size : Int) != 12) = true := by simpa using (show (s.size : Int) ≠ 12 by omega)
    go_enter Tryd.func11, Tryd.ntmps11
    go_wp2_with fail
    go_ret
    exact ⟨retb HR.out.symm, rfl⟩
  have HR := Lib.hid (refB_y h12)
  have h12' : ((s.size : Int) != 12) = false := by simpa using (show (s.size : Int) = 12 by omega)
  go_enter Tryd.func11, Tryd.ntmps11
  go_wp2_with fail
  go_loop [3] (fun i => ∃ k : Nat, k ≤ s.size ∧ i = .int .i64 k ∧ Hid (allU (s.data.toList.drop k) = allU s.data.toList)) (fun i => s.size - (intOf i).toNat)
  case atStart => exact ⟨0, Nat.zero_le _, rfl, rfl⟩
  case round =>
    obtain ⟨k, hk, rfl, HL⟩ := hrel
    by_cases hlt : k < s.size
    · have HD := Lib.hid (at_eq s k hlt)
      have hlt' : decide ((k : Int) < 12) = true := by simp; omega
      rcases isU_cases s[k] with h | h | h | h | h
      · obtain ⟨hu, hq⟩ := h
        have HU := Lib.hid hu
        have q48 : decide ((s[k].toNat : Int) < 48) = true := by simp; omega
        have r48 : decide ((48 : Int) ≤ (s[k].toNat : Int)) = false := by simp; omega
        have u48 : decide (48 ≤ s[k].toNat) = false := by simp; omega
        have v48 : decide (s[k].toNat < 48) = true := by simp; omega
        have q57 : decide ((s[k].toNat : Int) ≤ 57) = true := by simp; omega
        have r57 : decide ((57 : Int) < (s[k].toNat : Int)) = false := by simp; omega
        have u57 : decide (s[k].toNat ≤ 57) = true := by simp; omega
        have v57 : decide (57 < s[k].toNat) = false := by simp; omega
        have q65 : decide ((s[k].toNat : Int) < 65) = true := by simp; omega
        have r65 : decide ((65 : Int) ≤ (s[k].toNat : Int)) = false := by simp; omega
        have u65 : decide (65 ≤ s[k].toNat) = false := by simp; omega
        have v65 : decide (s[k].toNat < 65) = true := by simp; omega
        have q90 : decide ((s[k].toNat : Int) ≤ 90) = true := by simp; omega
        have r90 : decide ((90 : Int) < (s[k].toNat : Int)) = false := by simp; omega
        have u90 : decide (s[k].toNat ≤ 90) = true := by simp; omega
        have v90 : decide (90 < s[k].toNat) = false := by simp; omega
        clear hu hq
        go_wp2_with fail
        go_ret
        refine ⟨retb ?_, rfl⟩
        rw [HR.out, ← HL.out, HD.out, allU_cons, HU.out, Bool.false_and]
      · obtain ⟨hu, hq⟩ := h
        have HU := Lib.hid hu
        have q48 : decide ((s[k].toNat : Int) < 48) = false := by simp; omega
        have r48 : decide ((48 : Int) ≤ (s[k].toNat : Int)) = true := by simp; omega
        have u48 : decide (48 ≤ s[k].toNat) = true := by simp; omega
        have v48 : decide (s[k].toNat < 48) = false := by simp; omega
        have q57 : decide ((s[k].toNat : Int) ≤ 57) = true := by simp; omega
        have r57 : decide ((57 : Int) < (s[k].toNat : Int)) = false := by simp; omega
        have u57 : decide (s[k].toNat ≤ 57) = true := by simp; omega
        have v57 : decide (57 < s[k].toNat) = false := by simp; omega
        have q65 : decide ((s[k].toNat : Int) < 65) = true := by simp; omega
        have r65 : decide ((65 : Int) ≤ (s[k].toNat : Int)) = false := by simp; omega
        have u65 : decide (65 ≤ s[k].toNat) = false := by simp; omega
        have v65 : decide (s[k].toNat < 65) = true := by simp; omega
        clear hu hq
        go_wp2_with fail
        go_round
        case rel => exact ⟨k + 1, by omega, by go_num, by
          show _ = _
          rw [← HL.out, HD.out, allU_cons, HU.out, Bool.true_and]⟩
        case measure => simp [intOf]; omega
      · obtain ⟨hu, hq⟩ := h
        have HU := Lib.hid hu
        have q48 : decide ((s[k].toNat : Int) < 48) = false := by simp; omega
        have r48 : decide ((48 : Int) ≤ (s[k].toNat : Int)) = true := by simp; omega
        have u48 : decide (48 ≤ s[k].toNat) = true := by simp; omega
        have v48 : decide (s[k].toNat < 48) = false := by simp; omega
        have q57 : decide ((s[k].toNat : Int) ≤ 57) = false := by simp; omega
        have r57 : decide ((57 : Int) < (s[k].toNat : Int)) = true := by simp; omega
        have u57 : decide (s[k].toNat ≤ 57) = false := by simp; omega
        have v57 : decide (57 < s[k].toNat) = true := by simp; omega
        have q65 : decide ((s[k].toNat : Int) < 65) = true := by simp; omega
        have r65 : decide ((65 : Int) ≤ (s[k].toNat : Int)) = false := by simp; omega
        have u65 : decide (65 ≤ s[k].toNat) = false := by simp; omega
        have v65 : decide (s[k].toNat < 65) = true := by simp; omega
        clear hu hq
        go_wp2_with fail
        go_ret
        refine ⟨retb ?_, rfl⟩
        rw [HR.out, ← HL.out, HD.out, allU_cons, HU.out, Bool.false_and]
      · obtain ⟨hu, hq⟩ := h
        have HU := Lib.hid hu
        have q48 : decide ((s[k].toNat : Int) < 48) = false := by simp; omega
        have r48 : decide ((48 : Int) ≤ (s[k].toNat : Int)) = true := by simp; omega
        have u48 : decide (48 ≤ s[k].toNat) = true := by simp; omega
        have v48 : decide (s[k].toNat < 48) = false := by simp; omega
        have q57 : decide ((s[k].toNat : Int) ≤ 57) = false := by simp; omega
        have r57 : decide ((57 : Int) < (s[k].toNat : Int)) = true := by simp; omega
        have u57 : decide (s[k].toNat ≤ 57) = false := by simp; omega
        have v57 : decide (57 < s[k].toNat) = true := by simp; omega
        have q65 : decide ((s[k].toNat : Int) < 65) = false := by simp; omega
        have r65 : decide ((65 : Int) ≤ (s[k].toNat : Int)) = true := by simp; omega
        have u65 : decide (65 ≤ s[k].toNat) = true := by simp; omega
        have v65 : decide (s[k].toNat < 65) = false := by simp; omega
        have q90 : decide ((s[k].toNat : Int) ≤ 90) = true := by simp; omega
        have r90 : decide ((90 : Int) < (s[k].toNat : Int)) = false := by simp; omega
        have u90 : decide (s[k].toNat ≤ 90) = true := by simp; omega
        have v90 : decide (90 < s[k].toNat) = false := by simp; omega
        clear hu hq
        go_wp2_with fail
        go_round
        case rel => exact ⟨k + 1, by omega, by go_num, by
          show _ = _
          rw [← HL.out, HD.out, allU_cons, HU.out, Bool.true_and]⟩
        case measure => simp [intOf]; omega
      · obtain ⟨hu, hq⟩ := h
        have HU := Lib.hid hu
        have q48 : decide ((s[k].toNat : Int) < 48) = false := by simp; omega
        have r48 : decide ((48 : Int) ≤ (s[k].toNat : Int)) = true := by simp; omega
        have u48 : decide (48 ≤ s[k].toNat) = true := by simp; omega
        have v48 : decide (s[k].toNat < 48) = false := by simp; omega
        have q57 : decide ((s[k].toNat : Int) ≤ 57) = false := by simp; omega
        have r57 : decide ((57 : Int) < (s[k].toNat : Int)) = true := by simp; omega
        have u57 : decide (s[k].toNat ≤ 57) = false := by simp; omega
        have v57 : decide (57 < s[k].toNat) = true := by simp; omega
        have q65 : decide ((s[k].toNat : Int) < 65) = false := by simp; omega
        have r65 : decide ((65 : Int) ≤ (s[k].toNat : Int)) = true := by simp; omega
        have u65 : decide (65 ≤ s[k].toNat) = true := by simp; omega
        have v65 : decide (s[k].toNat < 65) = false := by simp; omega
        have q90 : decide ((s[k].toNat : Int) ≤ 90) = false := by simp; omega
        have r90 : decide ((90 : Int) < (s[k].toNat : Int)) = true := by simp; omega
        have u90 : decide (s[k].toNat ≤ 90) = false := by simp; omega
        have v90 : decide (90 < s[k].toNat) = true := by simp; omega
        clear hu hq
        go_wp2_with fail
        go_ret
        refine ⟨retb ?_, rfl⟩
        rw [HR.out, ← HL.out, HD.out, allU_cons, HU.out, Bool.false_and]
    · have HA : Hid (true = refB s) := by
        show _ = _
        rw [HR.out, ← HL.out, List.drop_of_length_le (by rw [lsz]; omega)]; rfl
      have hlt' : decide ((k : Int) < 12) = false := by simp; omega
      go_wp2_with fail
      go_ret
      exact ⟨retb HA.out, rfl⟩
theorem until_any (n : Int) (w : World) : Calls Tryd.prog 41 #[.int .i64 n] w fun e w' => e = .returned (.bool (decide (0 ≤ n ∧ n ≤ 2147483647))) ∧ w = w' := by
  by_cases h1 : (0 : Int) ≤ n
  · by_cases h2 : n ≤ 2147483647
    · have HD : Hid (decide (0 ≤ n ∧ n ≤ 2147483647) = true) := decide_eq_true ⟨h1, h2⟩
      go_enter Tryd.func41, Tryd.ntmps41
      go_wp2_with fail
      go_ret
      first | exact ⟨rfl, rfl⟩ | exact ⟨retb HD.out.symm, rfl⟩
    · have HD : Hid (decide (0 ≤ n ∧ n ≤ 2147483647) = false) := decide_eq_false (by omega)
      have h2' : decide (n ≤ 2147483647) = false := decide_eq_false h2
      go_enter Tryd.func41, Tryd.ntmps41
      go_wp2_with fail
      go_ret
      first | exact ⟨rfl, rfl⟩ | exact ⟨retb HD.out.symm, rfl⟩
  · have HD : Hid (decide (0 ≤ n ∧ n ≤ 2147483647) = false) := decide_eq_false (by omega)
    have h1' : decide ((0 : Int) ≤ n) = false := decide_eq_false h1
    go_enter Tryd.func41, Tryd.ntmps41
    go_wp2_with fail
    go_ret
    first | exact ⟨rfl, rfl⟩ | exact ⟨retb HD.out.symm, rfl⟩
end Go.Proofs.YtkhkncgndllkjaaDoor.Hol
