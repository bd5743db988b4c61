/- The walks of the laws DigitPuts and DigitGets. -/
import Derived.Test.YthhakhlooopkcaaDoorW6
namespace Go.Proofs.YthhakhlooopkcaaDoor
open Go.RowKit

theorem put_yes (n wd : Nat) (w : World) (hn : n < 18446744073709551616) (h1 : 1 ≤ wd) (h2 : wd ≤ 19) (hf : n < 10 ^ wd) :
    Calls Tryd.prog 8 #[.int .u64 n, .int .i64 wd] w fun e w' => e = .returned (.tuple #[.string ⟨(putL n wd).toArray⟩, .int .i64 0]) ∧ Below w.heap.size w w' :=
  (put_any n wd w hn h1 h2).mono fun _ _ ⟨he, hb⟩ => ⟨he.trans (by rw [show putV n wd = _ from if_pos hf, show putE n wd = _ from if_pos hf]), hb⟩
theorem put_over (n wd : Nat) (w : World) (hn : n < 18446744073709551616) (h1 : 1 ≤ wd) (h2 : wd ≤ 19) (hf : ¬ n < 10 ^ wd) :
    Calls Tryd.prog 8 #[.int .u64 n, .int .i64 wd] w fun e w' => e = .returned (.tuple #[.string ⟨#[]⟩, .int .i64 2]) ∧ Below w.heap.size w w' :=
  (put_any n wd w hn h1 h2).mono fun _ _ ⟨he, hb⟩ => ⟨he.trans (by rw [show putV n wd = _ from if_neg hf, show putE n wd = _ from if_neg hf]), hb⟩
theorem rput_yes (n wd : Nat) (w : World) (hn : n < 18446744073709551616) (h1 : 1 ≤ wd) (h2 : wd ≤ 19) (hf : n < 10 ^ wd) :
    Calls Tryd.prog 10 #[.int .u64 n, .int .i64 wd] w fun e w' => e = .returned (.tuple #[.string ⟨(putL n wd).toArray⟩, .bool true]) ∧ Below w.heap.size w w' :=
  (rput_any n wd w hn h1 h2).mono fun _ _ ⟨he, hb⟩ => ⟨he.trans (by rw [decide_eq_true hf]), hb⟩
theorem rput_over (n wd : Nat) (w : World) (hn : n < 18446744073709551616) (h1 : 1 ≤ wd) (h2 : wd ≤ 19) (hf : ¬ n < 10 ^ wd) :
    Calls Tryd.prog 10 #[.int .u64 n, .int .i64 wd] w fun e w' => e = .returned (.tuple #[.string ⟨(putL n wd).toArray⟩, .bool false]) ∧ Below w.heap.size w w' :=
  (rput_any n wd w hn h1 h2).mono fun _ _ ⟨he, hb⟩ => ⟨he.trans (by rw [decide_eq_false hf]), hb⟩
theorem put_size (n wd : Nat) : (⟨(putL n wd).toArray⟩ : ByteArray).size = wd := by
  show (putL n wd).toArray.size = wd
  simp [putL_len]
theorem get_put (n wd : Nat) (w : World) (h1 : 1 ≤ wd) (h2 : wd ≤ 19) (hf : n < 10 ^ wd) :
    Calls Tryd.prog 11 #[.string ⟨(putL n wd).toArray⟩] w fun e w' => e = .returned (.tuple #[.int .u64 n, .int .i64 0]) ∧ w = w' :=
  (get_ok ⟨(putL n wd).toArray⟩ w (by rw [put_size]; exact h1) (by rw [put_size]; exact h2) (putL_all n wd)).mono fun _ _ ⟨he, hb⟩ => ⟨he.trans (by
    have : val 0 (⟨(putL n wd).toArray⟩ : ByteArray).data.toList = n := val_put n wd hf
    rw [this]), hb⟩

set_option maxHeartbeats 800000 in
theorem puts_walk (n : Nat) (width : Int) (w : World) (hn : n < 18446744073709551616) :
    Calls Tryd.prog 3 #[.int .u64 n, .int .i64 width] w fun e w' => e = .returned (.bool true) ∧ Below w.heap.size w w' := by
  by_cases hw : width < 1 ∨ 19 < width
  · have HP := Lib.hid (fun w => put_arg n width w hw)
    rcases hw with hw | hw
    case' inr => have hw' : ¬ width < 1 := by omega
    all_goals
      go_enter Tryd.func3, Tryd.ntmps3
      go_wp2_with fail
      refine (HP.out _).mono ?_
      rintro e w' ⟨rfl, rfl⟩
      go_wp2_with fail
      refine (awake_any _).mono ?_
      rintro e w1 ⟨rfl, hb1⟩
      go_wp2_with fail
      go_ret
      exact ⟨rfl, hb1⟩
  · obtain ⟨wd, rfl⟩ : ∃ wd : Nat, width = wd := ⟨width.toNat, by omega⟩
    have h1 : 1 ≤ wd := by omega
    have h2 : wd ≤ 19 := by omega
    have hn1 : decide ((wd : Int) < 1) = false := by simp; omega
    have hn2 : decide ((19 : Int) < wd) = false := by simp; omega
    clear hw
    by_cases hf : n < 10 ^ wd
    · have HF := Lib.hid hf
      clear hf
      go_enter Tryd.func3, Tryd.ntmps3
      go_wp2_with fail
      refine (put_yes n wd _ hn h1 h2 HF.out).mono ?_
      rintro e w1 ⟨rfl, hb1⟩
      go_wp2_with fail
      refine (rput_yes n wd _ hn h1 h2 HF.out).mono ?_
      rintro e w2 ⟨rfl, hb2⟩
      go_wp2_with fail
      refine (get_put n wd _ h1 h2 HF.out).mono ?_
      rintro e w' ⟨rfl, rfl⟩
      go_wp2_with fail
      refine (awake_any _).mono ?_
      rintro e w3 ⟨rfl, hb3⟩
      go_wp2_with fail
      go_ret
      exact ⟨rfl, step (step hb1 hb2) hb3⟩
    · have HF := Lib.hid hf
      clear hf
      go_enter Tryd.func3, Tryd.ntmps3
      go_wp2_with fail
      refine (put_over n wd _ hn h1 h2 HF.out).mono ?_
      rintro e w1 ⟨rfl, hb1⟩
      go_wp2_with fail
      refine (rput_over n wd _ hn h1 h2 HF.out).mono ?_
      rintro e w2 ⟨rfl, hb2⟩
      go_wp2_with fail
      refine (awake_any _).mono ?_
      rintro e w3 ⟨rfl, hb3⟩
      go_wp2_with fail
      go_ret
      exact ⟨rfl, step (step hb1 hb2) hb3⟩

/-- The number and the error of a text, one and the same of both. -/
theorem gets_both (s : ByteArray) (hs : s.size ≤ 200) : ∃ (v : Nat) (k : Int), ∀ w : World,
    (Calls Tryd.prog 11 #[.string s] w fun e w' => e = .returned (.tuple #[.int .u64 v, .int .i64 k]) ∧ w = w') ∧
    (Calls Tryd.prog 13 #[.string s] w fun e w' => e = .returned (.tuple #[.int .u64 v, .int .i64 k]) ∧ w = w') := by
  by_cases h : s.size = 0 ∨ 19 < s.size
  · exact ⟨0, 1, fun w => ⟨get_arg s w h (by omega), rget_arg s w h (by omega)⟩⟩
  · rcases ha : allD s.data.toList with _ | _
    · exact ⟨0, 4, fun w => ⟨get_form s w (by omega) (by omega) ha, rget_form s w (by omega) (by omega) ha⟩⟩
    · exact ⟨val 0 s.data.toList, 0, fun w => ⟨get_ok s w (by omega) (by omega) ha, rget_ok s w (by omega) (by omega) ha⟩⟩
set_option maxHeartbeats 800000 in
theorem gets_walk (s : ByteArray) (w : World) (hm : s.size ≤ 9223372036854775807) :
    Calls Tryd.prog 4 #[.string s] w fun e w' => e = .returned (.bool true) ∧ Below w.heap.size w w' := by
  obtain ⟨t, ht, hfew⟩ := few_any s w hm
  obtain ⟨v, k, hg⟩ := gets_both t ht
  have HG := Lib.hid hg
  have HF := Lib.hid hfew
  clear hg hfew
  go_enter Tryd.func4, Tryd.ntmps4
  go_wp2_with fail
  refine HF.out.mono ?_
  rintro e w' ⟨rfl, rfl⟩
  go_wp2_with fail
  refine (HG.out _).1.mono ?_
  rintro e w' ⟨rfl, rfl⟩
  go_wp2_with fail
  refine (HG.out _).2.mono ?_
  rintro e w' ⟨rfl, rfl⟩
  go_wp2_with fail
  refine (all_any t _ (by omega)).mono ?_
  rintro e w' ⟨rfl, rfl⟩
  go_wp2_with fail
  refine (rall_any t _ (by omega)).mono ?_
  rintro e w' ⟨rfl, rfl⟩
  go_wp2_with fail
  refine (awake_any _).mono ?_
  rintro e w3 ⟨rfl, hb3⟩
  go_wp2_with fail
  go_ret
  exact ⟨rfl, hb3⟩
end Go.Proofs.YthhakhlooopkcaaDoor
