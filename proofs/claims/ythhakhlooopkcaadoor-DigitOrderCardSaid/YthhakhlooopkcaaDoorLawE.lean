/- The walk of the law DigitOrder. -/
import Derived.Test.YthhakhlooopkcaaDoorLawA
namespace Go.Proofs.YthhakhlooopkcaaDoor
open Go.RowKit

theorem bless_eq : ∀ (x y : List UInt8), Op.bytesLess x y = decide (x < y)
  | [], [] => by simp [Op.bytesLess]
  | _ :: _, [] => by simp [Op.bytesLess]
  | [], _ :: _ => by simp [Op.bytesLess]
  | a :: x, b :: y => by
    rw [Op.bytesLess, bless_eq x y, Bool.eq_iff_iff]
    simp [List.cons_lt_cons_iff]
theorem less_put (n m wd : Nat) (hn : n < 10 ^ wd) (hm : m < 10 ^ wd) : Op.bytesLess (putL n wd) (putL m wd) = decide (n < m) := by
  rw [bless_eq, Bool.eq_iff_iff]
  simp only [decide_eq_true_eq]
  rw [put_order, Nat.mod_eq_of_lt hn, Nat.mod_eq_of_lt hm]
theorem put_more (n wd : Nat) (hn : n < 10 ^ wd) : (⟨#[48]⟩ : ByteArray) ++ (⟨(putL n wd).toArray⟩ : ByteArray) = ⟨(putL n (wd + 1)).toArray⟩ := by
  have h : dg1 (n / 10 ^ wd) = 48 := by rw [(div_zero_iff n wd).2 hn]; rfl
  rw [putL_front, h]
  exact catEq [48] (putL n wd)
theorem putyes_at (c : Int) (n wd : Nat) (w : World) (hn : n < 18446744073709551616) (h1 : 1 ≤ wd) (h2 : wd ≤ 19) (hf : n < 10 ^ wd) (hc : c = wd) :
    Calls Tryd.prog 8 #[.int .u64 n, .int .i64 c] w fun e w' => e = .returned (.tuple #[.string ⟨(putL n wd).toArray⟩, .int .i64 0]) ∧ Below w.heap.size w w' := by
  subst hc; exact put_yes n wd w hn h1 h2 hf
theorem putover_at (c : Int) (n wd : Nat) (w : World) (hn : n < 18446744073709551616) (h1 : 1 ≤ wd) (h2 : wd ≤ 19) (hf : ¬ n < 10 ^ wd) (hc : c = wd) :
    Calls Tryd.prog 8 #[.int .u64 n, .int .i64 c] w fun e w' => e = .returned (.tuple #[.string ⟨#[]⟩, .int .i64 2]) ∧ Below w.heap.size w w' := by
  subst hc; exact put_over n wd w hn h1 h2 hf
theorem pow_up {n wd : Nat} (h : n < 10 ^ wd) : n < 10 ^ (wd + 1) := by rw [pow_s]; omega

set_option maxHeartbeats 1600000 in
theorem order_walk (n m x : Nat) (w : World) (hn : n < 18446744073709551616) (hm : m < 18446744073709551616) (hx : x ≤ 255) :
    Calls Tryd.prog 7 #[.int .u64 n, .int .u64 m, .int .u8 x] w fun e w' => e = .returned (.bool true) ∧ Below w.heap.size w w' := by
  obtain ⟨wd, hwd⟩ : ∃ wd, 1 + x % 19 = wd := ⟨_, rfl⟩
  have h1 : 1 ≤ wd := by omega
  have h2 : wd ≤ 19 := by omega
  have HW := Lib.hid hwd
  have HWI : Hid ((1 : Int) + (x : Int) % 19 = wd) := by show _ = _; omega
  clear hwd
  by_cases fn : n < 10 ^ wd
  · have HN := Lib.hid fn
    clear fn
    by_cases fm : m < 10 ^ wd
    · have HM := Lib.hid fm
      clear fm
      go_enter Tryd.func7, Tryd.ntmps7
      go_wp2_with fail
      refine (putyes_at _ n wd _ hn h1 h2 HN.out HWI.out).mono ?_
      rintro e w1 ⟨rfl, hb1⟩
      go_wp2_with fail
      refine (putyes_at _ m wd _ hm h1 h2 HM.out HWI.out).mono ?_
      rintro e w2 ⟨rfl, hb2⟩
      have hless := less_put n m wd HN.out HM.out
      go_wp2_with fail
      · exfalso
        have h : (((putL m wd).length : Int) != 1 + (x : Int) % 19) = true := by assumption
        rw [putL_len, HWI.out] at h
        simp at h
      · refine (awake_any _).mono ?_
        rintro e w3 ⟨rfl, hb3⟩
        go_wp2_with fail
        go_ret
        exact ⟨rfl, step (step hb1 hb2) hb3⟩
      · have h : ((1 : Int) + (x : Int) % 19 == 19) = false := by assumption
        have h19 : wd + 1 ≤ 19 := by
          rw [HWI.out] at h
          have : ¬ (wd : Int) = 19 := by simpa using h
          omega
        refine (putyes_at _ n (wd + 1) _ hn (by omega) h19 (pow_up HN.out) (by have := HWI.out; omega)).mono ?_
        rintro e w3 ⟨rfl, hb3⟩
        have hcat := put_more n wd HN.out
        have hsz : (⟨(putL n wd).toArray⟩ : ByteArray).size ≤ 19 := by rw [put_size]; exact h2
        have hsz2 : (⟨#[48]⟩ : ByteArray).size = 1 := rfl
        go_wp2_with fail
        refine (awake_any _).mono ?_
        rintro e w4 ⟨rfl, hb4⟩
        go_wp2_with fail
        go_ret
        exact ⟨rfl, step (step (step hb1 hb2) hb3) hb4⟩
      · exfalso
        have h : ¬ ((putL n wd).length : Int) = 1 + (x : Int) % 19 := by assumption
        rw [putL_len, HWI.out] at h
        exact h rfl
    · have HM := Lib.hid fm
      clear fm
      go_enter Tryd.func7, Tryd.ntmps7
      go_wp2_with fail
      refine (putyes_at _ n wd _ hn h1 h2 HN.out HWI.out).mono ?_
      rintro e w1 ⟨rfl, hb1⟩
      go_wp2_with fail
      refine (putover_at _ m wd _ hm h1 h2 HM.out HWI.out).mono ?_
      rintro e w2 ⟨rfl, hb2⟩
      go_wp2_with fail
      · refine (awake_any _).mono ?_
        rintro e w3 ⟨rfl, hb3⟩
        go_wp2_with fail
        go_ret
        exact ⟨rfl, step (step hb1 hb2) hb3⟩
      · have h : ((1 : Int) + (x : Int) % 19 == 19) = false := by assumption
        have h19 : wd + 1 ≤ 19 := by
          rw [HWI.out] at h
          have : ¬ (wd : Int) = 19 := by simpa using h
          omega
        refine (putyes_at _ n (wd + 1) _ hn (by omega) h19 (pow_up HN.out) (by have := HWI.out; omega)).mono ?_
        rintro e w3 ⟨rfl, hb3⟩
        have hcat := put_more n wd HN.out
        have hsz : (⟨(putL n wd).toArray⟩ : ByteArray).size ≤ 19 := by rw [put_size]; exact h2
        have hsz2 : (⟨#[48]⟩ : ByteArray).size = 1 := rfl
        go_wp2_with fail
        refine (awake_any _).mono ?_
        rintro e w4 ⟨rfl, hb4⟩
        go_wp2_with fail
        go_ret
        exact ⟨rfl, step (step (step hb1 hb2) hb3) hb4⟩
  · have HN := Lib.hid fn
    clear fn
    by_cases fm : m < 10 ^ wd
    · have HM := Lib.hid fm
      clear fm
      go_enter Tryd.func7, Tryd.ntmps7
      go_wp2_with fail
      refine (putover_at _ n wd _ hn h1 h2 HN.out HWI.out).mono ?_
      rintro e w1 ⟨rfl, hb1⟩
      go_wp2_with fail
      refine (putyes_at _ m wd _ hm h1 h2 HM.out HWI.out).mono ?_
      rintro e w2 ⟨rfl, hb2⟩
      go_wp2_with fail
      refine (awake_any _).mono ?_
      rintro e w3 ⟨rfl, hb3⟩
      go_wp2_with fail
      go_ret
      exact ⟨rfl, step (step hb1 hb2) hb3⟩
    · have HM := Lib.hid fm
      clear fm
      go_enter Tryd.func7, Tryd.ntmps7
      go_wp2_with fail
      refine (putover_at _ n wd _ hn h1 h2 HN.out HWI.out).mono ?_
      rintro e w1 ⟨rfl, hb1⟩
      go_wp2_with fail
      refine (putover_at _ m wd _ hm h1 h2 HM.out HWI.out).mono ?_
      rintro e w2 ⟨rfl, hb2⟩
      go_wp2_with fail
      refine (awake_any _).mono ?_
      rintro e w3 ⟨rfl, hb3⟩
      go_wp2_with fail
      go_ret
      exact ⟨rfl, step (step hb1 hb2) hb3⟩
end Go.Proofs.YthhakhlooopkcaaDoor
