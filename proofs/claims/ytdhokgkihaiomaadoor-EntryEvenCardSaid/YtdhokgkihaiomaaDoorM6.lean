/- Contracts: the document's difference; awake. -/
import Derived.Test.YtdhokgkihaiomaaDoorM5
namespace Go.Proofs.YtdhokgkihaiomaaDoor.Mny
open Go.RowKit

theorem ints_new (w : World) (l : List Int) (hl : l.length ≤ 1000000) : Ints (w.alloc (.cells (l.map (Value.int .i64)).toArray 2)) (w.heap.size + 1) (some ⟨w.heap.size, 0, none⟩) l := fun i hi =>
  ⟨_, rfl, by simp, by
    have h := World.ownsRow_lit (base := 0) (e := 2) (size := 1) w (l.map (Value.int .i64)).toArray l.length (Nat.zero_le _) (by unfold maxLen; omega) (by simp)
    exact h.cells (g := w.heap.size) rfl i _ (by simp [hi])⟩
theorem rsum_two (a b : Int) (w : World) (ha : Fits a) (hb : Fits b) :
    Calls Tryd.prog 17 #[.slice (some ⟨w.heap.size, 0, none⟩) 2 2] (w.alloc (.cells #[.int .i64 a, .int .i64 b] 2)) fun e w' => e = .returned (.tuple #[.int .i64 (vOf (a + b)), .bool (okB (a + b))]) ∧ Below w.heap.size w w' := by
  have h := rsum_any (some ⟨w.heap.size, 0, none⟩) [a, b] 2 (w.alloc (.cells #[.int .i64 a, .int .i64 b] 2)) (by simpa using ints_new w [a, b] (by simp)) (by intro x hx; simp at hx; rcases hx with rfl | rfl <;> assumption) (by simp)
  simp at h
  exact h.mono fun e w' ⟨he, hb⟩ => ⟨he, ((Below.refl _ _).alloc (Nat.le_refl _) _).trans (hb.mono (by simp))⟩

theorem rsub_any (a b : Int) (w : World) (ha : Fits a) (hb : Fits b) :
    Calls Tryd.prog 7 #[.int .i64 a, .int .i64 b] w fun e w' => e = .returned (.tuple #[.int .i64 (vOf (a - b)), .bool (okB (a - b))]) ∧ Below w.heap.size w w' := by
  by_cases h : b = -9223372036854775808
  · by_cases h0 : 0 ≤ a
    · have f : ¬ Fits (a - b) := by unfold Fits; omega
      have HV := Lib.hid (vOf_f f)
      have HO := Lib.hid (okB_f f)
      have hb1 : (b == -9223372036854775808) = true := by simpa using h
      clear f h
      go_enter Tryd.func7, Tryd.ntmps7
      go_wp2
      go_ret2
      exact ⟨retib HV.out.symm HO.out.symm, Below.refl _ _⟩
    · have f : Fits (a - b) := by unfold Fits at *; omega
      have HV : Hid (a + 9223372036854775807 + 1 = vOf (a - b)) := by
        show _ = _
        rw [vOf_t f]; omega
      have HO := Lib.hid (okB_t f)
      have hb1 : (b == -9223372036854775808) = true := by simpa using h
      have ha' : -9223372036854775808 ≤ a := ha.1
      have h0' : a < 0 := by omega
      clear f h h0
      go_enter Tryd.func7, Tryd.ntmps7
      go_wp2
      go_ret2
      refine ⟨retib ?_ HO.out.symm, Below.refl _ _⟩
      exact HV.out
  · have hb1 : (b == -9223372036854775808) = false := by simpa using h
    have hb2 : -9223372036854775807 ≤ b ∧ b ≤ 9223372036854775807 := by unfold Fits at hb; omega
    have hn : Fits (-b) := by unfold Fits; omega
    clear h
    go_enter Tryd.func7, Tryd.ntmps7
    go_wp2_with fail
    refine (rsum_two _ _ _ ha hn).mono ?_
    rintro e w' ⟨rfl, hbel⟩
    go_wp2_with fail
    go_ret2
    rw [show a - b = a + -b from by omega]
    exact ⟨rfl, hbel⟩

theorem wake_sum (w : World) : Calls Tryd.prog 23 #[.slice (some ⟨w.heap.size, 0, none⟩) 3 3] (w.alloc (.cells #[.int .i64 9223372036854775807, .int .i64 1, .int .i64 (-1)] 2)) fun e w' =>
    e = .returned (.tuple #[.int .i64 9223372036854775807, .int .i64 0]) ∧ w.alloc (.cells #[.int .i64 9223372036854775807, .int .i64 1, .int .i64 (-1)] 2) = w' := by
  have h := sum_any (some ⟨w.heap.size, 0, none⟩) [9223372036854775807, 1, -1] 3 (w.heap.size + 1) (w.alloc (.cells #[.int .i64 9223372036854775807, .int .i64 1, .int .i64 (-1)] 2)) (by simpa using ints_new w [9223372036854775807, 1, -1] (by simp)) (by intro x hx; simp at hx; rcases hx with rfl | rfl | rfl <;> decide) (by simp)
  exact h.mono fun _ _ ⟨he, hw⟩ => ⟨he, hw⟩
theorem fu_small (u : Nat) (w : World) (h : u < 100) : Calls Tryd.prog 37 #[.int .u64 u, .int .i64 10] w fun e w' => e = .returned (.string ⟨(Lib.decDigits u).toArray⟩) ∧ w = w' := by
  go_enter Tryd.func37, Tryd.ntmps37
  go_wp2_with (first | (go_at_call 48; refine (Tryd.internal_strconv_small u h _).mono ?_; rintro e w' ⟨rfl, rfl⟩) | go_in)
  go_ret
  exact ⟨rfl, rfl⟩
theorem wake_size (w : World) : Calls Tryd.prog 36 #[.int .i64 (-105)] w fun e w' => e = .returned (.int .u64 105) ∧ w = w' :=
  (size_any (-105) w (by decide)).mono fun _ _ ⟨he, hw⟩ => ⟨he, hw⟩
theorem wake_one (w : World) : Calls Tryd.prog 37 #[.int .u64 1, .int .i64 10] w fun e w' => e = .returned (.string ⟨#[49]⟩) ∧ w = w' :=
  (fu_small 1 w (by decide)).mono fun _ _ ⟨he, hw⟩ => ⟨by rw [he, Lib.decDigits_one (by decide)]; rfl, hw⟩
theorem wake_five (w : World) : Calls Tryd.prog 37 #[.int .u64 5, .int .i64 10] w fun e w' => e = .returned (.string ⟨#[53]⟩) ∧ w = w' :=
  (fu_small 5 w (by decide)).mono fun _ _ ⟨he, hw⟩ => ⟨by rw [he, Lib.decDigits_one (by decide)]; rfl, hw⟩
theorem wake_two (w : World) : Calls Tryd.prog 38 #[.int .u64 5] w fun e w' => e = .returned (.string ⟨#[48, 53]⟩) ∧ w = w' := by
  go_enter Tryd.func38, Tryd.ntmps38
  go_wp2_with fail
  refine (wake_five _).mono ?_
  rintro e w' ⟨rfl, rfl⟩
  go_wp2_with fail
  go_ret
  exact ⟨rfl, rfl⟩
theorem wake_text (w : World) : Calls Tryd.prog 26 #[.int .i64 (-105)] w fun e w' => e = .returned (.string ⟨#[45, 49, 46, 48, 53]⟩) ∧ w = w' := by
  go_enter Tryd.func26, Tryd.ntmps26
  go_wp2_with fail
  refine (wake_size _).mono ?_
  rintro e w' ⟨rfl, rfl⟩
  go_wp2_with fail
  refine (wake_one _).mono ?_
  rintro e w' ⟨rfl, rfl⟩
  go_wp2_with fail
  refine (wake_two _).mono ?_
  rintro e w' ⟨rfl, rfl⟩
  go_wp2_with fail
  go_ret
  exact ⟨rfl, rfl⟩
end Go.Proofs.YtdhokgkihaiomaaDoor.Mny
