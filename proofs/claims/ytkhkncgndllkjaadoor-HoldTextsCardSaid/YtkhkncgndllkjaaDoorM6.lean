/- Contracts: the document's difference; awake. -/
import Derived.Test.YtkhkncgndllkjaaDoorM5
import Derived.Test.YtkhkncgndllkjaaDoorShelf
import Derived.Lib.ItoaMem
namespace Go.Proofs.YtkhkncgndllkjaaDoor.Mny
open Go.RowKit

theorem ints_new (w : World) (l : List Int) (hl : l.length ≤ 1000000) : Ints (w.alloc (.cells (l.map (Value.int .i64)).toArray 2)) (w.heap.size + 1) (some ⟨w.heap.size, 0, none⟩) l := fun i hi =>
  ⟨_, rfl, by simp, by
    have h := World.ownsRow_lit (base := 0) (e := 2) (size := 1) w (l.map (Value.int .i64)).toArray l.length (Nat.zero_le _) (by unfold maxLen; omega) (by simp)
    exact h.cells (g := w.heap.size) rfl i _ (by simp [hi])⟩
theorem rsum_two (a b : Int) (w : World) (ha : Fits a) (hb : Fits b) :
    Calls Tryd.prog 39 #[.slice (some ⟨w.heap.size, 0, none⟩) 2 2] (w.alloc (.cells #[.int .i64 a, .int .i64 b] 2)) fun e w' => e = .returned (.tuple #[.int .i64 (vOf (a + b)), .bool (okB (a + b))]) ∧ Below w.heap.size w w' := by
  have h := rsum_any (some ⟨w.heap.size, 0, none⟩) [a, b] 2 (w.alloc (.cells #[.int .i64 a, .int .i64 b] 2)) (by simpa using ints_new w [a, b] (by simp)) (by intro x hx; simp at hx; rcases hx with rfl | rfl <;> assumption) (by simp)
  simp at h
  exact h.mono fun e w' ⟨he, hb⟩ => ⟨he, ((Below.refl _ _).alloc (Nat.le_refl _) _).trans (hb.mono (by simp))⟩

theorem wake_sum (w : World) : Calls Tryd.prog 37 #[.slice (some ⟨w.heap.size, 0, none⟩) 3 3] (w.alloc (.cells #[.int .i64 9223372036854775807, .int .i64 1, .int .i64 (-1)] 2)) fun e w' =>
    e = .returned (.tuple #[.int .i64 9223372036854775807, .int .i64 0]) ∧ w.alloc (.cells #[.int .i64 9223372036854775807, .int .i64 1, .int .i64 (-1)] 2) = w' := by
  have h := sum_any (some ⟨w.heap.size, 0, none⟩) [9223372036854775807, 1, -1] 3 (w.heap.size + 1) (w.alloc (.cells #[.int .i64 9223372036854775807, .int .i64 1, .int .i64 (-1)] 2)) (by simpa using ints_new w [9223372036854775807, 1, -1] (by simp)) (by intro x hx; simp at hx; rcases hx with rfl | rfl | rfl <;> decide) (by simp)
  exact h.mono fun _ _ ⟨he, hw⟩ => ⟨he, hw⟩
theorem fu_small (u : Nat) (w : World) (h : u < 100) : Calls Tryd.prog 56 #[.int .u64 u, .int .i64 10] w fun e w' => e = .returned (.string ⟨(Lib.decDigits u).toArray⟩) ∧ w = w' := by
  go_enter Tryd.func56, Tryd.ntmps56
  go_wp2_with (first | (go_at_call 80; refine (Tryd.internal_strconv_small u h _).mono ?_; rintro e w' ⟨rfl, rfl⟩) | go_in)
  go_ret
  exact ⟨rfl, rfl⟩
theorem wake_size (w : World) : Calls Tryd.prog 55 #[.int .i64 (-105)] w fun e w' => e = .returned (.int .u64 105) ∧ w = w' :=
  (size_any (-105) w (by decide)).mono fun _ _ ⟨he, hw⟩ => ⟨he, hw⟩
theorem wake_one (w : World) : Calls Tryd.prog 56 #[.int .u64 1, .int .i64 10] w fun e w' => e = .returned (.string ⟨#[49]⟩) ∧ w = w' :=
  (fu_small 1 w (by decide)).mono fun _ _ ⟨he, hw⟩ => ⟨by rw [he, Lib.decDigits_one (by decide)]; rfl, hw⟩
theorem wake_five (w : World) : Calls Tryd.prog 56 #[.int .u64 5, .int .i64 10] w fun e w' => e = .returned (.string ⟨#[53]⟩) ∧ w = w' :=
  (fu_small 5 w (by decide)).mono fun _ _ ⟨he, hw⟩ => ⟨by rw [he, Lib.decDigits_one (by decide)]; rfl, hw⟩
theorem wake_two (w : World) : Calls Tryd.prog 57 #[.int .u64 5] w fun e w' => e = .returned (.string ⟨#[48, 53]⟩) ∧ w = w' := by
  go_enter Tryd.func57, Tryd.ntmps57
  go_wp2_with fail
  refine (wake_five _).mono ?_
  rintro e w' ⟨rfl, rfl⟩
  go_wp2_with fail
  go_ret
  exact ⟨rfl, rfl⟩
theorem wake_text (w : World) : Calls Tryd.prog 32 #[.int .i64 (-105)] w fun e w' => e = .returned (.string ⟨#[45, 49, 46, 48, 53]⟩) ∧ w = w' := by
  go_enter Tryd.func32, Tryd.ntmps32
  go_wp2_with fail
  refine (wake_size _).mono ?_
  rintro e w' ⟨rfl, rfl⟩
  go_wp2_with fail
  refine (wake_one _).mono ?_
  rintro e w' ⟨rfl, rfl⟩
  go_wp2_with fail
  refine (wake_two _).mono ?_
  rintro e w' ⟨rfl, rfl⟩
  go_wp2_with fail
  go_ret
  exact ⟨rfl, rfl⟩
end Go.Proofs.YtkhkncgndllkjaaDoor.Mny
