/- Contract: the chapter's examples. -/
import Derived.Test.YthhakhlooopkcaaDoorW5
namespace Go.Proofs.YthhakhlooopkcaaDoor
open Go.RowKit

theorem wake_put (w : World) : Calls Tryd.prog 8 #[.int .u64 42, .int .i64 6] w fun e w' => e = .returned (.tuple #[.string ⟨#[48, 48, 48, 48, 52, 50]⟩, .int .i64 0]) ∧ Below w.heap.size w w' :=
  (put_any 42 6 w (by decide) (by decide) (by decide)).mono fun _ _ ⟨he, hb⟩ => ⟨he.trans (by
    have h1 : putV 42 6 = ⟨#[48, 48, 48, 48, 52, 50]⟩ := (if_pos (by decide)).trans (by rfl)
    have h2 : putE 42 6 = 0 := if_pos (by decide)
    rw [h1, h2]), hb⟩
theorem wake_sign (w : World) : Calls Tryd.prog 16 #[.string ⟨#[55, 57, 57, 50, 55, 51, 57, 56, 55, 49]⟩] w fun e w' => e = .returned (.tuple #[.string ⟨#[55, 57, 57, 50, 55, 51, 57, 56, 55, 49, 51]⟩, .int .i64 0]) ∧ Below w.heap.size w w' :=
  (sign_yes ⟨#[55, 57, 57, 50, 55, 51, 57, 56, 55, 49]⟩ w (by decide) (by decide)).mono fun _ _ ⟨he, hb⟩ => ⟨he.trans (by
    have h1 : signL [55, 57, 57, 50, 55, 51, 57, 56, 55, 49] = [55, 57, 57, 50, 55, 51, 57, 56, 55, 49, 51] := by decide
    show Ending.returned (.tuple #[.string ⟨(signL [55, 57, 57, 50, 55, 51, 57, 56, 55, 49]).toArray⟩, .int .i64 0]) = _
    rw [h1]), hb⟩
theorem wake_get (w : World) : Calls Tryd.prog 11 #[.string ⟨#[49, 97]⟩] w fun e w' => e = .returned (.tuple #[.int .u64 0, .int .i64 4]) ∧ w = w' :=
  get_form ⟨#[49, 97]⟩ w (by decide) (by decide) (by decide)
theorem wake_sound (w : World) : Calls Tryd.prog 18 #[.string ⟨#[55, 57, 57, 50, 55, 51, 57, 56, 55, 49, 51]⟩] w fun e w' => e = .returned (.bool true) ∧ Below w.heap.size w w' :=
  (sound_any ⟨#[55, 57, 57, 50, 55, 51, 57, 56, 55, 49, 51]⟩ w (by decide)).mono fun _ _ ⟨he, hb⟩ => ⟨he.trans (by
    have h1 : soundL [55, 57, 57, 50, 55, 51, 57, 56, 55, 49, 51] = true := by decide
    show Ending.returned (.bool (soundL [55, 57, 57, 50, 55, 51, 57, 56, 55, 49, 51])) = _
    rw [h1]), hb⟩
set_option maxHeartbeats 800000 in
theorem awake_any (w : World) : Calls Tryd.prog 9 #[] w fun e w' => e = .returned (.bool true) ∧ Below w.heap.size w w' := by
  go_enter Tryd.func9, Tryd.ntmps9
  go_wp2_with fail
  refine (wake_put _).mono ?_
  rintro e w1 ⟨rfl, hb1⟩
  go_wp2_with fail
  refine (wake_sign _).mono ?_
  rintro e w2 ⟨rfl, hb2⟩
  go_wp2_with fail
  refine (wake_get _).mono ?_
  rintro e w' ⟨rfl, rfl⟩
  go_wp2_with fail
  refine (wake_sound _).mono ?_
  rintro e w3 ⟨rfl, hb3⟩
  go_wp2_with fail
  go_ret
  exact ⟨rfl, step (step hb1 hb2) hb3⟩
end Go.Proofs.YthhakhlooopkcaaDoor
