/- Contracts: the document's difference; awake. -/
import Derived.Test.YtejdhemnlcbffaaDoorM5
namespace Go.Proofs.YtejdhemnlcbffaaDoor.Mny
open Go.RowKit

theorem ints_new (w : World) (l : List Int) (hl : l.length ≤ 1000000) : Ints (w.alloc (.cells (l.map (Value.int .i64)).toArray 2)) (w.heap.size + 1) (some ⟨w.heap.size, 0, none⟩) l := fun i hi =>
  ⟨_, rfl, by simp, by
    have h := World.ownsRow_lit (base := 0) (e := 2) (size := 1) w (l.map (Value.int .i64)).toArray l.length (Nat.zero_le _) (by unfold maxLen; omega) (by simp)
    exact h.cells (g := w.heap.size) rfl i _ (by simp [hi])⟩
theorem rsum_two (a b : Int) (w : World) (ha : Fits a) (hb : Fits b) :
    Calls Tryd.prog 23 #[.slice (some ⟨w.heap.size, 0, none⟩) 2 2] (w.alloc (.cells #[.int .i64 a, .int .i64 b] 2)) fun e w' => e = .returned (.tuple #[.int .i64 (vOf (a + b)), .bool (okB (a + b))]) ∧ Below w.heap.size w w' := by
  have h := rsum_any (some ⟨w.heap.size, 0, none⟩) [a, b] 2 (w.alloc (.cells #[.int .i64 a, .int .i64 b] 2)) (by simpa using ints_new w [a, b] (by simp)) (by intro x hx; simp at hx; rcases hx with rfl | rfl <;> assumption) (by simp)
  simp at h
  exact h.mono fun e w' ⟨he, hb⟩ => ⟨he, ((Below.refl _ _).alloc (Nat.le_refl _) _).trans (hb.mono (by simp))⟩

/-! ### The chapter's examples -/
theorem wake_add (w : World) : Calls Tryd.prog 55 #[.int .i64 9223372036854775807, .int .i64 1] w fun e w' => e = .returned (.tuple #[.int .i64 0, .int .i64 2]) ∧ w = w' :=
  (add_any 9223372036854775807 1 w (by decide) (by decide)).mono fun _ _ ⟨he, hw⟩ => ⟨he, hw⟩
theorem wake_sum (w : World) : Calls Tryd.prog 27 #[.slice (some ⟨w.heap.size, 0, none⟩) 3 3] (w.alloc (.cells #[.int .i64 9223372036854775807, .int .i64 1, .int .i64 (-1)] 2)) fun e w' =>
    e = .returned (.tuple #[.int .i64 9223372036854775807, .int .i64 0]) ∧ w.alloc (.cells #[.int .i64 9223372036854775807, .int .i64 1, .int .i64 (-1)] 2) = w' := by
  have h := sum_any (some ⟨w.heap.size, 0, none⟩) [9223372036854775807, 1, -1] 3 (w.heap.size + 1) (w.alloc (.cells #[.int .i64 9223372036854775807, .int .i64 1, .int .i64 (-1)] 2)) (by simpa using ints_new w [9223372036854775807, 1, -1] (by simp)) (by intro x hx; simp at hx; rcases hx with rfl | rfl | rfl <;> decide) (by simp)
  exact h.mono fun _ _ ⟨he, hw⟩ => ⟨he, hw⟩
end Go.Proofs.YtejdhemnlcbffaaDoor.Mny
