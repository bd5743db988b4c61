/- Contracts of the leaves: sum and difference of two amounts, what is told, size and sign. -/
import Derived.Test.YtejdhemnlcbffaaDoorProg
import Derived.Test.YtejdhemnlcbffaaDoorMMath
import Derived.WalkKit
import Derived.BigQuiet
import Derived.Lib.Hide
namespace Go.Proofs.YtejdhemnlcbffaaDoor.Mny
open Go.RowKit

theorem ret2 {k l : IntKind} {a b c d : Int} (h : a = c) (h' : b = d) : Ending.returned (.tuple #[.int k a, .int l b]) = .returned (.tuple #[.int k c, .int l d]) := by rw [h, h']

theorem add_any (a b : Int) (w : World) (ha : Fits a) (hb : Fits b) :
    Calls Tryd.prog 55 #[.int .i64 a, .int .i64 b] w fun e w' => e = .returned (.tuple #[.int .i64 (vOf (a + b)), .int .i64 (eOf (a + b))]) ∧ w = w' := by
  go_enter Tryd.func55, Tryd.ntmps55
  go_wp2
  · have f := add_over ha hb ‹_›
    go_ret2
    exact ⟨ret2 (vOf_f f).symm (eOf_f f).symm, rfl⟩
  · have f := add_fine ha hb ‹_›
    go_ret2
    exact ⟨ret2 ((wrap_t f).trans (vOf_t f).symm) (eOf_t f).symm, rfl⟩

theorem sub_any (a b : Int) (w : World) (ha : Fits a) (hb : Fits b) :
    Calls Tryd.prog 34 #[.int .i64 a, .int .i64 b] w fun e w' => e = .returned (.tuple #[.int .i64 (vOf (a - b)), .int .i64 (eOf (a - b))]) ∧ w = w' := by
  go_enter Tryd.func34, Tryd.ntmps34
  go_wp2
  · have f := sub_over ha hb ‹_›
    go_ret2
    exact ⟨ret2 (vOf_f f).symm (eOf_f f).symm, rfl⟩
  · have f := sub_fine ha hb ‹_›
    go_ret2
    exact ⟨ret2 ((wrap_t f).trans (vOf_t f).symm) (eOf_t f).symm, rfl⟩

theorem ret1 {k : IntKind} {a b : Int} (h : a = b) : Ending.returned (.int k a) = .returned (.int k b) := by rw [h]

def Great (w : World) (e : Ending) (w' : World) : Prop := ∃ q r : Int, 1 ≤ q ∧ e = .returned (.tuple #[.int .u64 q, .int .u64 r]) ∧ w = w'
end Go.Proofs.YtejdhemnlcbffaaDoor.Mny
