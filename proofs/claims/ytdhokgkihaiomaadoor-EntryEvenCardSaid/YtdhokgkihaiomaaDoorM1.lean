/- Contracts of the leaves: sum and difference of two amounts, what is told, size and sign. -/
import Derived.Test.YtdhokgkihaiomaaDoorProg
import Derived.Test.YtdhokgkihaiomaaDoorMMath
import Derived.Test.YtdhokgkihaiomaaDoorShelf
import Derived.WalkKit
import Derived.BigQuiet
import Derived.Lib.Hide
namespace Go.Proofs.YtdhokgkihaiomaaDoor.Mny
open Go.RowKit

theorem ret2 {k l : IntKind} {a b c d : Int} (h : a = c) (h' : b = d) : Ending.returned (.tuple #[.int k a, .int l b]) = .returned (.tuple #[.int k c, .int l d]) := by rw [h, h']

theorem sub_any (a b : Int) (w : World) (ha : Fits a) (hb : Fits b) :
    Calls Tryd.prog 18 #[.int .i64 a, .int .i64 b] w fun e w' => e = .returned (.tuple #[.int .i64 (vOf (a - b)), .int .i64 (eOf (a - b))]) ∧ w = w' := by
  go_enter Tryd.func18, Tryd.ntmps18
  go_wp2
  · have f := sub_over ha hb ‹_›
    go_ret2
    exact ⟨ret2 (vOf_f f).symm (eOf_f f).symm, rfl⟩
  · have f := sub_fine ha hb ‹_›
    go_ret2
    exact ⟨ret2 ((wrap_t f).trans (vOf_t f).symm) (eOf_t f).symm, rfl⟩

theorem ret1 {k : IntKind} {a b : Int} (h : a = b) : Ending.returned (.int k a) = .returned (.int k b) := by rw [h]

theorem size_any (a : Int) (w : World) (ha : Fits a) :
    Calls Tryd.prog 36 #[.int .i64 a] w fun e w' => e = .returned (.int .u64 (a.natAbs : Nat)) ∧ w = w' := by
  go_enter Tryd.func36, Tryd.ntmps36
  go_wp2
  · have h : a < 0 := by assumption
    go_ret
    exact ⟨ret1 (size_neg ha h), rfl⟩
  · have h : 0 ≤ a := by assumption
    go_ret
    exact ⟨ret1 (size_pos ha h), rfl⟩

def Great (w : World) (e : Ending) (w' : World) : Prop := ∃ q r : Int, 1 ≤ q ∧ e = .returned (.tuple #[.int .u64 q, .int .u64 r]) ∧ w = w'
end Go.Proofs.YtdhokgkihaiomaaDoor.Mny
