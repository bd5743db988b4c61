/- Contracts of the leaves: sum and difference of two amounts, what is told, size and sign. -/
import Derived.Test.YtkhkncgndllkjaaDoorProg
import Derived.Test.YtkhkncgndllkjaaDoorMMath
import Derived.WalkKit
import Derived.BigQuiet
import Derived.Lib.Hide
namespace Go.Proofs.YtkhkncgndllkjaaDoor.Mny
open Go.RowKit

theorem ret2 {k l : IntKind} {a b c d : Int} (h : a = c) (h' : b = d) : Ending.returned (.tuple #[.int k a, .int l b]) = .returned (.tuple #[.int k c, .int l d]) := by rw [h, h']

theorem ret1 {k : IntKind} {a b : Int} (h : a = b) : Ending.returned (.int k a) = .returned (.int k b) := by rw [h]

theorem size_any (a : Int) (w : World) (ha : Fits a) :
    Calls Tryd.prog 55 #[.int .i64 a] w fun e w' => e = .returned (.int .u64 (a.natAbs : Nat)) ∧ w = w' := by
  go_enter Tryd.func55, Tryd.ntmps55
  go_wp2
  · have h : a < 0 := by assumption
    go_ret
    exact ⟨ret1 (size_neg ha h), rfl⟩
  · have h : 0 ≤ a := by assumption
    go_ret
    exact ⟨ret1 (size_pos ha h), rfl⟩

theorem signed_any (u : Nat) (b : Bool) (w : World) (hu : u < 18446744073709551616) :
    Calls Tryd.prog 53 #[.int .u64 u, .bool b] w fun e w' => e = .returned (.tuple #[.int .i64 (vOf (sg b u)), .int .i64 (eOf (sg b u))]) ∧ w = w' := by
  cases b
  · by_cases h : (u : Int) ≤ 9223372036854775807
    · have f : Fits (sg false u) := by unfold Fits sg; simp; omega
      have HV := Lib.hid (vOf_t f)
      have HE := Lib.hid (eOf_t f)
      clear f
      go_enter Tryd.func53, Tryd.ntmps53
      go_wp2
      go_ret2
      exact ⟨ret2 (by rw [HV.out]; first | rfl | simp [sg]) HE.out.symm, rfl⟩
    · have f : ¬ Fits (sg false u) := by unfold Fits sg; simp; omega
      have HV := Lib.hid (vOf_f f)
      have HE := Lib.hid (eOf_f f)
      clear f
      go_enter Tryd.func53, Tryd.ntmps53
      go_wp2
      go_ret2
      exact ⟨ret2 HV.out.symm HE.out.symm, rfl⟩
  · by_cases h : (u : Int) ≤ 9223372036854775808
    · have f : Fits (sg true u) := by unfold Fits sg; simp; omega
      have HV := Lib.hid (vOf_t f)
      have HE := Lib.hid (eOf_t f)
      have HN := Lib.hid (neg_wrap (u := u) (by omega))
      clear f
      go_enter Tryd.func53, Tryd.ntmps53
      go_wp2
      go_ret2
      exact ⟨ret2 (by rw [HV.out]; exact HN.out) HE.out.symm, rfl⟩
    · have f : ¬ Fits (sg true u) := by unfold Fits sg; simp; omega
      have HV := Lib.hid (vOf_f f)
      have HE := Lib.hid (eOf_f f)
      clear f
      go_enter Tryd.func53, Tryd.ntmps53
      go_wp2
      go_ret2
      exact ⟨ret2 HV.out.symm HE.out.symm, rfl⟩

def Great (w : World) (e : Ending) (w' : World) : Prop := ∃ q r : Int, 1 ≤ q ∧ e = .returned (.tuple #[.int .u64 q, .int .u64 r]) ∧ w = w'
end Go.Proofs.YtkhkncgndllkjaaDoor.Mny
