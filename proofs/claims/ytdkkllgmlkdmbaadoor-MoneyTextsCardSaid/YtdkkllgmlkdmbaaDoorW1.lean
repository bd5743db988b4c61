/- Contracts of the leaves: sum and difference of two amounts, what is told, size and sign. -/
import Derived.Test.YtdkkllgmlkdmbaaDoorProg
import Derived.Test.YtdkkllgmlkdmbaaDoorMath
import Derived.Test.YtdkkllgmlkdmbaaDoorShelf
import Derived.WalkKit
import Derived.BigQuiet
import Derived.Lib.Hide
namespace Go.Proofs.YtdkkllgmlkdmbaaDoor
open Go.RowKit

theorem ret2 {k l : IntKind} {a b c d : Int} (h : a = c) (h' : b = d) : Ending.returned (.tuple #[.int k a, .int l b]) = .returned (.tuple #[.int k c, .int l d]) := by rw [h, h']

theorem add_any (a b : Int) (w : World) (ha : Fits a) (hb : Fits b) :
    Calls Tryd.prog 10 #[.int .i64 a, .int .i64 b] w fun e w' => e = .returned (.tuple #[.int .i64 (vOf (a + b)), .int .i64 (eOf (a + b))]) ∧ w = w' := by
  go_enter Tryd.func10, Tryd.ntmps10
  go_wp2
  · have f := add_over ha hb ‹_›
    go_ret2
    exact ⟨ret2 (vOf_f f).symm (eOf_f f).symm, rfl⟩
  · have f := add_fine ha hb ‹_›
    go_ret2
    exact ⟨ret2 ((wrap_t f).trans (vOf_t f).symm) (eOf_t f).symm, rfl⟩

theorem sub_any (a b : Int) (w : World) (ha : Fits a) (hb : Fits b) :
    Calls Tryd.prog 11 #[.int .i64 a, .int .i64 b] w fun e w' => e = .returned (.tuple #[.int .i64 (vOf (a - b)), .int .i64 (eOf (a - b))]) ∧ w = w' := by
  go_enter Tryd.func11, Tryd.ntmps11
  go_wp2
  · have f := sub_over ha hb ‹_›
    go_ret2
    exact ⟨ret2 (vOf_f f).symm (eOf_f f).symm, rfl⟩
  · have f := sub_fine ha hb ‹_›
    go_ret2
    exact ⟨ret2 ((wrap_t f).trans (vOf_t f).symm) (eOf_t f).symm, rfl⟩

/-- 'told' says yes of what is answered as it should be. -/
theorem told_ok (a b : Int) (w : World) (h : a = b) :
    Calls Tryd.prog 16 #[.int .i64 a, .int .i64 0, .int .i64 b, .bool true] w fun e w' => e = .returned (.bool true) ∧ w = w' := by
  subst h
  go_enter Tryd.func16, Tryd.ntmps16
  go_wp2
  go_ret
  exact ⟨rfl, rfl⟩
theorem told_over (b : Int) (w : World) :
    Calls Tryd.prog 16 #[.int .i64 0, .int .i64 2, .int .i64 b, .bool false] w fun e w' => e = .returned (.bool true) ∧ w = w' := by
  go_enter Tryd.func16, Tryd.ntmps16
  go_wp2
  go_ret
  exact ⟨rfl, rfl⟩
theorem told_any (n b : Int) (w : World) (h : Fits n → n = b) :
    Calls Tryd.prog 16 #[.int .i64 (vOf n), .int .i64 (eOf n), .int .i64 b, .bool (okB n)] w fun e w' => e = .returned (.bool true) ∧ w = w' := by
  by_cases f : Fits n
  · rw [vOf_t f, eOf_t f, okB_t f]
    exact told_ok n b w (h f)
  · rw [vOf_f f, eOf_f f, okB_f f]
    exact told_over b w

theorem ret1 {k : IntKind} {a b : Int} (h : a = b) : Ending.returned (.int k a) = .returned (.int k b) := by rw [h]

theorem size_any (a : Int) (w : World) (ha : Fits a) :
    Calls Tryd.prog 27 #[.int .i64 a] w fun e w' => e = .returned (.int .u64 (a.natAbs : Nat)) ∧ w = w' := by
  go_enter Tryd.func27, Tryd.ntmps27
  go_wp2
  · have h : a < 0 := by assumption
    go_ret
    exact ⟨ret1 (size_neg ha h), rfl⟩
  · have h : 0 ≤ a := by assumption
    go_ret
    exact ⟨ret1 (size_pos ha h), rfl⟩

theorem signed_any (u : Nat) (b : Bool) (w : World) (hu : u < 18446744073709551616) :
    Calls Tryd.prog 28 #[.int .u64 u, .bool b] w fun e w' => e = .returned (.tuple #[.int .i64 (vOf (sg b u)), .int .i64 (eOf (sg b u))]) ∧ w = w' := by
  cases b
  · by_cases h : (u : Int) ≤ 9223372036854775807
    · have f : Fits (sg false u) := by unfold Fits sg; simp; omega
      have HV := Lib.hid (vOf_t f)
      have HE := Lib.hid (eOf_t f)
      clear f
      go_enter Tryd.func28, Tryd.ntmps28
      go_wp2
      go_ret2
      exact ⟨ret2 (by rw [HV.out]; first | rfl | simp [sg]) HE.out.symm, rfl⟩
    · have f : ¬ Fits (sg false u) := by unfold Fits sg; simp; omega
      have HV := Lib.hid (vOf_f f)
      have HE := Lib.hid (eOf_f f)
      clear f
      go_enter Tryd.func28, Tryd.ntmps28
      go_wp2
      go_ret2
      exact ⟨ret2 HV.out.symm HE.out.symm, rfl⟩
  · by_cases h : (u : Int) ≤ 9223372036854775808
    · have f : Fits (sg true u) := by unfold Fits sg; simp; omega
      have HV := Lib.hid (vOf_t f)
      have HE := Lib.hid (eOf_t f)
      have HN := Lib.hid (neg_wrap (u := u) (by omega))
      clear f
      go_enter Tryd.func28, Tryd.ntmps28
      go_wp2
      go_ret2
      exact ⟨ret2 (by rw [HV.out]; exact HN.out) HE.out.symm, rfl⟩
    · have f : ¬ Fits (sg true u) := by unfold Fits sg; simp; omega
      have HV := Lib.hid (vOf_f f)
      have HE := Lib.hid (eOf_f f)
      clear f
      go_enter Tryd.func28, Tryd.ntmps28
      go_wp2
      go_ret2
      exact ⟨ret2 HV.out.symm HE.out.symm, rfl⟩

theorem mul_small (x y : Nat) (w : World) (hx : x ≤ 9223372036854775808) (hy : y ≤ 9223372036854775808) (h : x * y < 18446744073709551616) :
    Calls Tryd.prog 26 #[.int .u64 x, .int .u64 y] w fun e w' => e = .returned (.tuple #[.int .u64 0, .int .u64 (x * y : Nat)]) ∧ w = w' :=
  (Tryd.bits_Mul64 x y (by omega) (by omega) w).mono fun e w' ⟨he, hw⟩ => ⟨by rw [he, Nat.mod_eq_of_lt h, Nat.div_eq_of_lt h]; rfl, hw.symm⟩
def Great (w : World) (e : Ending) (w' : World) : Prop := ∃ q r : Int, 1 ≤ q ∧ e = .returned (.tuple #[.int .u64 q, .int .u64 r]) ∧ w = w'
theorem mul_great (x y : Nat) (w : World) (hx : x ≤ 9223372036854775808) (hy : y ≤ 9223372036854775808) (h : 18446744073709551616 ≤ x * y) :
    Calls Tryd.prog 26 #[.int .u64 x, .int .u64 y] w (Great w) :=
  (Tryd.bits_Mul64 x y (by omega) (by omega) w).mono fun e w' ⟨he, hw⟩ => ⟨_, _, by omega, he, hw.symm⟩

theorem times_any (a n : Int) (w : World) (ha : Fits a) (hn : Fits n) :
    Calls Tryd.prog 12 #[.int .i64 a, .int .i64 n] w fun e w' => e = .returned (.tuple #[.int .i64 (vOf (a * n)), .int .i64 (eOf (a * n))]) ∧ w = w' := by
  have h1 := natAbs_le ha
  have h2 := natAbs_le hn
  by_cases h : a.natAbs * n.natAbs < 18446744073709551616
  · have HS := Lib.hid (sg_mul a n)
    go_enter Tryd.func12, Tryd.ntmps12
    go_wp2_with fail
    refine (size_any _ _ ha).mono ?_
    rintro e w' ⟨rfl, rfl⟩
    go_wp2_with fail
    refine (size_any _ _ hn).mono ?_
    rintro e w' ⟨rfl, rfl⟩
    go_wp2_with fail
    refine (mul_small _ _ _ h1 h2 h).mono ?_
    rintro e w' ⟨rfl, rfl⟩
    go_wp2_with fail
    refine (signed_any _ _ _ h).mono ?_
    rintro e w' ⟨rfl, rfl⟩
    go_wp2_with fail
    go_ret2
    rw [← HS.out]
    exact ⟨rfl, rfl⟩
  · have f := not_fits_mul (a := a) (n := n) (by omega)
    have HV := Lib.hid (vOf_f f)
    have HE := Lib.hid (eOf_f f)
    go_enter Tryd.func12, Tryd.ntmps12
    go_wp2_with fail
    refine (size_any _ _ ha).mono ?_
    rintro e w' ⟨rfl, rfl⟩
    go_wp2_with fail
    refine (size_any _ _ hn).mono ?_
    rintro e w' ⟨rfl, rfl⟩
    go_wp2_with fail
    refine (mul_great _ _ _ h1 h2 (by omega)).mono ?_
    rintro e w' ⟨q, r, hq, rfl, rfl⟩
    have hq' : (q != 0) = true := by simp; omega
    clear f h hq
    go_wp2_with fail
    go_ret2
    exact ⟨ret2 HV.out.symm HE.out.symm, rfl⟩

/-! ### The document's product -/
theorem retib {k : IntKind} {a b : Int} {p q : Bool} (h : a = b) (h' : p = q) : Ending.returned (.tuple #[.int k a, .bool p]) = .returned (.tuple #[.int k b, .bool q]) := by rw [h, h']
theorem rtimes_go (a n : Int) (w : World) (ha : Fits a) (a0 : (a == 0) = false) (n0 : (n == 0) = false) (a1 : (a == -1) = false) (n1 : (n == -1) = false) (h0 : ¬ a = 0) :
    Calls Tryd.prog 15 #[.int .i64 a, .int .i64 n] w fun e w' => e = .returned (.tuple #[.int .i64 (wrap64 (a * n)), .bool (okB (a * n))]) ∧ Below w.heap.size w w' := by
  go_enter Tryd.func15, Tryd.ntmps15
  go_wp2
  go_region
  all_goals go_wp2
  all_goals go_ret2
  exact ⟨retib rfl (okB_mul ha h0 (by simpa using a1)), (Below.refl _ _).drew⟩
theorem rtimes_zero (n : Int) (w : World) : Calls Tryd.prog 15 #[.int .i64 0, .int .i64 n] w fun e w' => e = .returned (.tuple #[.int .i64 0, .bool true]) ∧ Below w.heap.size w w' := by
  go_enter Tryd.func15, Tryd.ntmps15
  go_wp2
  go_ret2
  exact ⟨rfl, Below.refl _ _⟩
theorem rtimes_zero' (a : Int) (w : World) (a0 : (a == 0) = false) : Calls Tryd.prog 15 #[.int .i64 a, .int .i64 0] w fun e w' => e = .returned (.tuple #[.int .i64 0, .bool true]) ∧ Below w.heap.size w w' := by
  go_enter Tryd.func15, Tryd.ntmps15
  go_wp2
  go_ret2
  exact ⟨rfl, Below.refl _ _⟩
theorem rtimes_neg (n : Int) (w : World) (n0 : (n == 0) = false) : Calls Tryd.prog 15 #[.int .i64 (-1), .int .i64 n] w fun e w' => e = .returned (.tuple #[.int .i64 (wrap64 (-n)), .bool (n != -9223372036854775808)]) ∧ Below w.heap.size w w' := by
  go_enter Tryd.func15, Tryd.ntmps15
  go_wp2
  go_ret2
  exact ⟨rfl, Below.refl _ _⟩
theorem rtimes_neg' (a : Int) (w : World) (a0 : (a == 0) = false) (a1 : (a == -1) = false) : Calls Tryd.prog 15 #[.int .i64 a, .int .i64 (-1)] w fun e w' => e = .returned (.tuple #[.int .i64 (wrap64 (-a)), .bool (a != -9223372036854775808)]) ∧ Below w.heap.size w w' := by
  go_enter Tryd.func15, Tryd.ntmps15
  go_wp2
  go_ret2
  exact ⟨rfl, Below.refl _ _⟩
theorem rtimes_any (a n : Int) (w : World) (ha : Fits a) (hn : Fits n) :
    Calls Tryd.prog 15 #[.int .i64 a, .int .i64 n] w fun e w' => e = .returned (.tuple #[.int .i64 (wrap64 (a * n)), .bool (okB (a * n))]) ∧ Below w.heap.size w w' := by
  by_cases a0 : a = 0
  · subst a0
    rw [Int.zero_mul, wrap_zero, okB_zero]
    exact rtimes_zero n w
  · have b0 : (a == 0) = false := by simpa using a0
    by_cases n0 : n = 0
    · subst n0
      rw [Int.mul_zero, wrap_zero, okB_zero]
      exact rtimes_zero' a w b0
    · have c0 : (n == 0) = false := by simpa using n0
      by_cases a1 : a = -1
      · subst a1
        rw [← okB_neg1 hn, show -1 * n = -n from by omega]
        exact rtimes_neg n w c0
      · have b1 : (a == -1) = false := by simpa using a1
        by_cases n1 : n = -1
        · subst n1
          have e := okB_neg1 ha
          rw [Int.mul_comm] at e
          rw [← e, show a * -1 = -a from by omega]
          exact rtimes_neg' a w b0 b1
        · exact rtimes_go a n w ha b0 c0 b1 (by simpa using n1) a0
end Go.Proofs.YtdkkllgmlkdmbaaDoor
