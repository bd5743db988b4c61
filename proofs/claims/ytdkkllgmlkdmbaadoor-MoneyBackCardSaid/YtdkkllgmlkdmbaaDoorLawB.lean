/- The walk of the law MoneyOrder. -/
import Derived.Test.YtdkkllgmlkdmbaaDoorLawA
namespace Go.Proofs.YtdkkllgmlkdmbaaDoor
open Go.RowKit

theorem add_yes (a b : Int) (w : World) (ha : Fits a) (hb : Fits b) (h : Fits (a + b)) :
    Calls Tryd.prog 10 #[.int .i64 a, .int .i64 b] w fun e w' => e = .returned (.tuple #[.int .i64 (a + b), .int .i64 0]) ∧ w = w' :=
  (add_any a b w ha hb).mono fun e w' ⟨he, hw⟩ => ⟨by rw [he, vOf_t h, eOf_t h], hw⟩
theorem add_not (a b : Int) (w : World) (ha : Fits a) (hb : Fits b) (h : ¬ Fits (a + b)) :
    Calls Tryd.prog 10 #[.int .i64 a, .int .i64 b] w fun e w' => e = .returned (.tuple #[.int .i64 0, .int .i64 2]) ∧ w = w' :=
  (add_any a b w ha hb).mono fun e w' ⟨he, hw⟩ => ⟨by rw [he, vOf_f h, eOf_f h], hw⟩

theorem rep_sum (k : Nat) (a : Int) : (List.replicate k a).sum = a * k := by
  induction k with
  | zero => simp
  | succ k ih => rw [List.replicate_succ, List.sum_cons, ih, Int.natCast_succ, Int.mul_add]; omega
theorem sum_rep (A : Option Addr) (k : Nat) (a : Int) (c : Nat) (w : World) (hr : Ints w w.heap.size A (List.replicate k a)) (ha : Fits a) (hk : k ≤ 40) :
    Calls Tryd.prog 19 #[.slice A k c] w fun e w' => e = .returned (.tuple #[.int .i64 (vOf (a * k)), .int .i64 (eOf (a * k))]) ∧ w = w' := by
  have h := sum_any A (List.replicate k a) c w.heap.size w hr (fun x hx => by rw [(List.mem_replicate.1 hx).2]; exact ha) (by simp; omega)
  rw [List.length_replicate, rep_sum] at h
  exact h

set_option maxRecDepth 100000 in
set_option maxHeartbeats 1600000 in
theorem order_walk (a b c : Int) (w : World) (ha : Fits a) (hb : Fits b) (hc : Fits c) :
    Calls Tryd.prog 8 #[.int .i64 a, .int .i64 b, .int .i64 c] w fun e w' => e = .returned (.bool true) ∧ Below w.heap.size w w' := by
  obtain ⟨i0, hi, hz0, hz1, hz2⟩ := info_parts info2
  have hm : -39 ≤ c.tmod 40 ∧ c.tmod 40 ≤ 39 := by
    have h : (c.tmod ((40 : Nat) : Int)).natAbs < 40 := tmod_lt (by decide)
    have e : ((40 : Nat) : Int) = 40 := rfl
    rw [e] at h; omega
  go_enter Tryd.func8, Tryd.ntmps8
  go_wp2_with fail
  by_cases f1 : Fits (a + c)
  case' neg =>
    refine (add_not _ _ _ ha hc f1).mono ?_
    rintro e w' ⟨rfl, rfl⟩
    go_wp2_with fail
    refine (add_any _ _ _ hb hc).mono ?_
    rintro e w' ⟨rfl, rfl⟩
    go_wp2_with fail
  case' pos =>
    refine (add_yes _ _ _ ha hc f1).mono ?_
    rintro e w' ⟨rfl, rfl⟩
    go_wp2_with fail
    by_cases f2 : Fits (b + c)
    case' neg =>
      refine (add_not _ _ _ hb hc f2).mono ?_
      rintro e w' ⟨rfl, rfl⟩
      go_wp2_with fail
    case' pos =>
      refine (add_yes _ _ _ hb hc f2).mono ?_
      rintro e w' ⟨rfl, rfl⟩
      by_cases h1 : a < b
      case' pos =>
        have h2 : a + c < b + c := by omega
        go_wp2_with fail
      case' neg =>
        have h2 : ¬ a + c < b + c := by omega
        go_wp2_with fail
  all_goals
    generalize c.tmod 40 = m at *
    by_cases hneg : m < 0
    · go_loopw [11, 13] (fun v i wr => v = .slice none 0 0 ∧ i = .int .i64 0 ∧ Below w.heap.size w wr) (fun _ _ _ => 0)
      case atStart => exact ⟨rfl, rfl, Below.refl _ _⟩
      case round =>
        obtain ⟨rfl, rfl, hbel⟩ := hrel
        go_wp2_with fail
        refine (awake_any _).mono ?_
        rintro e w5 ⟨rfl, hb5⟩
        go_wp2_with fail
        go_ret
        exact ⟨rfl, step hbel hb5⟩
    · obtain ⟨k, rfl⟩ := Int.eq_ofNat_of_zero_le (Int.not_lt.1 hneg)
      go_loopw [11, 13] (fun v i wr => ∃ j : Nat, j ≤ k ∧ i = .int .i64 j ∧ wr.ownsRow w.heap.size 2 1 v (List.replicate j a).length ((List.replicate j a).map (Value.int .i64)) ∧ Below w.heap.size w wr) (fun _ i _ => k - (intOf i).toNat)
      case atStart => exact ⟨0, Nat.zero_le _, rfl, World.ownsRow_nil _ _ _ _, Below.refl _ _⟩
      case round =>
        obtain ⟨j, hj, rfl, hu, hbel⟩ := hrel
        have hsz := hbel.size
        by_cases hlt : j < k
        · go_wp2_with (at_builtin; refine wpList_append_own_at _ rfl (.tmp 52) (.tmp 54) 28 rfl w.heap.size 2 i0 (.int .i64 0) 1 8 Tryd.underlying28 hi hz0 hz1 hz2 rfl (by decide) _ _ _ rfl (hu.alloc _) ⟨wr.heap.size, 0, none⟩ 1 1 [.int .i64 a] rfl rfl (cell_one_new _ _ _) (one_int _) ?_ ?_ ?_ ?_)
          · unfold maxLen; first | omega | (simp; omega)
          · first | omega | (simp; omega)
          · first | omega | (simp; omega)
          intro v' w1 hu1 hg1 _ hat
          have hu2 : w1.ownsRow w.heap.size 2 1 v' (List.replicate (j + 1) a).length ((List.replicate (j + 1) a).map (Value.int .i64)) := by
            rw [List.replicate_succ']; simpa using hu1
          have hbel2 : Below w.heap.size w w1 := (hbel.alloc hsz _).grown hg1 (by simp; omega) (fun j hj => (hu.lt j hj).1)
          clear hu1 hg1 hat hu
          go_wp2
          go_roundw
          case rel => exact ⟨j + 1, by omega, by go_num, hu2, hbel2⟩
          case measure => simp [intOf]; omega
        · obtain rfl : j = k := by omega
          obtain ⟨A, cp, rfl, hr⟩ := ints_of_own hu
          have hk40 : j ≤ 40 := by omega
          have hfk : Fits (j : Int) := by unfold Fits; omega
          clear hu
          go_wp2_with fail
          refine (times_any _ _ _ ha hfk).mono ?_
          rintro e w' ⟨rfl, rfl⟩
          go_wp2_with fail
          refine (sum_rep _ _ _ _ _ hr ha hk40).mono ?_
          rintro e w' ⟨rfl, rfl⟩
          go_wp2_with fail
          refine (awake_any _).mono ?_
          rintro e w5 ⟨rfl, hb5⟩
          go_wp2_with fail
          go_ret
          exact ⟨rfl, step hbel hb5⟩
end Go.Proofs.YtdkkllgmlkdmbaaDoor
