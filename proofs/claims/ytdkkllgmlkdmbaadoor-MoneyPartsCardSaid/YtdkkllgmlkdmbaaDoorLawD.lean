/- The walk of the law MoneyShares. -/
import Derived.Test.YtdkkllgmlkdmbaaDoorLawA
import Derived.Test.YtdkkllgmlkdmbaaDoorMathB
namespace Go.Proofs.YtdkkllgmlkdmbaaDoor
open Go.RowKit

theorem shares_no (a n : Int) (w : World) (h : n < 1 ∨ 1000 < n) :
    Calls Tryd.prog 6 #[.int .i64 a, .int .i64 n] w fun e w' => e = .returned (.bool true) ∧ Below w.heap.size w w' := by
  have HN := Lib.hid (share_no a n w h)
  rcases h with h | h
  · go_enter Tryd.func6, Tryd.ntmps6
    go_wp2_with fail
    refine (HN.out).mono ?_
    rintro e w' ⟨rfl, rfl⟩
    go_wp2_with fail
    refine (awake_any _).mono ?_
    rintro e w5 ⟨rfl, hb5⟩
    go_wp2_with fail
    go_ret
    exact ⟨rfl, hb5⟩
  · have h' : ¬ n < 1 := by omega
    go_enter Tryd.func6, Tryd.ntmps6
    go_wp2_with fail
    refine (HN.out).mono ?_
    rintro e w' ⟨rfl, rfl⟩
    go_wp2_with fail
    refine (awake_any _).mono ?_
    rintro e w5 ⟨rfl, hb5⟩
    go_wp2_with fail
    go_ret
    exact ⟨rfl, hb5⟩

/-- What is shared, as a slice of amounts; what the document's sum says of it. -/
theorem share_ints (a : Int) (n : Nat) (w : World) (ha : Fits a) (h1 : 1 ≤ n) (h2 : n ≤ 1000) :
    Calls Tryd.prog 24 #[.int .i64 a, .int .i64 n] w fun e w' => e = .returned (.tuple #[.slice (some ⟨w.heap.size, 0, none⟩) n n, .int .i64 0]) ∧
      Ints w' w'.heap.size (some ⟨w.heap.size, 0, none⟩) (shares (a.tdiv n) (a.tmod n) n) ∧ Below w.heap.size w w' := by
  refine (share_any a n w ha h1 h2).mono fun e w' ⟨he, hown, hb⟩ => ⟨he, ?_, hb⟩
  have hl := shares_length (a.tdiv n) (a.tmod n) n
  have hown' : w'.ownsRow w.heap.size 2 1 (.slice (some ⟨w.heap.size, 0, none⟩) n n) (shares (a.tdiv n) (a.tmod n) n).length ((shares (a.tdiv n) (a.tmod n) n).map (Value.int .i64)) := by
    rw [hl]; exact hown
  obtain ⟨A, c, e, h⟩ := ints_of_own hown'
  injection e with e1 e2 e3
  subst e1
  exact h
theorem rsum_shares (a : Int) (n : Nat) (A : Option Addr) (c : Nat) (w : World) (ha : Fits a) (h1 : 1 ≤ n) (h2 : n ≤ 1000) (hr : Ints w w.heap.size A (shares (a.tdiv n) (a.tmod n) n)) :
    Calls Tryd.prog 13 #[.slice A n c] w fun e w' => e = .returned (.tuple #[.int .i64 a, .bool true]) ∧ Below w.heap.size w w' := by
  have h := rsum_any A (shares (a.tdiv n) (a.tmod n) n) c w hr (shares_fit ha h1 n) (by rw [shares_length]; omega)
  rw [shares_length, shares_sum a n h1, vOf_t ha, okB_t ha] at h
  exact h

theorem drewN_below {B : Nat} {a w : World} (h : Below B a w) (n : Nat) : Below B a (w.drewN n) := ⟨h.os, h.tape, h.output, h.size, h.block⟩

set_option maxRecDepth 100000 in
set_option maxHeartbeats 1600000 in
theorem shares_up (a : Int) (n : Nat) (w : World) (ha : Fits a) (h1 : 1 ≤ n) (h2 : n ≤ 1000) (h0 : 0 ≤ a) :
    Calls Tryd.prog 6 #[.int .i64 a, .int .i64 n] w fun e w' => e = .returned (.bool true) ∧ Below w.heap.size w w' := by
  have hn1 : decide ((n : Int) < 1) = false := by simp; omega
  have hn2 : decide ((1000 : Int) < n) = false := by simp; omega
  go_enter Tryd.func6, Tryd.ntmps6
  go_wp2_with fail
  refine (share_ints _ _ _ ha h1 h2).mono ?_
  rintro e w1 ⟨rfl, hr, hb1⟩
  go_wp2_with fail
  refine (rsum_shares a n _ _ _ ha h1 h2 hr).mono ?_
  rintro e w2 ⟨rfl, hb2⟩
  go_wp2_with fail
  have hr2 := hr.below hb2
  have hbel := step hb1 hb2
  have HU := Lib.hid (fun i => share_up (n := n) h0 i)
  have HG := Lib.hid (fun i h => shares_get (a.tdiv n) (a.tmod n) n i h)
  have HL := Lib.hid (shares_length (a.tdiv n) (a.tmod n) n)
  have hc : Hid (∀ i, i < n → w2.cell? ⟨w.heap.size, i, none⟩ = some (.int .i64 (shareAt (a.tdiv n) (a.tmod n) i))) := fun i hi => by
    obtain ⟨ad, e, _, c⟩ := hr2 i (by rw [HL.out]; exact hi)
    injection e with e
    subst e
    rw [HG.out] at c
    rw [← c]; unfold Addr.add; split <;> simp_all
  have hlt2 : w.heap.size < w2.heap.size := World.block_lt_of_cell? w2 ⟨w.heap.size, 0, none⟩ (hc.out 0 (by omega))
  clear HL HG hr hr2 hb1 hb2
  go_loopw [9] (fun i wr => ∃ k : Nat, k ≤ n ∧ i = .int .i64 k ∧ Below w2.heap.size w2 wr) (fun i _ => n - (intOf i).toNat)
  case atStart => exact ⟨0, Nat.zero_le _, rfl, Below.refl _ _⟩
  case round =>
    obtain ⟨k, hk, rfl, hb2⟩ := hrel
    by_cases hlt : k < n
    · have hu := HU.out k
      have c0 : wr.cell? ⟨w.heap.size, 0, none⟩ = some (.int .i64 (shareAt (a.tdiv n) (a.tmod n) 0)) := (hb2.cell (by exact hlt2)).trans (hc.out 0 (by omega))
      have ck : wr.cell? ⟨w.heap.size, k, none⟩ = some (.int .i64 (shareAt (a.tdiv n) (a.tmod n) k)) := (hb2.cell (by exact hlt2)).trans (hc.out k hlt)
      by_cases hk0 : 0 < k
      · obtain ⟨j, rfl⟩ : ∃ j, k = j + 1 := ⟨k - 1, by omega⟩
        have cj : wr.cell? ⟨w.heap.size, j, none⟩ = some (.int .i64 (shareAt (a.tdiv n) (a.tmod n) j)) := (hb2.cell (by exact hlt2)).trans (hc.out j (by omega))
        have hv := (HU.out j).2.2.2
        have hw := HU.out j
        generalize shareAt (a.tdiv n) (a.tmod n) 0 = x0 at *
        generalize shareAt (a.tdiv n) (a.tmod n) (j + 1) = xk at *
        generalize shareAt (a.tdiv n) (a.tmod n) j = xj at *
        have q1 : decide (0 ≤ a) = true := by simpa using h0
        have q2 : decide (xk < 0) = false := by simp; omega
        have q3 : decide (1 < x0 - xk) = false := by simp; omega
        have q4 : decide (a < 0) = false := by simp; omega
        have q6 : decide (xj < xk) = false := by simp; omega
        have hki : (j : Int) + 1 < (n : Int) := by omega
        have hkj : (j : Int) < (n : Int) := by omega
        have hn0 : (0 : Int) < (n : Int) := by omega
        have ej : ((j + 1 : Nat) : Int) = (j : Int) + 1 := by omega
        rw [ej]
        clear ej
        go_wp2
        dsimp only [List.append]
        go_big_quiet (fail)
        go_wp2
        go_roundw
        case rel => exact ⟨j + 2, by omega, by go_num, drewN_below hb2 _⟩
        case measure => simp [intOf]; omega
      · generalize shareAt (a.tdiv n) (a.tmod n) 0 = x0 at *
        generalize shareAt (a.tdiv n) (a.tmod n) k = xk at *
        have q1 : decide (0 ≤ a) = true := by simpa using h0
        have q2 : decide (xk < 0) = false := by simp; omega
        have q3 : decide (1 < x0 - xk) = false := by simp; omega
        have q4 : decide (a < 0) = false := by simp; omega
        have q5 : decide (0 < k) = false := by simp; omega
        have hki : (k : Int) < (n : Int) := by omega
        have hn0 : (0 : Int) < (n : Int) := by omega
        go_wp2
        dsimp only [List.append]
        go_big_quiet (fail)
        go_wp2
        go_roundw
        case rel => exact ⟨k + 1, by omega, by go_num, drewN_below hb2 _⟩
        case measure => simp [intOf]; omega
    · go_wp2_with fail
      refine (awake_any _).mono ?_
      rintro e w5 ⟨rfl, hb5⟩
      go_wp2_with fail
      go_ret
      exact ⟨rfl, step (step hbel hb2) hb5⟩
set_option maxRecDepth 100000 in
set_option maxHeartbeats 1600000 in
theorem shares_down (a : Int) (n : Nat) (w : World) (ha : Fits a) (h1 : 1 ≤ n) (h2 : n ≤ 1000) (h0 : a < 0) :
    Calls Tryd.prog 6 #[.int .i64 a, .int .i64 n] w fun e w' => e = .returned (.bool true) ∧ Below w.heap.size w w' := by
  have hn1 : decide ((n : Int) < 1) = false := by simp; omega
  have hn2 : decide ((1000 : Int) < n) = false := by simp; omega
  go_enter Tryd.func6, Tryd.ntmps6
  go_wp2_with fail
  refine (share_ints _ _ _ ha h1 h2).mono ?_
  rintro e w1 ⟨rfl, hr, hb1⟩
  go_wp2_with fail
  refine (rsum_shares a n _ _ _ ha h1 h2 hr).mono ?_
  rintro e w2 ⟨rfl, hb2⟩
  go_wp2_with fail
  have hr2 := hr.below hb2
  have hbel := step hb1 hb2
  have HU := Lib.hid (fun i => share_down (n := n) h0 i)
  have HG := Lib.hid (fun i h => shares_get (a.tdiv n) (a.tmod n) n i h)
  have HL := Lib.hid (shares_length (a.tdiv n) (a.tmod n) n)
  have hc : Hid (∀ i, i < n → w2.cell? ⟨w.heap.size, i, none⟩ = some (.int .i64 (shareAt (a.tdiv n) (a.tmod n) i))) := fun i hi => by
    obtain ⟨ad, e, _, c⟩ := hr2 i (by rw [HL.out]; exact hi)
    injection e with e
    subst e
    rw [HG.out] at c
    rw [← c]; unfold Addr.add; split <;> simp_all
  have hlt2 : w.heap.size < w2.heap.size := World.block_lt_of_cell? w2 ⟨w.heap.size, 0, none⟩ (hc.out 0 (by omega))
  clear HL HG hr hr2 hb1 hb2
  go_loopw [9] (fun i wr => ∃ k : Nat, k ≤ n ∧ i = .int .i64 k ∧ Below w2.heap.size w2 wr) (fun i _ => n - (intOf i).toNat)
  case atStart => exact ⟨0, Nat.zero_le _, rfl, Below.refl _ _⟩
  case round =>
    obtain ⟨k, hk, rfl, hb2⟩ := hrel
    by_cases hlt : k < n
    · have hu := HU.out k
      have c0 : wr.cell? ⟨w.heap.size, 0, none⟩ = some (.int .i64 (shareAt (a.tdiv n) (a.tmod n) 0)) := (hb2.cell (by exact hlt2)).trans (hc.out 0 (by omega))
      have ck : wr.cell? ⟨w.heap.size, k, none⟩ = some (.int .i64 (shareAt (a.tdiv n) (a.tmod n) k)) := (hb2.cell (by exact hlt2)).trans (hc.out k hlt)
      by_cases hk0 : 0 < k
      · obtain ⟨j, rfl⟩ : ∃ j, k = j + 1 := ⟨k - 1, by omega⟩
        have cj : wr.cell? ⟨w.heap.size, j, none⟩ = some (.int .i64 (shareAt (a.tdiv n) (a.tmod n) j)) := (hb2.cell (by exact hlt2)).trans (hc.out j (by omega))
        have hv := (HU.out j).2.2.2
        have hw := HU.out j
        generalize shareAt (a.tdiv n) (a.tmod n) 0 = x0 at *
        generalize shareAt (a.tdiv n) (a.tmod n) (j + 1) = xk at *
        generalize shareAt (a.tdiv n) (a.tmod n) j = xj at *
        have q1 : decide (0 ≤ a) = false := by simp; omega
        have q2 : decide (0 < xk) = false := by simp; omega
        have q3 : decide (1 < xk - x0) = false := by simp; omega
        have q4 : decide (a < 0) = true := by simpa using h0
        have q6 : decide (xk < xj) = false := by simp; omega
        have hki : (j : Int) + 1 < (n : Int) := by omega
        have hkj : (j : Int) < (n : Int) := by omega
        have hn0 : (0 : Int) < (n : Int) := by omega
        have ej : ((j + 1 : Nat) : Int) = (j : Int) + 1 := by omega
        rw [ej]
        clear ej
        go_wp2
        dsimp only [List.append]
        go_big_quiet (fail)
        go_wp2
        go_roundw
        case rel => exact ⟨j + 2, by omega, by go_num, drewN_below hb2 _⟩
        case measure => simp [intOf]; omega
      · generalize shareAt (a.tdiv n) (a.tmod n) 0 = x0 at *
        generalize shareAt (a.tdiv n) (a.tmod n) k = xk at *
        have q1 : decide (0 ≤ a) = false := by simp; omega
        have q2 : decide (0 < xk) = false := by simp; omega
        have q3 : decide (1 < xk - x0) = false := by simp; omega
        have q4 : decide (a < 0) = true := by simpa using h0
        have q5 : decide (0 < k) = false := by simp; omega
        have hki : (k : Int) < (n : Int) := by omega
        have hn0 : (0 : Int) < (n : Int) := by omega
        go_wp2
        dsimp only [List.append]
        go_big_quiet (fail)
        go_wp2
        go_roundw
        case rel => exact ⟨k + 1, by omega, by go_num, drewN_below hb2 _⟩
        case measure => simp [intOf]; omega
    · go_wp2_with fail
      refine (awake_any _).mono ?_
      rintro e w5 ⟨rfl, hb5⟩
      go_wp2_with fail
      go_ret
      exact ⟨rfl, step (step hbel hb2) hb5⟩
theorem shares_walk (a n : Int) (w : World) (ha : Fits a) (_hn : Fits n) :
    Calls Tryd.prog 6 #[.int .i64 a, .int .i64 n] w fun e w' => e = .returned (.bool true) ∧ Below w.heap.size w w' := by
  by_cases h : n < 1 ∨ 1000 < n
  · exact shares_no a n w h
  · obtain ⟨k, rfl⟩ : ∃ k : Nat, n = k := ⟨n.toNat, by omega⟩
    rcases Int.lt_or_le a 0 with h0 | h0
    · exact shares_down a k w ha (by omega) (by omega) h0
    · exact shares_up a k w ha (by omega) (by omega) h0
end Go.Proofs.YtdkkllgmlkdmbaaDoor
