/- Contract: Share. -/
import Derived.Test.YtdkkllgmlkdmbaaDoorW3
namespace Go.Proofs.YtdkkllgmlkdmbaaDoor
open Go.RowKit
theorem info2 : (Tryd.prog.info? 2).map (fun i => (i.zero, i.size, i.bytes)) = some (some (.int .i64 0), 1, 8) := by kernel_rfl

theorem share_no (a n : Int) (w : World) (h : n < 1 ∨ 1000 < n) :
    Calls Tryd.prog 24 #[.int .i64 a, .int .i64 n] w fun e w' => e = .returned (.tuple #[.slice none 0 0, .int .i64 1]) ∧ w = w' := by
  rcases h with h | h
  · go_enter Tryd.func24, Tryd.ntmps24
    go_wp2
    go_ret2
    exact ⟨rfl, rfl⟩
  · have h' : ¬ n < 1 := by omega
    go_enter Tryd.func24, Tryd.ntmps24
    go_wp2
    go_ret2
    exact ⟨rfl, rfl⟩

set_option maxHeartbeats 400000 in
theorem share_any (a : Int) (n : Nat) (w : World) (ha : Fits a) (h1 : 1 ≤ n) (h2 : n ≤ 1000) :
    Calls Tryd.prog 24 #[.int .i64 a, .int .i64 n] w fun e w' => e = .returned (.tuple #[.slice (some ⟨w.heap.size, 0, none⟩) n n, .int .i64 0]) ∧
      w'.ownsRow w.heap.size 2 1 (.slice (some ⟨w.heap.size, 0, none⟩) n n) n ((shares (a.tdiv n) (a.tmod n) n).map (Value.int .i64)) ∧ Below w.heap.size w w' := by
  obtain ⟨i0, hi, hz0, hz1, hz2⟩ := info_parts info2
  have hn0 : ¬ (n : Int) = 0 := by omega
  have hn1 : decide ((n : Int) < 1) = false := by simp; omega
  have hn2 : decide ((1000 : Int) < n) = false := by simp; omega
  go_enter Tryd.func24, Tryd.ntmps24
  go_wp2
  go_region
  go_wp2_with (at_make; refine wpList_make_full _ rfl _ _ 28 rfl w.heap.size 2 i0 (.int .i64 0) 1 Tryd.underlying28 hi hz0 hz1 _ _ _ _ n rfl rfl rfl rfl ?b2 ?b3 ?b4 ?_)
  case b2 => rw [hz2]; omega
  case b3 => unfold maxLen; omega
  case b4 => exact Nat.le_refl _
  intro w1 hown1 hgrow1
  have hbel1 : Below w.heap.size w w1 := ((Below.refl _ _).drew).grown hgrow1 (Nat.le_refl _) (fun k h => by cases h)
  have HM : Hid ((madeCells #[Value.int .i64 0] n).toList = mixed (a.tdiv n) (a.tmod n) n 0) := by
    show _ = _
    rw [mixed_zero]; exact toList_madeCells_one _ _
  rw [HM.out] at hown1
  have hm := tmod_lt (a := a) h1
  have hq : Fits (a.tdiv n) := fits_tdiv ha (by omega) (by omega)
  have hs := fun i => fits_share ha h1 i
  generalize hqq : a.tdiv n = q at *
  generalize hrr : a.tmod n = r at *
  have HQ := Lib.hid hqq
  have HRR := Lib.hid hrr
  clear HM hqq hrr
  have hq' : -9223372036854775808 ≤ q ∧ q ≤ 9223372036854775807 := hq
  go_wp2
  go_loopw [7, 26] (fun t i wr => ∃ k : Nat, k ≤ n ∧ i = .int .i64 k ∧ t = .int .i64 (restAt r k) ∧
      wr.ownsRow w.heap.size 2 1 (.slice (some ⟨w.heap.size, 0, none⟩) n n) n (mixed q r n k) ∧ Below w.heap.size w wr) (fun _ i _ => n - (intOf i).toNat)
  case atStart => exact ⟨0, Nat.zero_le _, rfl, by rw [restAt_zero], hown1, hbel1⟩
  case round =>
    obtain ⟨k, hk, rfl, rfl, hown, hbel⟩ := hrel
    by_cases hlt : k < n
    · have HS := Lib.hid (restAt_sign r k)
      have HR := Lib.hid (restAt_step r k)
      have HU : Hid (shareAt q r k = q + unitAt r k) := rfl
      have hu := unitAt_le r k
      have hrb := restAt_le r k
      have hsk := hs k
      rw [HU.out] at hsk
      have hsk' : -9223372036854775808 ≤ q + unitAt r k ∧ q + unitAt r k ≤ 9223372036854775807 := hsk
      have hfr := hown.frozenAt k
      have hce : ∃ v, wr.cell? ⟨w.heap.size, k, none⟩ = some v := by
        rw [hown.cellAt k (by omega)]
        exact ⟨_, List.getElem?_eq_getElem (by simp [mixed]; exact hlt)⟩
      obtain ⟨v0, hce⟩ := hce
      clear hs hsk
      go_wp2_with fail
      refine (signOf_any _ _).mono ?_
      rintro e w' ⟨rfl, rfl⟩
      rw [HS.out]
      go_wp2_with fail
      have hst := hown.stored k (.int .i64 (wrap64 (wrap64 q + unitAt r k)))
      rw [mixed_step q r n k _ (by rw [wrap_t hq, wrap_t hsk', HU.out])] at hst
      go_roundw
      case rel => exact ⟨k + 1, by omega, by go_num, int_eq HR.out, hst.1, hbel.setCell (Nat.le_refl _) _⟩
      case measure => simp [intOf]; omega
    · obtain rfl : k = n := by omega
      rw [mixed_all] at hown
      go_wp2
      go_ret2
      rw [HQ.out, HRR.out]
      exact ⟨rfl, hown, hbel⟩
end Go.Proofs.YtdkkllgmlkdmbaaDoor
