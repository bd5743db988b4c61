/- Contracts: 'same' of two slices with the same amounts; 'few'; signOf; Share. -/
import Derived.Test.YtdkkllgmlkdmbaaDoorW2
namespace Go.Proofs.YtdkkllgmlkdmbaaDoor
open Go.RowKit

set_option maxHeartbeats 400000 in
theorem same_any (A A' : Option Addr) (l : List Int) (c c' B : Nat) (w : World) (hr : Ints w B A l) (hr' : Ints w B A' l) (hB : B ≤ w.heap.size) (hl : l.length ≤ 1000000) :
    Calls Tryd.prog 25 #[.slice A l.length c, .slice A' l.length c'] w fun e w' => e = .returned (.bool true) ∧ Below w.heap.size w w' := by
  go_enter Tryd.func25, Tryd.ntmps25
  go_wp2
  go_loopw [5] (fun i wr => ∃ k : Nat, k ≤ l.length ∧ i = .int .i64 k ∧ Below w.heap.size w wr) (fun i _ => l.length - (intOf i).toNat)
  case atStart => exact ⟨0, Nat.zero_le _, rfl, Below.refl _ _⟩
  case round =>
    obtain ⟨k, hk, rfl, hbel⟩ := hrel
    by_cases hlt : k < l.length
    · obtain ⟨ad, rfl, hb1, hc⟩ := hr k hlt
      obtain ⟨ad', rfl, hb1', hc'⟩ := hr' k hlt
      have hd : wr.cell? (ad.add k) = some (.int .i64 l[k]) := (hbel.cell (by rw [blockAdd]; omega)).trans hc
      have hd' : wr.cell? (ad'.add k) = some (.int .i64 l[k]) := (hbel.cell (by rw [blockAdd]; omega)).trans hc'
      clear hc hc'
      go_wp2
      go_region
      go_wp2
      go_roundw
      case rel => exact ⟨k + 1, by omega, by go_num, hbel.drew⟩
      case measure => simp [intOf]; omega
    · go_wp2
      go_ret
      exact ⟨rfl, hbel⟩

theorem few_short (A : Option Addr) (n c : Nat) (w : World) (h : n ≤ 300) :
    Calls Tryd.prog 18 #[.slice A n c] w fun e w' => e = .returned (.slice A n c) ∧ w = w' := by
  go_enter Tryd.func18, Tryd.ntmps18
  go_wp2
  go_ret
  exact ⟨rfl, rfl⟩
theorem few_long (A : Option Addr) (n c : Nat) (w : World) (h : 300 < n) (hc : n ≤ c) (hm : n ≤ maxLen) :
    Calls Tryd.prog 18 #[.slice A n c] w fun e w' => e = .returned (.slice A 300 c) ∧ w = w' := by
  unfold maxLen at hm
  go_enter Tryd.func18, Tryd.ntmps18
  go_wp2
  go_ret
  exact ⟨rfl, rfl⟩

theorem signOf_any (a : Int) (w : World) : Calls Tryd.prog 34 #[.int .i64 a] w fun e w' => e = .returned (.int .i64 a.sign) ∧ w = w' := by
  go_enter Tryd.func34, Tryd.ntmps34
  go_wp2
  · have h : 0 < a := by assumption
    go_ret
    exact ⟨ret1 (Int.sign_eq_one_of_pos h).symm, rfl⟩
  · have h : a < 0 := by assumption
    go_ret
    exact ⟨ret1 (Int.sign_eq_neg_one_of_neg h).symm, rfl⟩
  · have h : a = 0 := by omega
    go_ret
    exact ⟨ret1 (by rw [h]; rfl), rfl⟩
end Go.Proofs.YtdkkllgmlkdmbaaDoor
