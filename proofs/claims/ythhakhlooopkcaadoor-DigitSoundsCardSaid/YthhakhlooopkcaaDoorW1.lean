/- Contracts: whether all are digits; a text that is no longer than is looked at; what a doubled digit counts. -/
import Derived.Test.YthhakhlooopkcaaDoorMath
import Derived.Test.YthhakhlooopkcaaDoorProg
import Derived.Shelf.Strconv.Itoa0
import Derived.Tactics
import Derived.WalkKit
import Derived.Below
import Derived.Lib.Hide
import Derived.Lib.Walk
namespace Go.Proofs.YthhakhlooopkcaaDoor
open Go.RowKit

theorem retb {a b : Bool} (h : a = b) : Ending.returned (.bool a) = .returned (.bool b) := by rw [h]
theorem ret1 {k : IntKind} {a b : Int} (h : a = b) : Ending.returned (.int k a) = .returned (.int k b) := by rw [h]
theorem ret2 {k j : IntKind} {a b c d : Int} (h : a = b) (h' : c = d) : Ending.returned (.tuple #[.int k a, .int j c]) = .returned (.tuple #[.int k b, .int j d]) := by rw [h, h']
theorem lsz (s : ByteArray) : s.data.toList.length = s.size := Array.length_toList
theorem at_eq (s : ByteArray) (k : Nat) (h : k < s.size) : s.data.toList.drop k = s[k] :: s.data.toList.drop (k + 1) := by
  rw [drop_cons _ k (by rw [lsz]; exact h)]; rfl

set_option maxHeartbeats 400000 in
theorem all_any (s : ByteArray) (w : World) (hs : s.size ≤ 1000) :
    Calls Tryd.prog 14 #[.string s] w fun e w' => e = .returned (.bool (allD s.data.toList)) ∧ w = w' := by
  go_enter Tryd.func14, Tryd.ntmps14
  go_wp2
  go_loop [6] (fun i => ∃ k : Nat, k ≤ s.size ∧ i = .int .i64 k ∧ Hid (allD (s.data.toList.drop k) = allD s.data.toList)) (fun i => s.size - (intOf i).toNat)
  case atStart => exact ⟨0, Nat.zero_le _, rfl, rfl⟩
  case round =>
    obtain ⟨k, hk, rfl, HR⟩ := hrel
    by_cases hlt : k < s.size
    · have HD := Lib.hid (at_eq s k hlt)
      by_cases hd : 48 ≤ s[k].toNat ∧ s[k].toNat ≤ 57
      · obtain ⟨h1, h2⟩ := hd
        have h1' : ¬ (s[k].toNat : Int) < 48 := by omega
        have h2' : ¬ (57 : Int) < s[k].toNat := by omega
        go_wp2
        go_round
        case rel => exact ⟨k + 1, by omega, by go_num, by
          show _ = _
          rw [← HR.out, HD.out, allD_cons, isD_t.2 ⟨h1, h2⟩, Bool.true_and]⟩
        case measure => simp [intOf]; omega
      · have hf : isD s[k] = false := by
          cases h : isD s[k] with
          | false => rfl
          | true => exact absurd (isD_t.1 h) hd
        have HA : Hid (false = allD s.data.toList) := by
          show _ = _
          rw [← HR.out, HD.out, allD_cons, hf, Bool.false_and]
        clear hf
        by_cases h1 : s[k].toNat < 48
        · have h1' : (s[k].toNat : Int) < 48 := by omega
          go_wp2
          go_ret
          exact ⟨retb HA.out, rfl⟩
        · have h1' : ¬ (s[k].toNat : Int) < 48 := by omega
          have h2' : (57 : Int) < s[k].toNat := by omega
          go_wp2
          go_ret
          exact ⟨retb HA.out, rfl⟩
    · have HA : Hid (true = allD s.data.toList) := by
        show _ = _
        rw [← HR.out, List.drop_of_length_le (by rw [lsz]; omega)]; rfl
      go_wp2
      go_ret
      exact ⟨retb HA.out, rfl⟩
end Go.Proofs.YthhakhlooopkcaaDoor
