/- Contracts: whether all are digits; a text that is no longer than is looked at; whether digits are sound; the document's own. Conditions: none. -/
import Derived.Test.YtkhkncgndllkjaaDoorHMath
import Derived.Test.YtkhkncgndllkjaaDoorProg
import Derived.Tactics
import Derived.WalkKit
import Derived.Below
import Derived.Lib.Hide
import Derived.Lib.Walk
namespace Go.Proofs.YtkhkncgndllkjaaDoor.Cht
open Go.RowKit

theorem retb {a b : Bool} (h : a = b) : Ending.returned (.bool a) = .returned (.bool b) := by rw [h]
theorem ret1 {k : IntKind} {a b : Int} (h : a = b) : Ending.returned (.int k a) = .returned (.int k b) := by rw [h]
theorem ret2 {k j : IntKind} {a b c d : Int} (h : a = b) (h' : c = d) : Ending.returned (.tuple #[.int k a, .int j c]) = .returned (.tuple #[.int k b, .int j d]) := by rw [h, h']
theorem lsz (s : ByteArray) : s.data.toList.length = s.size := Array.length_toList
theorem at_eq (s : ByteArray) (k : Nat) (h : k < s.size) : s.data.toList.drop k = s[k] :: s.data.toList.drop (k + 1) := by
  rw [drop_cons _ k (by rw [lsz]; exact h)]; rfl

set_option maxHeartbeats 400000 in
theorem all_any (s : ByteArray) (w : World) (hs : s.size ≤ 1000) :
    Calls Tryd.prog 49 #[.string s] w fun e w' => e = .returned (.bool (allD s.data.toList)) ∧ w = w' := by
  go_enter Tryd.func49, Tryd.ntmps49
  go_wp2
  go_loop [6] (fun i => ∃ k : Nat, k ≤ s.size ∧ i = .int .i64 k ∧ Hid (allD (s.data.toList.drop k) = allD s.data.toList)) (fun i => s.size - (intOf i).toNat)
  case atStart => exact ⟨0, Nat.zero_le _, rfl, rfl⟩
  case round =>
    obtain ⟨k, hk, rfl, HR⟩ := hrel
    by_cases hlt : k < s.size
    · have HD := Lib.hid (at_eq s k hlt)
      by_cases hd : 48 ≤ s[k].toNat ∧ s[k].toNat ≤ 57
      · obtain ⟨h1, h2⟩ := hd
        have h1' : ¬ (s[k].toNat : Int) < 48 := by omega
        have h2' : ¬ (57 : Int) < s[k].toNat := by omega
        go_wp2
        go_round
        case rel => exact ⟨k + 1, by omega, by go_num, by
          show _ = _
          rw [← HR.out, HD.out, allD_cons, isD_t.2 ⟨h1, h2⟩, Bool.true_and]⟩
        case measure => simp [intOf]; omega
      · have hf : isD s[k] = false := by
          cases h : isD s[k] with
          | false => rfl
          | true => exact absurd (isD_t.1 h) hd
        have HA : Hid (false = allD s.data.toList) := by
          show _ = _
          rw [← HR.out, HD.out, allD_cons, hf, Bool.false_and]
        clear hf
        by_cases h1 : s[k].toNat < 48
        · have h1' : (s[k].toNat : Int) < 48 := by omega
          go_wp2
          go_ret
          exact ⟨retb HA.out, rfl⟩
        · have h1' : ¬ (s[k].toNat : Int) < 48 := by omega
          have h2' : (57 : Int) < s[k].toNat := by omega
          go_wp2
          go_ret
          exact ⟨retb HA.out, rfl⟩
    · have HA : Hid (true = allD s.data.toList) := by
        show _ = _
        rw [← HR.out, List.drop_of_length_le (by rw [lsz]; omega)]; rfl
      go_wp2
      go_ret
      exact ⟨retb HA.out, rfl⟩

set_option maxHeartbeats 400000 in
theorem rall_any (s : ByteArray) (w : World) (hs : s.size ≤ 1000) :
    Calls Tryd.prog 54 #[.string s] w fun e w' => e = .returned (.bool (allD s.data.toList)) ∧ w = w' := by
  go_enter Tryd.func54, Tryd.ntmps54
  go_wp2
  go_loop [3] (fun i => ∃ k : Nat, k ≤ s.size ∧ i = .int .i64 k ∧ Hid (allD (s.data.toList.drop k) = allD s.data.toList)) (fun i => s.size - (intOf i).toNat)
  case atStart => exact ⟨0, Nat.zero_le _, rfl, rfl⟩
  case round =>
    obtain ⟨k, hk, rfl, HR⟩ := hrel
    by_cases hlt : k < s.size
    · have HD := Lib.hid (at_eq s k hlt)
      by_cases hd : 48 ≤ s[k].toNat ∧ s[k].toNat ≤ 57
      · obtain ⟨h1, h2⟩ := hd
        have h1' : ¬ (s[k].toNat : Int) < 48 := by omega
        have h2' : ¬ (57 : Int) < s[k].toNat := by omega
        go_wp2
        go_round
        case rel => exact ⟨k + 1, by omega, by go_num, by
          show _ = _
          rw [← HR.out, HD.out, allD_cons, isD_t.2 ⟨h1, h2⟩, Bool.true_and]⟩
        case measure => simp [intOf]; omega
      · have hf : isD s[k] = false := by
          cases h : isD s[k] with
          | false => rfl
          | true => exact absurd (isD_t.1 h) hd
        have HA : Hid (false = allD s.data.toList) := by
          show _ = _
          rw [← HR.out, HD.out, allD_cons, hf, Bool.false_and]
        clear hf
        by_cases h1 : s[k].toNat < 48
        · have h1' : (s[k].toNat : Int) < 48 := by omega
          go_wp2
          go_ret
          exact ⟨retb HA.out, rfl⟩
        · have h1' : ¬ (s[k].toNat : Int) < 48 := by omega
          have h2' : (57 : Int) < s[k].toNat := by omega
          go_wp2
          go_ret
          exact ⟨retb HA.out, rfl⟩
    · have HA : Hid (true = allD s.data.toList) := by
        show _ = _
        rw [← HR.out, List.drop_of_length_le (by rw [lsz]; omega)]; rfl
      go_wp2
      go_ret
      exact ⟨retb HA.out, rfl⟩

theorem twice_any (d : Nat) (w : World) (h : d ≤ 9) :
    Calls Tryd.prog 84 #[.int .i64 d] w fun e w' => e = .returned (.int .i64 ((wv true d : Nat) : Int)) ∧ w = w' := by
  by_cases h4 : 4 < d
  · have h4' : (4 : Int) < d := by omega
    go_enter Tryd.func84, Tryd.ntmps84
    go_wp2
    go_ret
    exact ⟨ret1 (by unfold wv; simp [h4]; omega), rfl⟩
  · have h4' : ¬ (4 : Int) < d := by omega
    go_enter Tryd.func84, Tryd.ntmps84
    go_wp2
    go_ret
    exact ⟨ret1 (by unfold wv; simp [h4]), rfl⟩

theorem sz0 {n : Nat} (h : 1 ≤ n) : ((n : Int) == 0) = false := by
  have : (n : Int) ≠ 0 := by omega
  simpa using this
theorem D_at {s : ByteArray} (ha : allD s.data.toList = true) {k : Nat} (h : k < s.size) : 48 ≤ s[k].toNat ∧ s[k].toNat ≤ 57 :=
  allD_mem ha (by
    have : s[k] = s.data.toList[k]'(by rw [lsz]; exact h) := rfl
    rw [this]; exact List.getElem_mem _)

theorem clo23 (s : ByteArray) (p : Addr) (k : Nat) (w : World) (hc : w.cell? p = some (.string s)) (hs : s.size ≤ 1000) (hk : k < s.size) :
    Calls Tryd.prog 68 #[.int .i64 k, .pointer (some p)] w fun e w' => e = .returned (.bool ((s.size - k + 0) % 2 == 0)) ∧ w = w' := by
  go_enter Tryd.func68, Tryd.ntmps68
  go_wp2
  go_ret
  exact ⟨retb (by
    rw [Bool.eq_iff_iff]; simp; omega), rfl⟩
theorem ls_at (s : ByteArray) (k o : Nat) (h : k < s.size) : ls o (s.data.toList.drop k) = wv ((s.size - k + o) % 2 == 0) (s[k].toNat - 48) + ls o (s.data.toList.drop (k + 1)) := by
  rw [at_eq s k h, ls_cons, List.length_drop, lsz]
  rw [show s.size - (k + 1) + 1 + o = s.size - k + o by omega]
theorem twice_at (c : Int) (d : Nat) (w : World) (h : d ≤ 9) (hc : c = d) :
    Calls Tryd.prog 84 #[.int .i64 c] w fun e w' => e = .returned (.int .i64 ((wv true d : Nat) : Int)) ∧ w = w' := by
  subst hc; exact twice_any d w h
theorem wv_f (d : Nat) : wv false d = d := rfl

set_option maxHeartbeats 400000 in
theorem last23 (s : ByteArray) (p : Addr) (w : World) (hc : w.cell? p = some (.string s)) (hs : s.size ≤ 1000) (ha : allD s.data.toList = true) :
    Calls Tryd.prog 67 #[.string s, .func (.func 68) #[] #[.pointer (some p)]] w fun e w' => e = .returned (.int .i64 ((ls 0 s.data.toList % 10 : Nat) : Int)) ∧ w = w' := by
  have HA := Lib.hid ha
  clear ha
  go_enter Tryd.func67, Tryd.ntmps67
  go_wp2
  go_loop [5, 10] (fun v i => ∃ k a : Nat, k ≤ s.size ∧ i = .int .i64 k ∧ v = .int .i64 a ∧ a < 10 ∧ Hid ((a + ls 0 (s.data.toList.drop k)) % 10 = ls 0 s.data.toList % 10)) (fun _ i => s.size - (intOf i).toNat)
  case atStart => exact ⟨0, 0, Nat.zero_le _, rfl, rfl, by decide, by show _ = _; simp⟩
  case round =>
    obtain ⟨k, a, hk, rfl, rfl, hak, HR⟩ := hrel
    by_cases hlt : k < s.size
    · obtain ⟨h1, h2⟩ := D_at HA.out hlt
      have HL := Lib.hid (ls_at s k 0 hlt)
      go_wp2_with fail
      refine (clo23 s p k _ hc hs hlt).mono ?_
      rintro e w' ⟨rfl, rfl⟩
      rcases hb : ((s.size - k + 0) % 2 == 0) with _ | _
      · rw [hb] at HL
        have HB := Lib.hid hb
        clear hb
        have HN : Hid ((((a + (s[k].toNat - 48)) % 10) + ls 0 (s.data.toList.drop (k + 1))) % 10 = ls 0 s.data.toList % 10) := by
          show _ = _
          rw [← HR.out, HL.out, wv_f]; omega
        go_wp2_with fail
        go_round
        case rel => exact ⟨k + 1, (a + (s[k].toNat - 48)) % 10, by omega, by go_num, congrArg (Value.int .i64) (by omega), Nat.mod_lt _ (by decide), HN.out⟩
        case measure => simp [intOf]; omega
      · rw [hb] at HL
        have HB := Lib.hid hb
        clear hb
        have hw := wv_le (b := true) (d := s[k].toNat - 48) (by omega)
        go_wp2_with fail
        refine (twice_at _ (s[k].toNat - 48) _ (by omega) (by omega)).mono ?_
        rintro e w' ⟨rfl, rfl⟩
        generalize wv true (s[k].toNat - 48) = x at *
        have HN : Hid ((((a + x) % 10) + ls 0 (s.data.toList.drop (k + 1))) % 10 = ls 0 s.data.toList % 10) := by
          show _ = _
          rw [← HR.out, HL.out]; omega
        go_wp2_with fail
        go_round
        case rel => exact ⟨k + 1, (a + x) % 10, by omega, by go_num, congrArg (Value.int .i64) (by omega), Nat.mod_lt _ (by decide), HN.out⟩
        case measure => simp [intOf]; omega
    · have HE : Hid (a = ls 0 s.data.toList % 10) := by
        show _ = _
        rw [← HR.out, List.drop_of_length_le (by rw [lsz]; omega)]
        show a = (a + 0) % 10
        omega
      go_wp2
      go_ret
      exact ⟨ret1 (by have := HE.out; omega), rfl⟩

theorem sound_f1 {l : List UInt8} (h : l.length < 2) : soundL l = false := by
  unfold soundL
  have : decide (2 ≤ l.length) = false := decide_eq_false (by omega)
  rw [this]; rfl
theorem sound_f2 {l : List UInt8} (h : allD l = false) : soundL l = false := by
  unfold soundL; rw [h]; simp
theorem sound_t {l : List UInt8} (h : ¬ l.length < 2) (ha : allD l = true) : soundL l = (ls 0 l % 10 == 0) := by
  unfold soundL
  have : decide (2 ≤ l.length) = true := decide_eq_true (by omega)
  rw [this, ha]; rfl
theorem mk_func (fn : Fn) (first cap : Array Value) (w : World) : (Instr.makeFunc fn first cap).run Tryd.prog w = .ok (.func fn first cap) w := rfl
set_option maxHeartbeats 400000 in
theorem sound_any (s : ByteArray) (w : World) (hs : s.size ≤ 1000) :
    Calls Tryd.prog 60 #[.string s] w fun e w' => e = .returned (.bool (soundL s.data.toList)) ∧ Below w.heap.size w w' := by
  have hl := lsz s
  have hmf := mk_func
  by_cases h2 : s.size < 2
  · have HS := Lib.hid (sound_f1 (l := s.data.toList) (by omega))
    clear hl
    go_enter Tryd.func60, Tryd.ntmps60
    go_wp2
    go_ret
    exact ⟨retb HS.out.symm, (Below.refl _ _).alloc (Nat.le_refl _) _⟩
  · rcases ha : allD s.data.toList with _ | _
    · have HS := Lib.hid (sound_f2 ha)
      have HA := Lib.hid ha
      clear hl ha
      go_enter Tryd.func60, Tryd.ntmps60
      go_wp2_with fail
      refine (all_any s _ hs).mono ?_
      rintro e w' ⟨rfl, rfl⟩
      rw [HA.out]
      go_wp2_with fail
      go_ret
      exact ⟨retb HS.out.symm, (Below.refl _ _).alloc (Nat.le_refl _) _⟩
    · have HS := Lib.hid (sound_t (by omega) ha)
      have HA := Lib.hid ha
      clear hl ha
      go_enter Tryd.func60, Tryd.ntmps60
      go_wp2_with fail
      refine (all_any s _ hs).mono ?_
      rintro e w' ⟨rfl, rfl⟩
      rw [HA.out]
      go_wp2_with fail
      refine (last23 s ⟨w.heap.size, 0, none⟩ _ (by simp) hs HA.out).mono ?_
      rintro e w' ⟨rfl, rfl⟩
      go_wp2_with fail
      go_ret
      refine ⟨retb ?_, (Below.refl _ _).alloc (Nat.le_refl _) _⟩
      rw [HS.out, Bool.eq_iff_iff]
      simp
      try omega

theorem wv_big {d : Nat} (h : 9 < 2 * d) : ((wv true d : Nat) : Int) = 2 * d - 9 := by unfold wv; simp; split <;> omega
theorem wv_low {d : Nat} (h : ¬ 9 < 2 * d) : ((wv true d : Nat) : Int) = 2 * d := by unfold wv; simp; split <;> omega
set_option maxHeartbeats 800000 in
theorem rsound_any (s : ByteArray) (w : World) (hs : s.size ≤ 1000) :
    Calls Tryd.prog 58 #[.string s] w fun e w' => e = .returned (.bool (soundL s.data.toList)) ∧ w = w' := by
  have hl := lsz s
  by_cases h2 : s.size < 2
  · have HS := Lib.hid (sound_f1 (l := s.data.toList) (by omega))
    clear hl
    go_enter Tryd.func58, Tryd.ntmps58
    go_wp2
    go_ret
    exact ⟨retb HS.out.symm, rfl⟩
  · rcases ha : allD s.data.toList with _ | _
    · have HS := Lib.hid (sound_f2 ha)
      have HA := Lib.hid ha
      clear hl ha
      go_enter Tryd.func58, Tryd.ntmps58
      go_wp2_with fail
      refine (rall_any s _ hs).mono ?_
      rintro e w' ⟨rfl, rfl⟩
      rw [HA.out]
      go_wp2_with fail
      go_ret
      exact ⟨retb HS.out.symm, rfl⟩
    · have HS := Lib.hid (sound_t (by omega) ha)
      have HA := Lib.hid ha
      have hle := ls_le 0 _ ha
      rw [lsz] at hle
      clear hl ha
      go_enter Tryd.func58, Tryd.ntmps58
      go_wp2_with fail
      refine (rall_any s _ hs).mono ?_
      rintro e w' ⟨rfl, rfl⟩
      rw [HA.out]
      go_wp2_with fail
      go_loop [3, 4] (fun v i => ∃ k a : Nat, k ≤ s.size ∧ i = .int .i64 k ∧ v = .int .i64 a ∧ a ≤ 9000 ∧ Hid (a + ls 0 (s.data.toList.drop k) = ls 0 s.data.toList)) (fun _ i => s.size - (intOf i).toNat)
      case atStart => exact ⟨0, 0, Nat.zero_le _, rfl, rfl, by decide, by show _ = _; simp⟩
      case round =>
        obtain ⟨k, a, hk, rfl, rfl, hak, HR⟩ := hrel
        by_cases hlt : k < s.size
        · obtain ⟨h1, h2'⟩ := D_at HA.out hlt
          have HL := Lib.hid (ls_at s k 0 hlt)
          have hRR := HR.out
          rw [HL.out] at hRR
          rcases hb : ((s.size - k + 0) % 2 == 0) with _ | _
          · rw [hb, wv_f] at hRR
            have hm : (((s.size : Int) - k) % 2 == 0) = false := by
              have : ((s.size : Int) - k) % 2 ≠ 0 := by simp at hb; omega
              simpa using this
            have hle2 : a + (s[k].toNat - 48) ≤ 9000 := by omega
            have HN : Hid ((a + (s[k].toNat - 48)) + ls 0 (s.data.toList.drop (k + 1)) = ls 0 s.data.toList) := by
              show _ = _
              omega
            clear hb hRR
            go_wp2_with fail
            go_round
            case rel => exact ⟨k + 1, a + (s[k].toNat - 48), by omega, by go_num, congrArg (Value.int .i64) (by omega), hle2, HN.out⟩
            case measure => simp [intOf]; omega
          · rw [hb] at hRR
            have hm : (((s.size : Int) - k) % 2 == 0) = true := by
              have : ((s.size : Int) - k) % 2 = 0 := by simp at hb; omega
              simpa using this
            have hle2 : a + wv true (s[k].toNat - 48) ≤ 9000 := by omega
            have HN : Hid ((a + wv true (s[k].toNat - 48)) + ls 0 (s.data.toList.drop (k + 1)) = ls 0 s.data.toList) := by
              show _ = _
              omega
            clear hb hRR
            by_cases h9 : 9 < 2 * (s[k].toNat - 48)
            · have HW := Lib.hid (wv_big h9)
              have h9' : (9 : Int) < 2 * ((s[k].toNat : Int) - 48) := by omega
              go_wp2_with fail
              go_round
              case rel => exact ⟨k + 1, a + wv true (s[k].toNat - 48), by omega, by go_num, congrArg (Value.int .i64) (by have := HW.out; omega), hle2, HN.out⟩
              case measure => simp [intOf]; omega
            · have HW := Lib.hid (wv_low h9)
              have h9' : ¬ (9 : Int) < 2 * ((s[k].toNat : Int) - 48) := by omega
              go_wp2_with fail
              go_round
              case rel => exact ⟨k + 1, a + wv true (s[k].toNat - 48), by omega, by go_num, congrArg (Value.int .i64) (by have := HW.out; omega), hle2, HN.out⟩
              case measure => simp [intOf]; omega
        · have HE : Hid (a = ls 0 s.data.toList) := by
            show _ = _
            rw [← HR.out, List.drop_of_length_le (by rw [lsz]; omega)]
            rfl
          go_wp2
          go_ret
          refine ⟨retb ?_, rfl⟩
          rw [HS.out, ← HE.out, Bool.eq_iff_iff]
          simp
          try omega
end Go.Proofs.YtkhkncgndllkjaaDoor.Cht
