/- The walk of the law DigitSounds. -/
import Derived.Test.YthhakhlooopkcaaDoorLawA
namespace Go.Proofs.YthhakhlooopkcaaDoor
open Go.RowKit

theorem sound_snoc_any (s : ByteArray) (c : UInt8) (w : World) (hs : s.size ≤ 200) :
    Calls Tryd.prog 18 #[.string ⟨(s.data.toList ++ [c]).toArray⟩] w fun e w' => e = .returned (.bool (soundL (s.data.toList ++ [c]))) ∧ Below w.heap.size w w' :=
  sound_any ⟨(s.data.toList ++ [c]).toArray⟩ w (by
    have := lsz s
    show (s.data.toList ++ [c]).toArray.size ≤ 1000
    simp; omega)
theorem eq_snoc (l : List UInt8) (c : UInt8) : (l ++ [c] == signL l) = (c == lastL l) := by
  show ((l ++ [c]) == (l ++ [lastL l])) = _
  rw [Bool.eq_iff_iff]; simp
set_option maxHeartbeats 1600000 in
theorem sounds_walk (s : ByteArray) (w : World) (hm : s.size ≤ 9223372036854775807) :
    Calls Tryd.prog 5 #[.string s] w fun e w' => e = .returned (.bool true) ∧ Below w.heap.size w w' := by
  obtain ⟨t, ht, hfew⟩ := few_any s w hm
  have HF := Lib.hid hfew
  clear hfew
  rcases hok : okL t.data.toList with _ | _
  · have HK := Lib.hid hok
    clear hok
    go_enter Tryd.func5, Tryd.ntmps5
    go_wp2_with fail
    refine HF.out.mono ?_
    rintro e w' ⟨rfl, rfl⟩
    go_wp2_with fail
    refine (sign_no t _ ht HK.out).mono ?_
    rintro e w1 ⟨rfl, hb1⟩
    go_wp2_with fail
    refine (rsign_no t _ ht HK.out).mono ?_
    rintro e w2 ⟨rfl, hb2⟩
    go_wp2_with fail
    refine (sound_any t _ (by omega)).mono ?_
    rintro e w3 ⟨rfl, hb3⟩
    go_wp2_with fail
    refine (rsound_any t _ (by omega)).mono ?_
    rintro e w' ⟨rfl, rfl⟩
    go_wp2_with fail
    refine (awake_any _).mono ?_
    rintro e w4 ⟨rfl, hb4⟩
    go_wp2_with fail
    go_ret
    exact ⟨rfl, step (step (step hb1 hb2) hb3) hb4⟩
  · have HK := Lib.hid hok
    clear hok
    go_enter Tryd.func5, Tryd.ntmps5
    go_wp2_with fail
    refine HF.out.mono ?_
    rintro e w' ⟨rfl, rfl⟩
    go_wp2_with fail
    refine (sign_yes t _ ht HK.out).mono ?_
    rintro e w1 ⟨rfl, hb1⟩
    go_wp2_with fail
    refine (rsign_yes t _ ht HK.out).mono ?_
    rintro e w2 ⟨rfl, hb2⟩
    go_wp2_with fail
    refine (sound_any t _ (by omega)).mono ?_
    rintro e w3 ⟨rfl, hb3⟩
    go_wp2_with fail
    refine (rsound_any t _ (by omega)).mono ?_
    rintro e w' ⟨rfl, rfl⟩
    go_wp2_with fail
    have hb0 := step (step hb1 hb2) hb3
    go_loopw [7] (fun i wr => ∃ k : Nat, 48 ≤ k ∧ k ≤ 58 ∧ i = .int .u8 k ∧ Below w.heap.size w wr) (fun i _ => 58 - (intOf i).toNat)
    case atStart => exact ⟨48, by omega, by omega, rfl, hb0⟩
    case round =>
      obtain ⟨k, hk1, hk2, rfl, hbel⟩ := hrel
      by_cases hlt : k ≤ 57
      · obtain ⟨c, hc⟩ : ∃ c : UInt8, c.toNat = k := ⟨UInt8.ofNat k, by rw [UInt8.toNat_ofNat']; omega⟩
        subst hc
        have hcv := conv_one c wr 5
        have hcat := cat_str t c
        have hlen : (⟨[c].toArray⟩ : ByteArray).size = 1 := rfl
        have HS := Lib.hid (sound_snoc HK.out (isD_t.2 ⟨hk1, hlt⟩))
        have heq := eq_snoc t.data.toList c
        have h57 : (c.toNat : Int) ≤ 57 := by omega
        go_wp2_with fail
        refine (sound_snoc_any t c _ ht).mono ?_
        rintro e w5 ⟨rfl, hb5⟩
        rw [HS.out]
        rcases hcl : (c == lastL t.data.toList) with _ | _
        all_goals
         rw [hcl] at heq
         clear hcl
         go_wp2_with fail
         go_roundw
         case rel => exact ⟨c.toNat + 1, by omega, by omega, by go_num, step (step hbel (below_new _ _)) hb5⟩
         case measure => simp [intOf]; omega
      · have h57 : ¬ (k : Int) ≤ 57 := by omega
        go_wp2_with fail
        refine (awake_any _).mono ?_
        rintro e w4 ⟨rfl, hb4⟩
        go_wp2_with fail
        go_ret
        exact ⟨rfl, step hbel hb4⟩
end Go.Proofs.YthhakhlooopkcaaDoor
