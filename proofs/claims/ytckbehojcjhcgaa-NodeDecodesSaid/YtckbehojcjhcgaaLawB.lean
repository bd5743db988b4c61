/- The walk of NodeDecodes. -/
import Derived.Test.YtckbehojcjhcgaaN18
import Derived.Test.YtckbehojcjhcgaaN14
namespace Go.Proofs.Ytckbehojcjhcgaa.Nod
open Go.RowKit Crc Chk Frm Fra

set_option maxHeartbeats 3200000 in
theorem decodes_any (A : Option Addr) (l : T) (n c : Nat) (w : World) (h : Octs w w.heap.size A l) (hl : l.length = n) (hc : n ≤ c) (hm : n ≤ 9223372036854775807) :
    Calls Try.prog 4 #[.slice A n c] w fun e w' => e = .returned (.bool true) ∧ Below w.heap.size w w' := by
  have HA := Lib.hid (fun W => awake_any W)
  obtain ⟨m, hm'⟩ : ∃ m, m = l.take 520 := ⟨_, rfl⟩
  obtain ⟨k, hk⟩ : ∃ k, k = m.length := ⟨_, rfl⟩
  have hkn : k = min 520 n := by rw [hk, hm', List.length_take, hl]
  have HM : Hid (Octs w w.heap.size A m) := by
    rw [hm']
    intro i hi
    have hi' : i < l.length := by simp at hi; omega
    have := h i hi'
    simpa using this
  have HK := Lib.hid hk
  have hk6 : k ≤ 520 := by omega
  have hkc : k ≤ c := by omega
  have HKN := Lib.hid hkn
  clear h hm' hk hl hkn
  go_enter Try.func4, Try.ntmps4
  go_upto_if 9 with fail
  go_cut [0] (fun s0 wx => s0 = .slice A k c ∧ w = wx)
  case first =>
    by_cases hlt : 520 < n
    · have HE : Hid (k = 520) := by show _ = _; rw [HKN.out]; omega
      go_wp2_with fail
      go_meet
      exact ⟨by rw [HE.out], rfl⟩
    · have HE : Hid (k = n) := by show _ = _; rw [HKN.out]; omega
      go_wp2_with fail
      go_meet
      exact ⟨by rw [HE.out], rfl⟩
  case rest =>
  obtain ⟨rfl, rfl⟩ := hcut
  clear HKN
  have HD := Lib.hid (dec_any A m k c w.heap.size w HM.out (Nat.le_refl _) HK.out.symm hkc)
  go_wp2_with fail
  refine HD.out.mono ?_
  rintro e w2 ⟨A1, n1, c1, A2, n2, c2, A3, n3, c3, rfl, hn2, hb2⟩
  obtain ⟨W3, hW3⟩ : ∃ W3, W3 = w2.alloc (.cells #[.slice A1 n1 c1, .slice A2 n2 c2, .slice A3 n3 c3] 26) := ⟨_, rfl⟩
  have hb3 : Below w2.heap.size w2 W3 := by rw [hW3]; exact (Below.refl _ _).alloc (Nat.le_refl _) _
  have hz3 : w2.heap.size < W3.heap.size := by rw [hW3, alloc_size]; omega
  have HY3 : Hid (BoxN w2.heap.size A1 n1 c1 A2 n2 c2 A3 n3 c3 W3) := by rw [hW3]; exact boxN_new w2 ..
  have HB3 := Lib.hid (step' hb2 hb3 hb2.size)
  have HN3 := Lib.hid ((hn2.below hb3 (Nat.le_refl _)).more (Nat.le_of_lt hz3))
  have HCV : Hid ((convert 29 9 (.slice A k c)).run Try.prog W3 = .ok (.string (text m)) W3) := by
    show _ = _
    have := octs_text (c := c) (HM.out.below HB3.out (Nat.le_refl _))
    rw [← HK.out] at this
    exact this
  have HR := Lib.hid (rdec_any m W3 (by rw [← HK.out]; omega))
  rw [decD_eq] at HR
  obtain ⟨R, hR⟩ : ∃ R, R = decN m := ⟨_, rfl⟩
  rw [← hR] at HR HN3 ⊢
  obtain ⟨tm, htm⟩ : ∃ u, u = text m := ⟨_, rfl⟩
  rw [← htm] at HR HCV
  have HW3 := Lib.hid hW3
  have hw2 : w.heap.size ≤ w2.heap.size := hb2.size
  clear hR htm hb3 hn2 hb2 hW3 HM HK HD
  have hcv := HCV.out
  go_upto_region 4 with fail
  rw [← HW3.out]
  go_wp2_with fail
  refine HR.out.mono ?_
  rintro e w4 ⟨E1, p1, q1, E2, p2, q2, E3, p3, q3, rfl, hn4, hb4⟩
  obtain ⟨W5, hW5⟩ : ∃ W5, W5 = w4.alloc (.cells #[.slice E1 p1 q1, .slice E2 p2 q2, .slice E3 p3 q3] 26) := ⟨_, rfl⟩
  have hb5 : Below w4.heap.size w4 W5 := by rw [hW5]; exact (Below.refl _ _).alloc (Nat.le_refl _) _
  have hz5 : w4.heap.size < W5.heap.size := by rw [hW5, alloc_size]; omega
  have HX5 : Hid (BoxN w4.heap.size E1 p1 q1 E2 p2 q2 E3 p3 q3 W5) := by rw [hW5]; exact boxN_new w4 ..
  have hb35 : Below W3.heap.size W3 W5 := step' hb4 hb5 hb4.size
  have HY5 := Lib.hid (HY3.out.below hb35 hz3)
  have HB5 := Lib.hid (step' HB3.out hb35 HB3.out.size)
  have HN5 := Lib.hid ((HN3.out.below hb35 (Nat.le_refl _)).more hb35.size)
  have HO5 := Lib.hid ((hn4.below hb5 (Nat.le_refl _)).more (Nat.le_of_lt hz5))
  have hz35 := hb35.size
  have HS := Lib.hid (same_any R.1 R.1 A1 n1 c1 A2 n2 c2 A3 n3 c3 E1 p1 q1 E2 p2 q2 E3 p3 q3 W5 HN5.out HO5.out)
  rw [decide_eq_true rfl] at HS
  obtain ⟨r2, hr2⟩ : ∃ r, r = R.2 := ⟨_, rfl⟩
  rw [← hr2]
  have hrr : (r2 == r2) = true := by simp
  have HW5 := Lib.hid hW5
  clear hr2 hW5 hb4 hb5 hb35 hn4 hcv HR HCV
  obtain ⟨k0, k1, k2, k4⟩ := HY5.out.cells
  obtain ⟨j0, j1, j2, j4⟩ := HX5.out.cells
  go_upto_region 5 with fail
  rw [← HW5.out]
  have hzz : w2.heap.size < W5.heap.size := by omega
  go_wp2_with fail
  refine HS.out.mono ?_
  rintro e w6 ⟨rfl, hb6⟩
  have HB6 := Lib.hid (step' HB5.out hb6 HB5.out.size)
  clear hb6 k0 k1 k2 k4 j0 j1 j2 j4
  go_wp2_with fail
  refine (HA.out _).mono ?_
  rintro e w7 ⟨rfl, hb7⟩
  have HB7 := Lib.hid (step' HB6.out hb7 HB6.out.size)
  clear hb7
  go_wp2_with fail
  go_ret
  exact ⟨rfl, HB7.out⟩
theorem decodes_walk (A : Option Addr) (l : T) (c : Nat) (w : World) (h : Octs w w.heap.size A l) (hc : l.length ≤ c) (hm : l.length ≤ 9223372036854775807) :
    Calls Try.prog 4 #[.slice A l.length c] w fun e w' => e = .returned (.bool true) ∧ Below w.heap.size w w' := decodes_any A l l.length c w h rfl hc hm
end Go.Proofs.Ytckbehojcjhcgaa.Nod
