/- The walk of SuperPlans. -/
import Derived.Test.YtlieijbjbjnaiaaS9
import Derived.Test.YtlieijbjbjnaiaaFAnyB
import Derived.Deep.DeepCutAuto
namespace Go.Proofs.Ytlieijbjbjnaiaa.Sup
open Go.RowKit Crc Chk Frm Fra

set_option maxHeartbeats 3200000 in
theorem plans_no (l p k pg : Int) (w : World) (hf : fitsB l p = false) :
    Calls Try.prog 5 #[.agg #[.int .i64 l, .int .i64 p], .int .i64 k, .int .i64 pg] w fun e w' => e = .returned (.bool true) ∧ Below w.heap.size w w' := by
  obtain ⟨L1, E1, hle⟩ : ∃ a b, logR l p k = (a, b) := ⟨_, _, rfl⟩
  obtain ⟨A1, F1, haf⟩ : ∃ a b, pageR l p k pg = (a, b) := ⟨_, _, rfl⟩
  have HLG : Hid (∀ W, Calls Try.prog 19 #[.agg #[.int .i64 l, .int .i64 p], .int .i64 k] W fun e w' => e = .returned (.tuple #[.int .i64 L1, .int .i64 E1]) ∧ Below W.heap.size W w') := fun W => by have := log_any l p k W; rwa [hle] at this
  have HPG : Hid (∀ W, Calls Try.prog 20 #[.agg #[.int .i64 l, .int .i64 p], .int .i64 k, .int .i64 pg] W fun e w' => e = .returned (.tuple #[.int .i64 A1, .int .i64 F1]) ∧ Below W.heap.size W w') := fun W => by have := page_any l p k pg W; rwa [haf] at this
  have HFT : Hid (∀ W, Calls Try.prog 21 #[.agg #[.int .i64 l, .int .i64 p]] W fun e w' => e = .returned (.bool false) ∧ Below W.heap.size W w') := fun W => fits_at l p false W hf
  have HRF : Hid (∀ W, Calls Try.prog 22 #[.agg #[.int .i64 l, .int .i64 p]] W fun e w' => e = .returned (.bool false) ∧ Below W.heap.size W w') := fun W => rfits_at l p false W hf
  have HF := Lib.hid hf
  have HLE := Lib.hid hle
  have HAF := Lib.hid haf
  clear hf hle haf
  obtain ⟨W0, hW0⟩ : ∃ W0, W0 = w.alloc (.cells #[.int .i64 l, .int .i64 p] 42) := ⟨_, rfl⟩
  have HB0 : Hid (BoxP w.heap.size l p W0) := by rw [hW0]; exact boxP_new w l p
  have HZ0 : Hid (Below w.heap.size w W0) := by rw [hW0]; exact (Below.refl _ _).alloc (Nat.le_refl _) _
  have hz0 : w.heap.size < W0.heap.size := by rw [hW0, alloc_size]; omega
  have HW0 := Lib.hid hW0
  clear hW0
  go_enter Try.func5, Try.ntmps5
  go_wp2_with fail
  rw [← HW0.out]
  refine (HLG.out _).mono ?_
  rintro e w1 ⟨rfl, hb1⟩
  have HB1 := Lib.hid (HB0.out.below hb1 hz0)
  have HZ1 := Lib.hid (step' HZ0.out hb1 HZ0.out.size)
  have hz1 : w.heap.size < w1.heap.size := by have := hb1.size; omega
  clear hb1 HB0 HW0
  obtain ⟨k0, k1⟩ := HB1.out
  go_wp2_with fail
  clear k0 k1
  refine (HPG.out _).mono ?_
  rintro e w2 ⟨rfl, hb2⟩
  have HB2 := Lib.hid (HB1.out.below hb2 hz1)
  have HZ2 := Lib.hid (step' HZ1.out hb2 HZ1.out.size)
  have hz2 : w.heap.size < w2.heap.size := by have := hb2.size; omega
  clear hb2 HB1
  go_wp2_with fail
  go_cut [28] from 24 to 28 (fun s28 wx => s28 = .bool false ∧ Below w2.heap.size w2 wx)
  case first =>
    refine wp_region_by (by kernel_rfl) (Phi [.val (.agg #[.int .i64 l, .int .i64 p]), .val (.bool false), .val (.agg #[.int .i64 l, .int .i64 p]), .val (.bool false), .val (.bool false)]) (phi_stab _) (by kernel_rfl) ?step3 ?fin3
    case step3 =>
      intro i o listed a1 w2 ho hk hdep
      have hi : i < 5 := (Array.getElem?_eq_some_iff.1 ho).1
      have e3 := ev (show a1.eval (.tmp 3) = .pointer (some ⟨w.heap.size, 0, none⟩) from hk.frame 3 (frame_of (by kernel_rfl)))
      obtain ⟨q0, q1⟩ := HB2.out.below hk.below hz2
      have hii : i = 0 ∨ i = 1 ∨ i = 2 ∨ i = 3 ∨ i = 4 := by omega
      rcases hii with rfl | rfl | rfl | rfl | rfl
      · cases ho
        refine wpOp_of rfl rfl (wp_value (v := .agg #[.int .i64 l, .int .i64 p]) ?_ rfl)
        go_simp
      · cases ho
        have d0 := ev (show a1.eval (.tmp 24) = .agg #[.int .i64 l, .int .i64 p] from hk.done 0 _ 24 rfl rfl (hdep ⟨0, .data⟩ (by simp) rfl))
        refine wpOp_of rfl rfl ?_
        go_simp
        refine (HFT.out w2).mono ?_
        rintro e w3 ⟨rfl, hb2⟩
        exact ⟨_, rfl, rfl, hb2⟩
      · cases ho
        refine wpOp_of rfl rfl (wp_value (v := .agg #[.int .i64 l, .int .i64 p]) ?_ rfl)
        go_simp
      · cases ho
        have d2 := ev (show a1.eval (.tmp 26) = .agg #[.int .i64 l, .int .i64 p] from hk.done 2 _ 26 rfl rfl (hdep ⟨2, .data⟩ (by simp) rfl))
        refine wpOp_of rfl rfl ?_
        go_simp
        refine (HRF.out w2).mono ?_
        rintro e w3 ⟨rfl, hb2⟩
        exact ⟨_, rfl, rfl, hb2⟩
      · cases ho
        have d1 := ev (show a1.eval (.tmp 25) = .bool false from hk.done 1 _ 25 rfl rfl (hdep ⟨1, .data⟩ (by simp) rfl))
        have d3 := ev (show a1.eval (.tmp 27) = .bool false from hk.done 3 _ 27 rfl rfl (hdep ⟨3, .data⟩ (by simp) rfl))
        refine wpOp_of rfl rfl (wp_value (v := .bool false) ?_ rfl)
        go_simp
    case fin3 =>
      intro listed a2 w2 hk hall
      have h28 : a2.eval (.tmp 28) = .bool false := hk.done 4 _ 28 rfl rfl (hall 4 (by decide))
      have hact := kept_all [24, 25, 26, 27, 28] hk (by kernel_rfl)
      have HB := Lib.hid hk.below
      simp only [List.foldl_cons, List.foldl_nil, List.setIfInBounds_toArray, List.set_cons_succ, List.set_cons_zero] at hact
      generalize a2.eval (.tmp 24) = u24 at hact
      generalize a2.eval (.tmp 25) = u25 at hact
      generalize a2.eval (.tmp 26) = u26 at hact
      generalize a2.eval (.tmp 27) = u27 at hact
      generalize a2.eval (.tmp 28) = u28 at hact h28
      rw [hact]
      clear hact
      go_wp2
      go_meet
      first | exact ⟨h28, HB.out⟩ | exact ⟨rfl, HB.out⟩
  case rest =>
  obtain ⟨rfl, hbx⟩ := hcut
  have HB3 := Lib.hid (HB2.out.below hbx hz2)
  have HZ3 := Lib.hid (step' HZ2.out hbx HZ2.out.size)
  have hz3 : w.heap.size < wc.heap.size := by have := hbx.size; omega
  clear hbx HB2 HLG HPG
  obtain ⟨w3, rfl⟩ : ∃ x, x = wc := ⟨wc, rfl⟩
  obtain ⟨k0, k1⟩ := HB3.out
  go_wp2_with fail
  clear k0 k1
  refine (HRF.out _).mono ?_
  rintro e w4 ⟨rfl, hb4⟩
  have HB4 := Lib.hid (HB3.out.below hb4 hz3)
  have HZ4 := Lib.hid (step' HZ3.out hb4 HZ3.out.size)
  have hz4 : w.heap.size < w4.heap.size := by have := hb4.size; omega
  clear hb4 HB3
  obtain ⟨k0, k1⟩ := HB4.out
  have hl := HLE.out
  have ha := HAF.out
  rw [logR_no HF.out] at hl
  rw [pageR_no (logR_no HF.out) (by decide)] at ha
  injection hl with h1 h2
  injection ha with h3 h4
  subst h1 h2 h3 h4
  clear HLE HAF
  go_wp2_with fail
  clear k0 k1
  refine (size_no l p _ HF.out).mono ?_
  rintro e w5 ⟨rfl, hb5⟩
  have HZ5 := Lib.hid (step' HZ4.out hb5 HZ4.out.size)
  clear hb5
  go_wp2_with fail
  refine (awake_any _).mono ?_
  rintro e w6 ⟨rfl, hb6⟩
  have HZ6 := Lib.hid (step' HZ5.out hb6 HZ5.out.size)
  clear hb6
  go_wp2_with fail
  go_ret
  exact ⟨rfl, HZ6.out⟩
set_option maxHeartbeats 3200000 in
theorem plans_yes (l p k pg : Int) (w : World) (hf : fitsB l p = true) :
    Calls Try.prog 5 #[.agg #[.int .i64 l, .int .i64 p], .int .i64 k, .int .i64 pg] w fun e w' => e = .returned (.bool true) ∧ Below w.heap.size w w' := by
  obtain ⟨L1, E1, hle⟩ : ∃ a b, logR l p k = (a, b) := ⟨_, _, rfl⟩
  obtain ⟨A1, F1, haf⟩ : ∃ a b, pageR l p k pg = (a, b) := ⟨_, _, rfl⟩
  have HLG : Hid (∀ W, Calls Try.prog 19 #[.agg #[.int .i64 l, .int .i64 p], .int .i64 k] W fun e w' => e = .returned (.tuple #[.int .i64 L1, .int .i64 E1]) ∧ Below W.heap.size W w') := fun W => by have := log_any l p k W; rwa [hle] at this
  have HPG : Hid (∀ W, Calls Try.prog 20 #[.agg #[.int .i64 l, .int .i64 p], .int .i64 k, .int .i64 pg] W fun e w' => e = .returned (.tuple #[.int .i64 A1, .int .i64 F1]) ∧ Below W.heap.size W w') := fun W => by have := page_any l p k pg W; rwa [haf] at this
  have HFT : Hid (∀ W, Calls Try.prog 21 #[.agg #[.int .i64 l, .int .i64 p]] W fun e w' => e = .returned (.bool true) ∧ Below W.heap.size W w') := fun W => fits_at l p true W hf
  have HRF : Hid (∀ W, Calls Try.prog 22 #[.agg #[.int .i64 l, .int .i64 p]] W fun e w' => e = .returned (.bool true) ∧ Below W.heap.size W w') := fun W => rfits_at l p true W hf
  have HF := Lib.hid hf
  have HLE := Lib.hid hle
  have HAF := Lib.hid haf
  clear hf hle haf
  obtain ⟨W0, hW0⟩ : ∃ W0, W0 = w.alloc (.cells #[.int .i64 l, .int .i64 p] 42) := ⟨_, rfl⟩
  have HB0 : Hid (BoxP w.heap.size l p W0) := by rw [hW0]; exact boxP_new w l p
  have HZ0 : Hid (Below w.heap.size w W0) := by rw [hW0]; exact (Below.refl _ _).alloc (Nat.le_refl _) _
  have hz0 : w.heap.size < W0.heap.size := by rw [hW0, alloc_size]; omega
  have HW0 := Lib.hid hW0
  clear hW0
  go_enter Try.func5, Try.ntmps5
  go_wp2_with fail
  rw [← HW0.out]
  refine (HLG.out _).mono ?_
  rintro e w1 ⟨rfl, hb1⟩
  have HB1 := Lib.hid (HB0.out.below hb1 hz0)
  have HZ1 := Lib.hid (step' HZ0.out hb1 HZ0.out.size)
  have hz1 : w.heap.size < w1.heap.size := by have := hb1.size; omega
  clear hb1 HB0 HW0
  obtain ⟨k0, k1⟩ := HB1.out
  go_wp2_with fail
  clear k0 k1
  refine (HPG.out _).mono ?_
  rintro e w2 ⟨rfl, hb2⟩
  have HB2 := Lib.hid (HB1.out.below hb2 hz1)
  have HZ2 := Lib.hid (step' HZ1.out hb2 HZ1.out.size)
  have hz2 : w.heap.size < w2.heap.size := by have := hb2.size; omega
  clear hb2 HB1
  go_wp2_with fail
  go_cut [28] from 24 to 28 (fun s28 wx => s28 = .bool false ∧ Below w2.heap.size w2 wx)
  case first =>
    refine wp_region_by (by kernel_rfl) (Phi [.val (.agg #[.int .i64 l, .int .i64 p]), .val (.bool true), .val (.agg #[.int .i64 l, .int .i64 p]), .val (.bool true), .val (.bool false)]) (phi_stab _) (by kernel_rfl) ?step3 ?fin3
    case step3 =>
      intro i o listed a1 w2 ho hk hdep
      have hi : i < 5 := (Array.getElem?_eq_some_iff.1 ho).1
      have e3 := ev (show a1.eval (.tmp 3) = .pointer (some ⟨w.heap.size, 0, none⟩) from hk.frame 3 (frame_of (by kernel_rfl)))
      obtain ⟨q0, q1⟩ := HB2.out.below hk.below hz2
      have hii : i = 0 ∨ i = 1 ∨ i = 2 ∨ i = 3 ∨ i = 4 := by omega
      rcases hii with rfl | rfl | rfl | rfl | rfl
      · cases ho
        refine wpOp_of rfl rfl (wp_value (v := .agg #[.int .i64 l, .int .i64 p]) ?_ rfl)
        go_simp
      · cases ho
        have d0 := ev (show a1.eval (.tmp 24) = .agg #[.int .i64 l, .int .i64 p] from hk.done 0 _ 24 rfl rfl (hdep ⟨0, .data⟩ (by simp) rfl))
        refine wpOp_of rfl rfl ?_
        go_simp
        refine (HFT.out w2).mono ?_
        rintro e w3 ⟨rfl, hb2⟩
        exact ⟨_, rfl, rfl, hb2⟩
      · cases ho
        refine wpOp_of rfl rfl (wp_value (v := .agg #[.int .i64 l, .int .i64 p]) ?_ rfl)
        go_simp
      · cases ho
        have d2 := ev (show a1.eval (.tmp 26) = .agg #[.int .i64 l, .int .i64 p] from hk.done 2 _ 26 rfl rfl (hdep ⟨2, .data⟩ (by simp) rfl))
        refine wpOp_of rfl rfl ?_
        go_simp
        refine (HRF.out w2).mono ?_
        rintro e w3 ⟨rfl, hb2⟩
        exact ⟨_, rfl, rfl, hb2⟩
      · cases ho
        have d1 := ev (show a1.eval (.tmp 25) = .bool true from hk.done 1 _ 25 rfl rfl (hdep ⟨1, .data⟩ (by simp) rfl))
        have d3 := ev (show a1.eval (.tmp 27) = .bool true from hk.done 3 _ 27 rfl rfl (hdep ⟨3, .data⟩ (by simp) rfl))
        refine wpOp_of rfl rfl (wp_value (v := .bool false) ?_ rfl)
        go_simp
    case fin3 =>
      intro listed a2 w2 hk hall
      have h28 : a2.eval (.tmp 28) = .bool false := hk.done 4 _ 28 rfl rfl (hall 4 (by decide))
      have hact := kept_all [24, 25, 26, 27, 28] hk (by kernel_rfl)
      have HB := Lib.hid hk.below
      simp only [List.foldl_cons, List.foldl_nil, List.setIfInBounds_toArray, List.set_cons_succ, List.set_cons_zero] at hact
      generalize a2.eval (.tmp 24) = u24 at hact
      generalize a2.eval (.tmp 25) = u25 at hact
      generalize a2.eval (.tmp 26) = u26 at hact
      generalize a2.eval (.tmp 27) = u27 at hact
      generalize a2.eval (.tmp 28) = u28 at hact h28
      rw [hact]
      clear hact
      go_wp2
      go_meet
      first | exact ⟨h28, HB.out⟩ | exact ⟨rfl, HB.out⟩
  case rest =>
  obtain ⟨rfl, hbx⟩ := hcut
  have HB3 := Lib.hid (HB2.out.below hbx hz2)
  have HZ3 := Lib.hid (step' HZ2.out hbx HZ2.out.size)
  have hz3 : w.heap.size < wc.heap.size := by have := hbx.size; omega
  clear hbx HB2 HLG HPG
  obtain ⟨w3, rfl⟩ : ∃ x, x = wc := ⟨wc, rfl⟩
  obtain ⟨k0, k1⟩ := HB3.out
  go_wp2_with fail
  clear k0 k1
  refine (HRF.out _).mono ?_
  rintro e w4 ⟨rfl, hb4⟩
  have HB4 := Lib.hid (HB3.out.below hb4 hz3)
  have HZ4 := Lib.hid (step' HZ3.out hb4 HZ3.out.size)
  have hz4 : w.heap.size < w4.heap.size := by have := hb4.size; omega
  clear hb4 HB3
  obtain ⟨k0, k1⟩ := HB4.out
  have hx := fits_iff.1 HF.out
  obtain ⟨⟨l1, l2⟩, ⟨p1, p2⟩, lp⟩ := hx
  obtain ⟨SZ, hsz⟩ : ∃ z, z = 2 + 2 * (l + p * 8) := ⟨_, rfl⟩
  have HSZ : Hid (∀ W, Calls Try.prog 23 #[.agg #[.int .i64 l, .int .i64 p]] W fun e w' => e = .returned (.int .i64 SZ) ∧ Below W.heap.size W w') := fun W => by rw [hsz]; exact size_yes l p W HF.out
  have hsn : (SZ != 2 + 2 * l + 16 * p) = false := by simp; omega
  have HSE := Lib.hid hsz
  clear hsz
  have y1 : IntKind.i64.wrap (2 * l) = 2 * l := IntWalk.i64_in _ (by omega)
  have y2 : IntKind.i64.wrap (2 + 2 * l) = 2 + 2 * l := IntWalk.i64_in _ (by omega)
  have y3 : IntKind.i64.wrap (16 * p) = 16 * p := IntWalk.i64_in _ (by omega)
  have y4 : IntKind.i64.wrap (2 + 2 * l + 16 * p) = 2 + 2 * l + 16 * p := IntWalk.i64_in _ (by omega)
  go_wp2_with fail
  clear k0 k1
  go_cut [64] from 54 to 64 (fun s64 wx => s64 = .bool false ∧ Below w4.heap.size w4 wx)
  case first =>
    refine wp_region_by (by kernel_rfl) (Phi [.val (.agg #[.int .i64 l, .int .i64 p]), .val (.int .i64 SZ), .val (.pointer (some ⟨w.heap.size, 0, none⟩)), .val (.int .i64 l), .val (.int .i64 (2 * l)), .val (.int .i64 (2 + 2 * l)), .val (.pointer (some ⟨w.heap.size, 1, none⟩)), .val (.int .i64 p), .val (.int .i64 (16 * p)), .val (.int .i64 (2 + 2 * l + 16 * p)), .val (.bool false)]) (phi_stab _) (by kernel_rfl) ?step7 ?fin7
    case step7 =>
      intro i o listed a1 w2 ho hk hdep
      have hi : i < 11 := (Array.getElem?_eq_some_iff.1 ho).1
      have e3 := ev (show a1.eval (.tmp 3) = .pointer (some ⟨w.heap.size, 0, none⟩) from hk.frame 3 (frame_of (by kernel_rfl)))
      obtain ⟨q0, q1⟩ := HB4.out.below hk.below hz4
      have hii : i = 0 ∨ i = 1 ∨ i = 2 ∨ i = 3 ∨ i = 4 ∨ i = 5 ∨ i = 6 ∨ i = 7 ∨ i = 8 ∨ i = 9 ∨ i = 10 := by omega
      rcases hii with rfl | rfl | rfl | rfl | rfl | rfl | rfl | rfl | rfl | rfl | rfl
      · cases ho
        refine wpOp_of rfl rfl (wp_value (v := .agg #[.int .i64 l, .int .i64 p]) ?_ rfl)
        go_simp
      · cases ho
        have d0 := ev (show a1.eval (.tmp 54) = .agg #[.int .i64 l, .int .i64 p] from hk.done 0 _ 54 rfl rfl (hdep ⟨0, .data⟩ (by simp) rfl))
        refine wpOp_of rfl rfl ?_
        go_simp
        refine (HSZ.out w2).mono ?_
        rintro e w3 ⟨rfl, hb2⟩
        exact ⟨_, rfl, rfl, hb2⟩
      · cases ho
        refine wpOp_of rfl rfl (wp_value (v := .pointer (some ⟨w.heap.size, 0, none⟩)) ?_ rfl)
        go_simp
      · cases ho
        have d2 := ev (show a1.eval (.tmp 56) = .pointer (some ⟨w.heap.size, 0, none⟩) from hk.done 2 _ 56 rfl rfl (hdep ⟨2, .data⟩ (by simp) rfl))
        refine wpOp_of rfl rfl (wp_value (v := .int .i64 l) ?_ rfl)
        go_simp
      · cases ho
        have d3 := ev (show a1.eval (.tmp 57) = .int .i64 l from hk.done 3 _ 57 rfl rfl (hdep ⟨3, .data⟩ (by simp) rfl))
        refine wpOp_of rfl rfl (wp_value (v := .int .i64 (2 * l)) ?_ rfl)
        go_simp
      · cases ho
        have d4 := ev (show a1.eval (.tmp 58) = .int .i64 (2 * l) from hk.done 4 _ 58 rfl rfl (hdep ⟨4, .data⟩ (by simp) rfl))
        refine wpOp_of rfl rfl (wp_value (v := .int .i64 (2 + 2 * l)) ?_ rfl)
        go_simp
      · cases ho
        refine wpOp_of rfl rfl (wp_value (v := .pointer (some ⟨w.heap.size, 1, none⟩)) ?_ rfl)
        go_simp
      · cases ho
        have d6 := ev (show a1.eval (.tmp 60) = .pointer (some ⟨w.heap.size, 1, none⟩) from hk.done 6 _ 60 rfl rfl (hdep ⟨6, .data⟩ (by simp) rfl))
        refine wpOp_of rfl rfl (wp_value (v := .int .i64 p) ?_ rfl)
        go_simp
      · cases ho
        have d7 := ev (show a1.eval (.tmp 61) = .int .i64 p from hk.done 7 _ 61 rfl rfl (hdep ⟨7, .data⟩ (by simp) rfl))
        refine wpOp_of rfl rfl (wp_value (v := .int .i64 (16 * p)) ?_ rfl)
        go_simp
      · cases ho
        have d5 := ev (show a1.eval (.tmp 59) = .int .i64 (2 + 2 * l) from hk.done 5 _ 59 rfl rfl (hdep ⟨5, .data⟩ (by simp) rfl))
        have d8 := ev (show a1.eval (.tmp 62) = .int .i64 (16 * p) from hk.done 8 _ 62 rfl rfl (hdep ⟨8, .data⟩ (by simp) rfl))
        refine wpOp_of rfl rfl (wp_value (v := .int .i64 (2 + 2 * l + 16 * p)) ?_ rfl)
        go_simp
      · cases ho
        have d1 := ev (show a1.eval (.tmp 55) = .int .i64 SZ from hk.done 1 _ 55 rfl rfl (hdep ⟨1, .data⟩ (by simp) rfl))
        have d9 := ev (show a1.eval (.tmp 63) = .int .i64 (2 + 2 * l + 16 * p) from hk.done 9 _ 63 rfl rfl (hdep ⟨9, .data⟩ (by simp) rfl))
        refine wpOp_of rfl rfl (wp_value (v := .bool false) ?_ rfl)
        go_simp
    case fin7 =>
      intro listed a2 w2 hk hall
      have h64 : a2.eval (.tmp 64) = .bool false := hk.done 10 _ 64 rfl rfl (hall 10 (by decide))
      have hact := kept_all [54, 55, 56, 57, 58, 59, 60, 61, 62, 63, 64] hk (by kernel_rfl)
      have HB := Lib.hid hk.below
      simp only [List.foldl_cons, List.foldl_nil, List.setIfInBounds_toArray, List.set_cons_succ, List.set_cons_zero] at hact
      generalize a2.eval (.tmp 54) = u54 at hact
      generalize a2.eval (.tmp 55) = u55 at hact
      generalize a2.eval (.tmp 56) = u56 at hact
      generalize a2.eval (.tmp 57) = u57 at hact
      generalize a2.eval (.tmp 58) = u58 at hact
      generalize a2.eval (.tmp 59) = u59 at hact
      generalize a2.eval (.tmp 60) = u60 at hact
      generalize a2.eval (.tmp 61) = u61 at hact
      generalize a2.eval (.tmp 62) = u62 at hact
      generalize a2.eval (.tmp 63) = u63 at hact
      generalize a2.eval (.tmp 64) = u64 at hact h64
      rw [hact]
      clear hact
      go_wp2
      go_meet
      first | exact ⟨h64, HB.out⟩ | exact ⟨rfl, HB.out⟩
  case rest =>
  obtain ⟨rfl, hbx⟩ := hcut
  have HB5 := Lib.hid (HB4.out.below hbx hz4)
  have HZ5 := Lib.hid (step' HZ4.out hbx HZ4.out.size)
  have hz5 : w.heap.size < wc.heap.size := by have := hbx.size; omega
  clear hbx HB4 hsn HSZ y1 y2 y3 y4
  obtain ⟨w5, rfl⟩ : ∃ x, x = wc := ⟨wc, rfl⟩
  cases hk : within k 0 1 with
  | false =>
    have hkx : ¬ (0 ≤ k ∧ k ≤ 1) := fun h => by rw [within_iff.2 h] at hk; cases hk
    have q0 : (k != 0) = true := by simp; omega
    have q1 : (k != 1) = true := by simp; omega
    have hl := HLE.out
    have ha := HAF.out
    rw [logR_off HF.out hk] at hl
    rw [pageR_no (logR_off HF.out hk) (by decide)] at ha
    injection hl with h1 h2
    injection ha with h3 h4
    subst h1 h2 h3 h4
    clear HLE HAF hk hkx
    go_wp2_with fail
    refine (awake_any _).mono ?_
    rintro e w6 ⟨rfl, hb6⟩
    have HZ6 := Lib.hid (step' HZ5.out hb6 HZ5.out.size)
    clear hb6
    go_wp2_with fail
    go_ret
    exact ⟨rfl, HZ6.out⟩
  | true =>
  have hl := HLE.out
  rw [logR_yes HF.out hk] at hl
  injection hl with h1 h2
  subst h2
  have hkx := within_iff.1 hk
  have hkk : k = 0 ∨ k = 1 := by omega
  have HL1 := Lib.hid h1
  have hlb : 0 ≤ L1 ∧ L1 ≤ 5000 := by rw [← h1]; rcases hkk with rfl | rfl <;> omega
  obtain ⟨lb1, lb2⟩ := hlb
  have HRL : Hid (∀ W, Calls Try.prog 24 #[.agg #[.int .i64 l, .int .i64 p], .int .i64 k] W fun e w' => e = .returned (.int .i64 L1) ∧ Below W.heap.size W w') := fun W => by rw [← h1]; exact rlog_any l p k W HF.out hk
  have qk : ((k != 0) && (k != 1)) = false := by rcases hkk with rfl | rfl <;> simp
  have HK := Lib.hid hk
  clear hk h1 HLE

  rcases hkk with rfl | rfl
  ·
    clear qk
    obtain ⟨k0, k1⟩ := HB5.out
    go_wp2_with fail
    clear k0 k1
    refine (HRL.out _).mono ?_
    rintro e w6 ⟨rfl, hb6⟩
    have HB6 := Lib.hid (HB5.out.below hb6 hz5)
    have HZ6 := Lib.hid (step' HZ5.out hb6 HZ5.out.size)
    have hz6 : w.heap.size < w6.heap.size := by have := hb6.size; omega
    clear hb6 HB5
    obtain ⟨k0, k1⟩ := HB6.out
    cases hi : within pg 0 (p - 1) with
    | false =>
      have hix : ¬ (0 ≤ pg ∧ pg ≤ p - 1) := fun h => by rw [within_iff.2 h] at hi; cases hi
      have ha := HAF.out
      rw [pageR_off HF.out HK.out hi] at ha
      injection ha with h3 h4
      subst h3 h4
      clear HAF hi
      by_cases i0 : pg < 0
      · go_wp2_with fail
        refine (awake_any _).mono ?_
        rintro e w8 ⟨rfl, hb8⟩
        have HZ8 := Lib.hid (step' HZ6.out hb8 HZ6.out.size)
        clear hb8
        go_wp2_with fail
        go_ret
        exact ⟨rfl, HZ8.out⟩
      · have i1 : p ≤ pg := by omega
        have i0' : decide (pg < 0) = false := by simpa using i0
        clear hix
        go_wp2_with fail
        refine (awake_any _).mono ?_
        rintro e w8 ⟨rfl, hb8⟩
        have HZ8 := Lib.hid (step' HZ6.out hb8 HZ6.out.size)
        clear hb8
        go_wp2_with fail
        go_ret
        exact ⟨rfl, HZ8.out⟩
    | true =>
      have hix := within_iff.1 hi
      have ha := HAF.out
      rw [pageR_yes HF.out HK.out hi, HL1.out] at ha
      injection ha with h3 h4
      subst h4
      have hA : (A1 == L1 + l + 8 * pg) = true := by simp; omega
      have i3 : pg ≤ 200 := by omega
      have i0' : decide (pg < 0) = false := by simp; omega
      have i1' : decide (p ≤ pg) = false := by simp; omega
      have y1 : IntKind.i64.wrap (L1 + l) = L1 + l := IntWalk.i64_in _ (by omega)
      have y2 : IntKind.i64.wrap (8 * pg) = 8 * pg := IntWalk.i64_in _ (by omega)
      have y3 : IntKind.i64.wrap (L1 + l + 8 * pg) = L1 + l + 8 * pg := IntWalk.i64_in _ (by omega)
      have HAH := Lib.hid h3
      obtain ⟨i00, i11⟩ := hix
      clear HAF hi h3
      go_wp2_with fail
      refine wp_region_by (by kernel_rfl) (Phi [.val (.int .i64 A1), .val (.agg #[.int .i64 l, .int .i64 p]), .val (.int .i64 0), .val (.int .i64 L1), .val (.pointer (some ⟨w.heap.size, 0, none⟩)), .val (.int .i64 l), .val (.int .i64 (L1 + l)), .val (.int .i64 pg), .val (.int .i64 (8 * pg)), .val (.int .i64 (L1 + l + 8 * pg)), .val (.bool true), .val (.bool true), .val (.int .i64 0), .val (.bool true), .val (.bool true), .val (.bool true), .val (.bool true), .val (.bool true), .val (.bool true)]) (phi_stab _) (by kernel_rfl) ?step15 ?fin15
      case step15 =>
        intro i o listed a1 w2 ho hk hdep
        have hi : i < 19 := (Array.getElem?_eq_some_iff.1 ho).1
        have e1 := ev (show a1.eval (.tmp 1) = .int .i64 0 from hk.frame 1 (frame_of (by kernel_rfl)))
        have e2 := ev (show a1.eval (.tmp 2) = .int .i64 pg from hk.frame 2 (frame_of (by kernel_rfl)))
        have e3 := ev (show a1.eval (.tmp 3) = .pointer (some ⟨w.heap.size, 0, none⟩) from hk.frame 3 (frame_of (by kernel_rfl)))
        have e9 := ev (show a1.eval (.tmp 9) = .int .i64 A1 from hk.frame 9 (frame_of (by kernel_rfl)))
        have e10 := ev (show a1.eval (.tmp 10) = .int .i64 0 from hk.frame 10 (frame_of (by kernel_rfl)))
        obtain ⟨q0, q1⟩ := HB6.out.below hk.below hz6
        have hii : i = 0 ∨ i = 1 ∨ i = 2 ∨ i = 3 ∨ i = 4 ∨ i = 5 ∨ i = 6 ∨ i = 7 ∨ i = 8 ∨ i = 9 ∨ i = 10 ∨ i = 11 ∨ i = 12 ∨ i = 13 ∨ i = 14 ∨ i = 15 ∨ i = 16 ∨ i = 17 ∨ i = 18 := by omega
        rcases hii with rfl | rfl | rfl | rfl | rfl | rfl | rfl | rfl | rfl | rfl | rfl | rfl | rfl | rfl | rfl | rfl | rfl | rfl | rfl
        · cases ho
          refine wpOp_of rfl rfl (wp_value (v := .int .i64 A1) ?_ rfl)
          simp [execOp, e9, Act.eval]
        · cases ho
          refine wpOp_of rfl rfl (wp_value (v := .agg #[.int .i64 l, .int .i64 p]) ?_ rfl)
          go_simp
        · cases ho
          refine wpOp_of rfl rfl (wp_value (v := .int .i64 0) ?_ rfl)
          simp [execOp, e1, Act.eval]
        · cases ho
          have d1 := ev (show a1.eval (.tmp 115) = .agg #[.int .i64 l, .int .i64 p] from hk.done 1 _ 115 rfl rfl (hdep ⟨1, .data⟩ (by simp) rfl))
          have d2 := ev (show a1.eval (.tmp 116) = .int .i64 0 from hk.done 2 _ 116 rfl rfl (hdep ⟨2, .data⟩ (by simp) rfl))
          refine wpOp_of rfl rfl ?_
          go_simp
          refine (HRL.out w2).mono ?_
          rintro e w3 ⟨rfl, hb2⟩
          exact ⟨_, rfl, rfl, hb2⟩
        · cases ho
          refine wpOp_of rfl rfl (wp_value (v := .pointer (some ⟨w.heap.size, 0, none⟩)) ?_ rfl)
          go_simp
        · cases ho
          have d4 := ev (show a1.eval (.tmp 118) = .pointer (some ⟨w.heap.size, 0, none⟩) from hk.done 4 _ 118 rfl rfl (hdep ⟨4, .data⟩ (by simp) rfl))
          refine wpOp_of rfl rfl (wp_value (v := .int .i64 l) ?_ rfl)
          go_simp
        · cases ho
          have d3 := ev (show a1.eval (.tmp 117) = .int .i64 L1 from hk.done 3 _ 117 rfl rfl (hdep ⟨3, .data⟩ (by simp) rfl))
          have d5 := ev (show a1.eval (.tmp 119) = .int .i64 l from hk.done 5 _ 119 rfl rfl (hdep ⟨5, .data⟩ (by simp) rfl))
          refine wpOp_of rfl rfl (wp_value (v := .int .i64 (L1 + l)) ?_ rfl)
          go_simp
        · cases ho
          refine wpOp_of rfl rfl (wp_value (v := .int .i64 pg) ?_ rfl)
          simp [execOp, e2, Act.eval]
        · cases ho
          have d7 := ev (show a1.eval (.tmp 121) = .int .i64 pg from hk.done 7 _ 121 rfl rfl (hdep ⟨7, .data⟩ (by simp) rfl))
          refine wpOp_of rfl rfl (wp_value (v := .int .i64 (8 * pg)) ?_ rfl)
          go_simp
        · cases ho
          have d6 := ev (show a1.eval (.tmp 120) = .int .i64 (L1 + l) from hk.done 6 _ 120 rfl rfl (hdep ⟨6, .data⟩ (by simp) rfl))
          have d8 := ev (show a1.eval (.tmp 122) = .int .i64 (8 * pg) from hk.done 8 _ 122 rfl rfl (hdep ⟨8, .data⟩ (by simp) rfl))
          refine wpOp_of rfl rfl (wp_value (v := .int .i64 (L1 + l + 8 * pg)) ?_ rfl)
          go_simp
        · cases ho
          have d0 := ev (show a1.eval (.tmp 114) = .int .i64 A1 from hk.done 0 _ 114 rfl rfl (hdep ⟨0, .data⟩ (by simp) rfl))
          have d9 := ev (show a1.eval (.tmp 123) = .int .i64 (L1 + l + 8 * pg) from hk.done 9 _ 123 rfl rfl (hdep ⟨9, .data⟩ (by simp) rfl))
          refine wpOp_of rfl rfl (wp_value (v := .bool true) ?_ rfl)
          go_simp
        · cases ho
          have d10 := ev (show a1.eval (.tmp 124) = .bool true from hk.done 10 _ 124 rfl rfl (hdep ⟨10, .data⟩ (by simp) rfl))
          refine wpOp_of rfl rfl (wp_value (v := .bool true) ?_ rfl)
          simp [execOp, d10, Act.eval]
        · cases ho
          refine wpOp_of rfl (wanted_of (t := 125) rfl rfl (hk.done 11 _ 125 rfl rfl (hdep ⟨11, .guard⟩ (by simp) rfl))) (wp_value (v := .int .i64 0) ?_ rfl)
          simp [execOp, e10, Act.eval]
        · cases ho
          have d12 := ev (show a1.eval (.tmp 126) = .int .i64 0 from hk.done 12 _ 126 rfl rfl (hdep ⟨12, .data⟩ (by simp) rfl))
          refine wpOp_of rfl (wanted_of (t := 125) rfl rfl (hk.done 11 _ 125 rfl rfl (hdep ⟨11, .guard⟩ (by simp) rfl))) (wp_value (v := .bool true) ?_ rfl)
          go_simp
        · cases ho
          have d11 := ev (show a1.eval (.tmp 125) = .bool true from hk.done 11 _ 125 rfl rfl (hdep ⟨11, .data⟩ (by simp) rfl))
          have d13 := ev (show a1.eval (.tmp 127) = .bool true from hk.done 13 _ 127 rfl rfl (hdep ⟨13, .data⟩ (by simp) rfl))
          refine wpOp_of rfl rfl (wp_value (v := .bool true) ?_ rfl)
          go_simp
        · cases ho
          have d14 := ev (show a1.eval (.tmp 128) = .bool true from hk.done 14 _ 128 rfl rfl (hdep ⟨14, .data⟩ (by simp) rfl))
          refine wpOp_of rfl rfl (wp_value (v := .bool true) ?_ rfl)
          simp [execOp, d14, Act.eval]
        · cases ho
          refine wpOp_of rfl (wanted_of (t := 129) rfl rfl (hk.done 15 _ 129 rfl rfl (hdep ⟨15, .guard⟩ (by simp) rfl))) ?_
          go_simp
          refine (awake_any w2).mono ?_
          rintro e w3 ⟨rfl, hb2⟩
          exact ⟨_, rfl, rfl, hb2⟩
        · cases ho
          have d15 := ev (show a1.eval (.tmp 129) = .bool true from hk.done 15 _ 129 rfl rfl (hdep ⟨15, .data⟩ (by simp) rfl))
          have d16 := ev (show a1.eval (.tmp 130) = .bool true from hk.done 16 _ 130 rfl rfl (hdep ⟨16, .data⟩ (by simp) rfl))
          refine wpOp_of rfl rfl (wp_value (v := .bool true) ?_ rfl)
          go_simp
        · cases ho
          have d17 := ev (show a1.eval (.tmp 131) = .bool true from hk.done 17 _ 131 rfl rfl (hdep ⟨17, .data⟩ (by simp) rfl))
          refine wpOp_of rfl rfl (wp_value (v := .bool true) ?_ rfl)
          simp [execOp, d17, Act.eval]
      case fin15 =>
        intro listed a2 w2 hk hall
        have h0 : a2.eval (.tmp 6) = .bool true := hk.done 18 _ 6 rfl rfl (hall 18 (by decide))
        have hB := HZ6.out.trans (hk.below.mono HZ6.out.size)
        have e0 := ev h0
        go_wp2
        refine bodyPost_ret (v := .bool true) (by simp [results, Try.results5, go_sem, e0]) hk.defers ⟨rfl, hB⟩
  ·
    clear qk
    obtain ⟨k0, k1⟩ := HB5.out
    go_wp2_with fail
    clear k0 k1
    refine (HRL.out _).mono ?_
    rintro e w6 ⟨rfl, hb6⟩
    have HB6 := Lib.hid (HB5.out.below hb6 hz5)
    have HZ6 := Lib.hid (step' HZ5.out hb6 HZ5.out.size)
    have hz6 : w.heap.size < w6.heap.size := by have := hb6.size; omega
    clear hb6 HB5
    obtain ⟨k0, k1⟩ := HB6.out
    cases hi : within pg 0 (p - 1) with
    | false =>
      have hix : ¬ (0 ≤ pg ∧ pg ≤ p - 1) := fun h => by rw [within_iff.2 h] at hi; cases hi
      have ha := HAF.out
      rw [pageR_off HF.out HK.out hi] at ha
      injection ha with h3 h4
      subst h3 h4
      clear HAF hi
      by_cases i0 : pg < 0
      · go_wp2_with fail
        refine (awake_any _).mono ?_
        rintro e w8 ⟨rfl, hb8⟩
        have HZ8 := Lib.hid (step' HZ6.out hb8 HZ6.out.size)
        clear hb8
        go_wp2_with fail
        go_ret
        exact ⟨rfl, HZ8.out⟩
      · have i1 : p ≤ pg := by omega
        have i0' : decide (pg < 0) = false := by simpa using i0
        clear hix
        go_wp2_with fail
        refine (awake_any _).mono ?_
        rintro e w8 ⟨rfl, hb8⟩
        have HZ8 := Lib.hid (step' HZ6.out hb8 HZ6.out.size)
        clear hb8
        go_wp2_with fail
        go_ret
        exact ⟨rfl, HZ8.out⟩
    | true =>
      have hix := within_iff.1 hi
      have ha := HAF.out
      rw [pageR_yes HF.out HK.out hi, HL1.out] at ha
      injection ha with h3 h4
      subst h4
      have hA : (A1 == L1 + l + 8 * pg) = true := by simp; omega
      have i3 : pg ≤ 200 := by omega
      have i0' : decide (pg < 0) = false := by simp; omega
      have i1' : decide (p ≤ pg) = false := by simp; omega
      have y1 : IntKind.i64.wrap (L1 + l) = L1 + l := IntWalk.i64_in _ (by omega)
      have y2 : IntKind.i64.wrap (8 * pg) = 8 * pg := IntWalk.i64_in _ (by omega)
      have y3 : IntKind.i64.wrap (L1 + l + 8 * pg) = L1 + l + 8 * pg := IntWalk.i64_in _ (by omega)
      have HAH := Lib.hid h3
      obtain ⟨i00, i11⟩ := hix
      clear HAF hi h3
      go_wp2_with fail
      refine wp_region_by (by kernel_rfl) (Phi [.val (.int .i64 A1), .val (.agg #[.int .i64 l, .int .i64 p]), .val (.int .i64 1), .val (.int .i64 L1), .val (.pointer (some ⟨w.heap.size, 0, none⟩)), .val (.int .i64 l), .val (.int .i64 (L1 + l)), .val (.int .i64 pg), .val (.int .i64 (8 * pg)), .val (.int .i64 (L1 + l + 8 * pg)), .val (.bool true), .val (.bool true), .val (.int .i64 0), .val (.bool true), .val (.bool true), .val (.bool true), .val (.bool true), .val (.bool true), .val (.bool true)]) (phi_stab _) (by kernel_rfl) ?step15 ?fin15
      case step15 =>
        intro i o listed a1 w2 ho hk hdep
        have hi : i < 19 := (Array.getElem?_eq_some_iff.1 ho).1
        have e1 := ev (show a1.eval (.tmp 1) = .int .i64 1 from hk.frame 1 (frame_of (by kernel_rfl)))
        have e2 := ev (show a1.eval (.tmp 2) = .int .i64 pg from hk.frame 2 (frame_of (by kernel_rfl)))
        have e3 := ev (show a1.eval (.tmp 3) = .pointer (some ⟨w.heap.size, 0, none⟩) from hk.frame 3 (frame_of (by kernel_rfl)))
        have e9 := ev (show a1.eval (.tmp 9) = .int .i64 A1 from hk.frame 9 (frame_of (by kernel_rfl)))
        have e10 := ev (show a1.eval (.tmp 10) = .int .i64 0 from hk.frame 10 (frame_of (by kernel_rfl)))
        obtain ⟨q0, q1⟩ := HB6.out.below hk.below hz6
        have hii : i = 0 ∨ i = 1 ∨ i = 2 ∨ i = 3 ∨ i = 4 ∨ i = 5 ∨ i = 6 ∨ i = 7 ∨ i = 8 ∨ i = 9 ∨ i = 10 ∨ i = 11 ∨ i = 12 ∨ i = 13 ∨ i = 14 ∨ i = 15 ∨ i = 16 ∨ i = 17 ∨ i = 18 := by omega
        rcases hii with rfl | rfl | rfl | rfl | rfl | rfl | rfl | rfl | rfl | rfl | rfl | rfl | rfl | rfl | rfl | rfl | rfl | rfl | rfl
        · cases ho
          refine wpOp_of rfl rfl (wp_value (v := .int .i64 A1) ?_ rfl)
          simp [execOp, e9, Act.eval]
        · cases ho
          refine wpOp_of rfl rfl (wp_value (v := .agg #[.int .i64 l, .int .i64 p]) ?_ rfl)
          go_simp
        · cases ho
          refine wpOp_of rfl rfl (wp_value (v := .int .i64 1) ?_ rfl)
          simp [execOp, e1, Act.eval]
        · cases ho
          have d1 := ev (show a1.eval (.tmp 115) = .agg #[.int .i64 l, .int .i64 p] from hk.done 1 _ 115 rfl rfl (hdep ⟨1, .data⟩ (by simp) rfl))
          have d2 := ev (show a1.eval (.tmp 116) = .int .i64 1 from hk.done 2 _ 116 rfl rfl (hdep ⟨2, .data⟩ (by simp) rfl))
          refine wpOp_of rfl rfl ?_
          go_simp
          refine (HRL.out w2).mono ?_
          rintro e w3 ⟨rfl, hb2⟩
          exact ⟨_, rfl, rfl, hb2⟩
        · cases ho
          refine wpOp_of rfl rfl (wp_value (v := .pointer (some ⟨w.heap.size, 0, none⟩)) ?_ rfl)
          go_simp
        · cases ho
          have d4 := ev (show a1.eval (.tmp 118) = .pointer (some ⟨w.heap.size, 0, none⟩) from hk.done 4 _ 118 rfl rfl (hdep ⟨4, .data⟩ (by simp) rfl))
          refine wpOp_of rfl rfl (wp_value (v := .int .i64 l) ?_ rfl)
          go_simp
        · cases ho
          have d3 := ev (show a1.eval (.tmp 117) = .int .i64 L1 from hk.done 3 _ 117 rfl rfl (hdep ⟨3, .data⟩ (by simp) rfl))
          have d5 := ev (show a1.eval (.tmp 119) = .int .i64 l from hk.done 5 _ 119 rfl rfl (hdep ⟨5, .data⟩ (by simp) rfl))
          refine wpOp_of rfl rfl (wp_value (v := .int .i64 (L1 + l)) ?_ rfl)
          go_simp
        · cases ho
          refine wpOp_of rfl rfl (wp_value (v := .int .i64 pg) ?_ rfl)
          simp [execOp, e2, Act.eval]
        · cases ho
          have d7 := ev (show a1.eval (.tmp 121) = .int .i64 pg from hk.done 7 _ 121 rfl rfl (hdep ⟨7, .data⟩ (by simp) rfl))
          refine wpOp_of rfl rfl (wp_value (v := .int .i64 (8 * pg)) ?_ rfl)
          go_simp
        · cases ho
          have d6 := ev (show a1.eval (.tmp 120) = .int .i64 (L1 + l) from hk.done 6 _ 120 rfl rfl (hdep ⟨6, .data⟩ (by simp) rfl))
          have d8 := ev (show a1.eval (.tmp 122) = .int .i64 (8 * pg) from hk.done 8 _ 122 rfl rfl (hdep ⟨8, .data⟩ (by simp) rfl))
          refine wpOp_of rfl rfl (wp_value (v := .int .i64 (L1 + l + 8 * pg)) ?_ rfl)
          go_simp
        · cases ho
          have d0 := ev (show a1.eval (.tmp 114) = .int .i64 A1 from hk.done 0 _ 114 rfl rfl (hdep ⟨0, .data⟩ (by simp) rfl))
          have d9 := ev (show a1.eval (.tmp 123) = .int .i64 (L1 + l + 8 * pg) from hk.done 9 _ 123 rfl rfl (hdep ⟨9, .data⟩ (by simp) rfl))
          refine wpOp_of rfl rfl (wp_value (v := .bool true) ?_ rfl)
          go_simp
        · cases ho
          have d10 := ev (show a1.eval (.tmp 124) = .bool true from hk.done 10 _ 124 rfl rfl (hdep ⟨10, .data⟩ (by simp) rfl))
          refine wpOp_of rfl rfl (wp_value (v := .bool true) ?_ rfl)
          simp [execOp, d10, Act.eval]
        · cases ho
          refine wpOp_of rfl (wanted_of (t := 125) rfl rfl (hk.done 11 _ 125 rfl rfl (hdep ⟨11, .guard⟩ (by simp) rfl))) (wp_value (v := .int .i64 0) ?_ rfl)
          simp [execOp, e10, Act.eval]
        · cases ho
          have d12 := ev (show a1.eval (.tmp 126) = .int .i64 0 from hk.done 12 _ 126 rfl rfl (hdep ⟨12, .data⟩ (by simp) rfl))
          refine wpOp_of rfl (wanted_of (t := 125) rfl rfl (hk.done 11 _ 125 rfl rfl (hdep ⟨11, .guard⟩ (by simp) rfl))) (wp_value (v := .bool true) ?_ rfl)
          go_simp
        · cases ho
          have d11 := ev (show a1.eval (.tmp 125) = .bool true from hk.done 11 _ 125 rfl rfl (hdep ⟨11, .data⟩ (by simp) rfl))
          have d13 := ev (show a1.eval (.tmp 127) = .bool true from hk.done 13 _ 127 rfl rfl (hdep ⟨13, .data⟩ (by simp) rfl))
          refine wpOp_of rfl rfl (wp_value (v := .bool true) ?_ rfl)
          go_simp
        · cases ho
          have d14 := ev (show a1.eval (.tmp 128) = .bool true from hk.done 14 _ 128 rfl rfl (hdep ⟨14, .data⟩ (by simp) rfl))
          refine wpOp_of rfl rfl (wp_value (v := .bool true) ?_ rfl)
          simp [execOp, d14, Act.eval]
        · cases ho
          refine wpOp_of rfl (wanted_of (t := 129) rfl rfl (hk.done 15 _ 129 rfl rfl (hdep ⟨15, .guard⟩ (by simp) rfl))) ?_
          go_simp
          refine (awake_any w2).mono ?_
          rintro e w3 ⟨rfl, hb2⟩
          exact ⟨_, rfl, rfl, hb2⟩
        · cases ho
          have d15 := ev (show a1.eval (.tmp 129) = .bool true from hk.done 15 _ 129 rfl rfl (hdep ⟨15, .data⟩ (by simp) rfl))
          have d16 := ev (show a1.eval (.tmp 130) = .bool true from hk.done 16 _ 130 rfl rfl (hdep ⟨16, .data⟩ (by simp) rfl))
          refine wpOp_of rfl rfl (wp_value (v := .bool true) ?_ rfl)
          go_simp
        · cases ho
          have d17 := ev (show a1.eval (.tmp 131) = .bool true from hk.done 17 _ 131 rfl rfl (hdep ⟨17, .data⟩ (by simp) rfl))
          refine wpOp_of rfl rfl (wp_value (v := .bool true) ?_ rfl)
          simp [execOp, d17, Act.eval]
      case fin15 =>
        intro listed a2 w2 hk hall
        have h0 : a2.eval (.tmp 6) = .bool true := hk.done 18 _ 6 rfl rfl (hall 18 (by decide))
        have hB := HZ6.out.trans (hk.below.mono HZ6.out.size)
        have e0 := ev h0
        go_wp2
        refine bodyPost_ret (v := .bool true) (by simp [results, Try.results5, go_sem, e0]) hk.defers ⟨rfl, hB⟩
theorem plans_any (l p k pg : Int) (w : World) :
    Calls Try.prog 5 #[.agg #[.int .i64 l, .int .i64 p], .int .i64 k, .int .i64 pg] w fun e w' => e = .returned (.bool true) ∧ Below w.heap.size w w' := by
  cases hf : fitsB l p with
  | false => exact plans_no l p k pg w hf
  | true => exact plans_yes l p k pg w hf
end Go.Proofs.Ytlieijbjbjnaiaa.Sup
