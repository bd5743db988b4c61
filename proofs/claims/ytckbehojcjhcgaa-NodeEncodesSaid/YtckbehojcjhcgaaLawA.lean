/- The walk of NodeEncodes. -/
import Derived.Test.YtckbehojcjhcgaaLawC
import Derived.Test.YtckbehojcjhcgaaN13
import Derived.Test.YtckbehojcjhcgaaN15
namespace Go.Proofs.Ytckbehojcjhcgaa.Nod
open Go.RowKit Crc Chk Frm Fra

/-- A node, in its box. -/
structure One (w0 : World) (n : Nd) (A1 : Option Addr) (n1 c1 : Nat) (A2 : Option Addr) (n2 c2 : Nat) (A3 : Option Addr) (n3 c3 : Nat) (w : World) : Prop where
  b2 : BoxN w0.heap.size A1 n1 c1 A2 n2 c2 A3 n3 c3 w
  n2' : IsN w w.heap.size n A1 n1 c1 A2 n2 c2 A3 n3 c3
  bl : Below w0.heap.size w0 w
  sz : w0.heap.size < w.heap.size
theorem One.next {w0 : World} {n : Nd} {A1 : Option Addr} {n1 c1 : Nat} {A2 : Option Addr} {n2 c2 : Nat} {A3 : Option Addr} {n3 c3 : Nat} {w w' : World} (h : One w0 n A1 n1 c1 A2 n2 c2 A3 n3 c3 w) (hb : Below w.heap.size w w') : One w0 n A1 n1 c1 A2 n2 c2 A3 n3 c3 w' :=
  ⟨h.b2.below hb h.sz, (h.n2'.below hb (Nat.le_refl _)).more hb.size, step' h.bl hb h.bl.size, Nat.lt_of_lt_of_le h.sz hb.size⟩
set_option maxRecDepth 20000 in
set_option maxHeartbeats 6400000 in
theorem encodes_at (n : Nd) (A1 : Option Addr) (n1 c1 : Nat) (A2 : Option Addr) (n2 c2 : Nat) (A3 : Option Addr) (n3 c3 : Nat) (s : T) (w : World) (h : IsN w w.heap.size n A1 n1 c1 A2 n2 c2 A3 n3 c3) :
    Calls Try.prog 3 #[nv A1 n1 c1 A2 n2 c2 A3 n3 c3, .string (text s)] w fun e w' => e = .returned (.bool true) ∧ Below w.heap.size w w' := by
  obtain ⟨W0, hW0⟩ : ∃ W0, W0 = w.alloc (.cells #[.slice A1 n1 c1, .slice A2 n2 c2, .slice A3 n3 c3] 26) := ⟨_, rfl⟩
  have hb0 : Below w.heap.size w W0 := by rw [hW0]; exact (Below.refl _ _).alloc (Nat.le_refl _) _
  have hz0 : w.heap.size < W0.heap.size := by rw [hW0, alloc_size]; omega
  have HT0 : Hid (One w n A1 n1 c1 A2 n2 c2 A3 n3 c3 W0) := ⟨by rw [hW0]; exact boxN_new w .., (h.below hb0 (Nat.le_refl _)).more (by omega), hb0, hz0⟩
  have HFw := Lib.hid (few_any n A1 n1 c1 A2 n2 c2 A3 n3 c3 W0 HT0.out.n2')
  obtain ⟨N, hN⟩ : ∃ m, m = fewN n := ⟨_, rfl⟩
  rw [← hN] at HFw
  have HTx := Lib.hid (ltext_any s)
  have HK := Lib.hid (key_any (s.take 100))
  have HKr := Lib.hid (rkey_any (s.take 100))
  have HV := Lib.hid (val_any (s.take 100))
  have HVr := Lib.hid (rval_any (s.take 100))
  obtain ⟨t0, ht0⟩ : ∃ t, t = text s := ⟨_, rfl⟩
  obtain ⟨t, ht⟩ : ∃ t, t = text (s.take 100) := ⟨_, rfl⟩
  obtain ⟨kb, hkb⟩ : ∃ x, x = keyB (s.take 100) := ⟨_, rfl⟩
  obtain ⟨vb, hvb⟩ : ∃ x, x = valB (s.take 100) := ⟨_, rfl⟩
  rw [← ht0, ← ht] at HTx
  rw [← ht, ← hkb] at HK HKr
  rw [← ht, ← hvb] at HV HVr
  rw [← ht0]
  have HW0 := Lib.hid hW0
  obtain ⟨k0, k1, k2, -⟩ := HT0.out.b2.cells
  clear ht0 ht hkb hvb hW0 h hN hb0 hz0
  go_enter Try.func3, Try.ntmps3
  go_upto_region 1 with fail
  rw [← HW0.out]
  go_wp2_with fail
  refine HFw.out.mono ?_
  rintro e w1 ⟨E1, p1, q1, E2, p2, q2, E3, p3, q3, rfl, hn1, hb1⟩
  have HT1 := Lib.hid (HT0.out.next hb1)
  have HN1 := Lib.hid hn1
  clear hb1 hn1 k0 k1 k2
  obtain ⟨k0, k1, k2, k4⟩ := HT1.out.b2.cells
  go_wp2_with fail
  refine (HTx.out _).mono ?_
  rintro e w1' ⟨rfl, rfl⟩
  obtain ⟨W1, hW1⟩ : ∃ W, W = stN w1 w.heap.size (.slice E1 p1 q1) (.slice E2 p2 q2) (.slice E3 p3 q3) := ⟨_, rfl⟩
  have HO1 : Hid (One w N E1 p1 q1 E2 p2 q2 E3 p3 q3 W1) := by
    rw [hW1]
    exact ⟨boxN_st HT1.out.b2 .., isN_st' HN1.out HT1.out.b2 .., stN_below HT1.out.bl (Nat.le_refl _) .., by rw [stN_size]; exact HT1.out.sz⟩
  have HW1 := Lib.hid hW1
  clear hW1
  go_upto_region 2 with fail
  rw [show ((w1.setCell ⟨w.heap.size, 0, none⟩ (.slice E1 p1 q1)).setCell ⟨w.heap.size, 1, none⟩ (.slice E2 p2 q2)).setCell ⟨w.heap.size, 2, none⟩ (.slice E3 p3 q3) = W1 from HW1.out.symm]
  clear k0 k1 k2 k4
  obtain ⟨k0, k1, k2, -⟩ := HO1.out.b2.cells
  go_wp2_with fail
  refine (enc_both N E1 p1 q1 E2 p2 q2 E3 p3 q3 W1 HO1.out.n2').mono ?_
  rintro e w2 ⟨A7, n7, c7, rfl, hy7, hno, hb2⟩
  have HT2 := Lib.hid (HO1.out.next hb2)
  have HY7 := Lib.hid hy7
  have HNo7 := Lib.hid hno
  have HB2 : Hid (Below W1.heap.size W1 w2) := hb2
  clear hb2 hy7 hno k0 k1 k2
  obtain ⟨f6, hf6⟩ : ∃ f : Int, f = if mayB N = true then 0 else 1 := ⟨_, rfl⟩
  rw [← hf6]
  have HF6 := Lib.hid hf6
  clear hf6
  have HMa : Hid (∀ W, Below w2.heap.size w2 W → Calls Try.prog 10 #[nv E1 p1 q1 E2 p2 q2 E3 p3 q3] W fun e w' => e = .returned (.bool (mayB N)) ∧ Below W.heap.size W w') := fun W hW => may_any N E1 p1 q1 E2 p2 q2 E3 p3 q3 W (HT2.out.next hW).n2'
  have HMb : Hid (∀ W, Below w2.heap.size w2 W → Calls Try.prog 11 #[nv E1 p1 q1 E2 p2 q2 E3 p3 q3] W fun e w' => e = .returned (.bool (mayB N)) ∧ Below W.heap.size W w') := fun W hW => rmay_any N E1 p1 q1 E2 p2 q2 E3 p3 q3 W (HT2.out.next hW).n2'
  obtain ⟨mb, hmb⟩ : ∃ b, b = mayB N := ⟨_, rfl⟩
  rw [← hmb] at HMa HMb HF6 HY7 HNo7
  have HMB := Lib.hid hmb
  clear hmb
  go_upto_region 3 with fail
  go_cut [36] from 18 to 36 (fun s36 wx => s36 = .bool false ∧ Below w2.heap.size w2 wx)
  case first =>
    refine wp_region_by (by kernel_rfl) (Phi [.val (nv E1 p1 q1 E2 p2 q2 E3 p3 q3), .val (.bool mb), .val (nv E1 p1 q1 E2 p2 q2 E3 p3 q3), .val (.bool mb), .val (.bool false), .val (.bool false), .val (.string t), .val (.bool kb), .val (.string t), .val (.bool kb), .val (.bool false), .val (.bool false), .val (.bool false), .val (.string t), .val (.bool vb), .val (.string t), .val (.bool vb), .val (.bool false), .val (.bool false)]) (phi_stab _) (by kernel_rfl) ?step3 ?fin3
    case step3 =>
      intro i o listed a1 w2 ho hk hdep
      have hi : i < 19 := (Array.getElem?_eq_some_iff.1 ho).1
      have e1 := ev (show a1.eval (.tmp 1) = .string t from hk.frame 1 (frame_of (by kernel_rfl)))
      have e2 := ev (show a1.eval (.tmp 2) = .pointer (some ⟨w.heap.size, 0, none⟩) from hk.frame 2 (frame_of (by kernel_rfl)))
      obtain ⟨k0, k1, k2, -⟩ := (HT2.out.next hk.below).b2.cells
      have hii : i = 0 ∨ i = 1 ∨ i = 2 ∨ i = 3 ∨ i = 4 ∨ i = 5 ∨ i = 6 ∨ i = 7 ∨ i = 8 ∨ i = 9 ∨ i = 10 ∨ i = 11 ∨ i = 12 ∨ i = 13 ∨ i = 14 ∨ i = 15 ∨ i = 16 ∨ i = 17 ∨ i = 18 := by omega
      rcases hii with rfl | rfl | rfl | rfl | rfl | rfl | rfl | rfl | rfl | rfl | rfl | rfl | rfl | rfl | rfl | rfl | rfl | rfl | rfl
      · cases ho
        refine wpOp_of rfl rfl (wp_value (v := nv E1 p1 q1 E2 p2 q2 E3 p3 q3) ?_ rfl)
        go_simp
      · cases ho
        have d0 := ev (show a1.eval (.tmp 18) = nv E1 p1 q1 E2 p2 q2 E3 p3 q3 from hk.done 0 _ 18 rfl rfl (hdep ⟨0, .data⟩ (by simp) rfl))
        refine wpOp_of rfl rfl ?_
        go_simp
        refine (HMa.out w2 hk.below).mono ?_
        rintro e w3 ⟨rfl, hb2⟩
        exact ⟨_, rfl, rfl, hb2⟩
      · cases ho
        refine wpOp_of rfl rfl (wp_value (v := nv E1 p1 q1 E2 p2 q2 E3 p3 q3) ?_ rfl)
        go_simp
      · cases ho
        have d2 := ev (show a1.eval (.tmp 20) = nv E1 p1 q1 E2 p2 q2 E3 p3 q3 from hk.done 2 _ 20 rfl rfl (hdep ⟨2, .data⟩ (by simp) rfl))
        refine wpOp_of rfl rfl ?_
        go_simp
        refine (HMb.out w2 hk.below).mono ?_
        rintro e w3 ⟨rfl, hb2⟩
        exact ⟨_, rfl, rfl, hb2⟩
      · cases ho
        have d1 := ev (show a1.eval (.tmp 19) = .bool mb from hk.done 1 _ 19 rfl rfl (hdep ⟨1, .data⟩ (by simp) rfl))
        have d3 := ev (show a1.eval (.tmp 21) = .bool mb from hk.done 3 _ 21 rfl rfl (hdep ⟨3, .data⟩ (by simp) rfl))
        refine wpOp_of rfl rfl (wp_value (v := .bool false) ?_ rfl)
        go_simp
      · cases ho
        have d4 := ev (show a1.eval (.tmp 22) = .bool false from hk.done 4 _ 22 rfl rfl (hdep ⟨4, .data⟩ (by simp) rfl))
        refine wpOp_of rfl rfl (wp_value (v := .bool false) ?_ rfl)
        simp [execOp, d4, Act.eval]
      · cases ho
        refine wpOp_of rfl (wanted_of (t := 23) rfl rfl (hk.done 5 _ 23 rfl rfl (hdep ⟨5, .guard⟩ (by simp) rfl))) (wp_value (v := .string t) ?_ rfl)
        simp [execOp, e1, Act.eval]
      · cases ho
        have d6 := ev (show a1.eval (.tmp 24) = .string t from hk.done 6 _ 24 rfl rfl (hdep ⟨6, .data⟩ (by simp) rfl))
        refine wpOp_of rfl (wanted_of (t := 23) rfl rfl (hk.done 5 _ 23 rfl rfl (hdep ⟨5, .guard⟩ (by simp) rfl))) ?_
        go_simp
        refine (HK.out w2).mono ?_
        rintro e w3 ⟨rfl, rfl⟩
        exact ⟨_, rfl, rfl, Below.refl _ _⟩
      · cases ho
        refine wpOp_of rfl (wanted_of (t := 23) rfl rfl (hk.done 5 _ 23 rfl rfl (hdep ⟨5, .guard⟩ (by simp) rfl))) (wp_value (v := .string t) ?_ rfl)
        simp [execOp, e1, Act.eval]
      · cases ho
        have d8 := ev (show a1.eval (.tmp 26) = .string t from hk.done 8 _ 26 rfl rfl (hdep ⟨8, .data⟩ (by simp) rfl))
        refine wpOp_of rfl (wanted_of (t := 23) rfl rfl (hk.done 5 _ 23 rfl rfl (hdep ⟨5, .guard⟩ (by simp) rfl))) ?_
        go_simp
        refine (HKr.out w2).mono ?_
        rintro e w3 ⟨rfl, rfl⟩
        exact ⟨_, rfl, rfl, Below.refl _ _⟩
      · cases ho
        have d7 := ev (show a1.eval (.tmp 25) = .bool kb from hk.done 7 _ 25 rfl rfl (hdep ⟨7, .data⟩ (by simp) rfl))
        have d9 := ev (show a1.eval (.tmp 27) = .bool kb from hk.done 9 _ 27 rfl rfl (hdep ⟨9, .data⟩ (by simp) rfl))
        refine wpOp_of rfl (wanted_of (t := 23) rfl rfl (hk.done 5 _ 23 rfl rfl (hdep ⟨5, .guard⟩ (by simp) rfl))) (wp_value (v := .bool false) ?_ rfl)
        go_simp
      · cases ho
        have d5 := ev (show a1.eval (.tmp 23) = .bool false from hk.done 5 _ 23 rfl rfl (hdep ⟨5, .data⟩ (by simp) rfl))
        have d10 := ev (show a1.eval (.tmp 28) = .bool false from hk.done 10 _ 28 rfl rfl (hdep ⟨10, .data⟩ (by simp) rfl))
        refine wpOp_of rfl rfl (wp_value (v := .bool false) ?_ rfl)
        go_simp
      · cases ho
        have d11 := ev (show a1.eval (.tmp 29) = .bool false from hk.done 11 _ 29 rfl rfl (hdep ⟨11, .data⟩ (by simp) rfl))
        refine wpOp_of rfl rfl (wp_value (v := .bool false) ?_ rfl)
        simp [execOp, d11, Act.eval]
      · cases ho
        refine wpOp_of rfl (wanted_of (t := 30) rfl rfl (hk.done 12 _ 30 rfl rfl (hdep ⟨12, .guard⟩ (by simp) rfl))) (wp_value (v := .string t) ?_ rfl)
        simp [execOp, e1, Act.eval]
      · cases ho
        have d13 := ev (show a1.eval (.tmp 31) = .string t from hk.done 13 _ 31 rfl rfl (hdep ⟨13, .data⟩ (by simp) rfl))
        refine wpOp_of rfl (wanted_of (t := 30) rfl rfl (hk.done 12 _ 30 rfl rfl (hdep ⟨12, .guard⟩ (by simp) rfl))) ?_
        go_simp
        refine (HV.out w2).mono ?_
        rintro e w3 ⟨rfl, rfl⟩
        exact ⟨_, rfl, rfl, Below.refl _ _⟩
      · cases ho
        refine wpOp_of rfl (wanted_of (t := 30) rfl rfl (hk.done 12 _ 30 rfl rfl (hdep ⟨12, .guard⟩ (by simp) rfl))) (wp_value (v := .string t) ?_ rfl)
        simp [execOp, e1, Act.eval]
      · cases ho
        have d15 := ev (show a1.eval (.tmp 33) = .string t from hk.done 15 _ 33 rfl rfl (hdep ⟨15, .data⟩ (by simp) rfl))
        refine wpOp_of rfl (wanted_of (t := 30) rfl rfl (hk.done 12 _ 30 rfl rfl (hdep ⟨12, .guard⟩ (by simp) rfl))) ?_
        go_simp
        refine (HVr.out w2).mono ?_
        rintro e w3 ⟨rfl, rfl⟩
        exact ⟨_, rfl, rfl, Below.refl _ _⟩
      · cases ho
        have d14 := ev (show a1.eval (.tmp 32) = .bool vb from hk.done 14 _ 32 rfl rfl (hdep ⟨14, .data⟩ (by simp) rfl))
        have d16 := ev (show a1.eval (.tmp 34) = .bool vb from hk.done 16 _ 34 rfl rfl (hdep ⟨16, .data⟩ (by simp) rfl))
        refine wpOp_of rfl (wanted_of (t := 30) rfl rfl (hk.done 12 _ 30 rfl rfl (hdep ⟨12, .guard⟩ (by simp) rfl))) (wp_value (v := .bool false) ?_ rfl)
        go_simp
      · cases ho
        have d12 := ev (show a1.eval (.tmp 30) = .bool false from hk.done 12 _ 30 rfl rfl (hdep ⟨12, .data⟩ (by simp) rfl))
        have d17 := ev (show a1.eval (.tmp 35) = .bool false from hk.done 17 _ 35 rfl rfl (hdep ⟨17, .data⟩ (by simp) rfl))
        refine wpOp_of rfl rfl (wp_value (v := .bool false) ?_ rfl)
        go_simp
    case fin3 =>
      intro listed a2 w2 hk hall
      have h36 : a2.eval (.tmp 36) = .bool false := hk.done 18 _ 36 rfl rfl (hall 18 (by decide))
      have hact := kept_all [18, 19, 20, 21, 22, 23, 24, 25, 26, 27, 28, 29, 30, 31, 32, 33, 34, 35, 36] hk (by kernel_rfl)
      have HB := Lib.hid hk.below
      simp only [List.foldl_cons, List.foldl_nil, List.setIfInBounds_toArray, List.set_cons_succ, List.set_cons_zero] at hact
      generalize a2.eval (.tmp 18) = u18 at hact
      generalize a2.eval (.tmp 19) = u19 at hact
      generalize a2.eval (.tmp 20) = u20 at hact
      generalize a2.eval (.tmp 21) = u21 at hact
      generalize a2.eval (.tmp 22) = u22 at hact
      generalize a2.eval (.tmp 23) = u23 at hact
      generalize a2.eval (.tmp 24) = u24 at hact
      generalize a2.eval (.tmp 25) = u25 at hact
      generalize a2.eval (.tmp 26) = u26 at hact
      generalize a2.eval (.tmp 27) = u27 at hact
      generalize a2.eval (.tmp 28) = u28 at hact
      generalize a2.eval (.tmp 29) = u29 at hact
      generalize a2.eval (.tmp 30) = u30 at hact
      generalize a2.eval (.tmp 31) = u31 at hact
      generalize a2.eval (.tmp 32) = u32 at hact
      generalize a2.eval (.tmp 33) = u33 at hact
      generalize a2.eval (.tmp 34) = u34 at hact
      generalize a2.eval (.tmp 35) = u35 at hact
      generalize a2.eval (.tmp 36) = u36 at hact h36
      rw [hact]
      clear hact
      go_wp2
      go_meet
      first | exact ⟨h36, HB.out⟩ | exact ⟨rfl, HB.out⟩
  case rest =>
  obtain ⟨rfl, hbx⟩ := hcut
  obtain ⟨w4, rfl⟩ : ∃ x, x = wc := ⟨wc, rfl⟩
  have HT4 := Lib.hid (HT2.out.next hbx)
  have HMc := Lib.hid (HMb.out w4 hbx)
  have HB4 : Hid (Below w2.heap.size w2 w4) := hbx
  clear hbx HMa HMb HK HKr HV HVr
  obtain ⟨k0, k1, k2, -⟩ := HT4.out.b2.cells
  cases mb with
  | false =>
    obtain rfl : f6 = 1 := by rw [HF6.out]; rfl
    obtain rfl : n7 = 0 := HNo7.out (by first | trivial | rfl)
    go_wp2_with fail
    refine HMc.out.mono ?_
    rintro e w5 ⟨rfl, hb5⟩
    have HZ5 := Lib.hid (HT4.out.next hb5).bl
    clear hb5 k0 k1 k2
    go_wp2_with fail
    refine (awake_any _).mono ?_
    rintro e w6 ⟨rfl, hb6⟩
    have HZ6 := Lib.hid (step' HZ5.out hb6 HZ5.out.size)
    clear hb6
    go_wp2_with fail
    go_ret
    exact ⟨rfl, HZ6.out⟩
  | true =>
    obtain rfl : f6 = 0 := by rw [HF6.out]; rfl
    obtain ⟨ho7, rfl⟩ := HY7.out (by first | trivial | rfl)
    have hmy : mayB N = true := HMB.out.symm
    have HO7 : Hid (Octs w2 w2.heap.size A7 (pageL N)) := octs_of_own (c := c7) (by rw [page_len hmy]; exact ho7)
    have hc7 : 512 ≤ c7 := by
      obtain ⟨A', c', e, -, hc⟩ := own_sl (show Own w2 W1.heap.size (.slice A7 (pageL N).length c7) (pageL N) by rw [page_len hmy]; exact ho7)
      injection e with _ _ e
      rw [page_len hmy] at hc
      omega
    have HMY := Lib.hid hmy
    clear ho7 hmy
    go_wp2_with fail
    refine HMc.out.mono ?_
    rintro e w5 ⟨rfl, hb5⟩
    have HT5 := Lib.hid (HT4.out.next hb5)
    have HB25 : Hid (Below w2.heap.size w2 w5) := step' HB4.out hb5 HB4.out.size
    have HD := Lib.hid (dec_any A7 (pageL N) 512 c7 w5.heap.size w5 ((HO7.out.below HB25.out (Nat.le_refl _)).more HB25.out.size) (Nat.le_refl _) (page_len HMY.out) hc7)
    rw [dec_page HMY.out] at HD
    clear hb5 k0 k1 k2
    go_wp2_with fail
    refine HD.out.mono ?_
    rintro e w6' ⟨G1, g1, u1, G2, g2, u2, G3, g3, u3, rfl, hn6, hb6⟩
    obtain ⟨z7, hz7⟩ : ∃ z, z = w6'.heap.size := ⟨_, rfl⟩
    obtain ⟨W6, hW6⟩ : ∃ W6, W6 = w6'.alloc (.cells #[.slice G1 g1 u1, .slice G2 g2 u2, .slice G3 g3 u3] 26) := ⟨_, rfl⟩
    have hbA : Below w6'.heap.size w6' W6 := by rw [hW6]; exact (Below.refl _ _).alloc (Nat.le_refl _) _
    have HT6 := Lib.hid ((HT5.out.next hb6).next hbA)
    have HBx : Hid (BoxN z7 G1 g1 u1 G2 g2 u2 G3 g3 u3 W6) := by rw [hW6, hz7]; exact boxN_new w6' ..
    have hz6 : z7 < W6.heap.size := by rw [hW6, alloc_size, hz7]; omega
    have HN6 : Hid (IsN W6 W6.heap.size N G1 g1 u1 G2 g2 u2 G3 g3 u3) := (hn6.below hbA (Nat.le_refl _)).more hbA.size
    have HB26 : Hid (Below w2.heap.size w2 W6) := step' (step' HB25.out hb6 HB25.out.size) hbA (by have := HB25.out.size; have := hb6.size; omega)
    have HZ6 := Lib.hid HT6.out.bl
    have HCV : Hid (∀ W, Below W6.heap.size W6 W → (convert 29 9 (.slice A7 512 c7)).run Try.prog W = .ok (.string (text (pageL N))) W) := fun W hW => by
      have := octs_text (c := c7) ((HO7.out.below HB26.out (Nat.le_refl _)).below hW HB26.out.size)
      rw [page_len HMY.out] at this
      exact this
    have HRE : Hid (∀ W, Below W6.heap.size W6 W → Calls Try.prog 18 #[nv E1 p1 q1 E2 p2 q2 E3 p3 q3] W fun e w' => e = .returned (.string (text (pageL N))) ∧ Below W.heap.size W w') := fun W hW => renc_any N E1 p1 q1 E2 p2 q2 E3 p3 q3 W (HT6.out.next hW).n2' HMY.out
    have HSm : Hid (∀ W, Below W6.heap.size W6 W → Calls Try.prog 19 #[nv G1 g1 u1 G2 g2 u2 G3 g3 u3, nv E1 p1 q1 E2 p2 q2 E3 p3 q3] W fun e w' => e = .returned (.bool true) ∧ Below W.heap.size W w') := fun W hW => by
      have := same_any N N G1 g1 u1 G2 g2 u2 G3 g3 u3 E1 p1 q1 E2 p2 q2 E3 p3 q3 W ((HN6.out.below hW (Nat.le_refl _)).more hW.size) (HT6.out.next hW).n2'
      rwa [decide_eq_true (rfl : N = N)] at this
    obtain ⟨Ts, hTs⟩ : ∃ t, t = text (pageL N) := ⟨_, rfl⟩
    rw [← hTs] at HCV HRE
    have HW6 := Lib.hid hW6
    have HZ7 := Lib.hid hz7
    clear hb6 hn6 hW6 hbA hTs hz7 HF6 HY7 HNo7 HD HMc
    go_upto_region 8 with fail
    rw [← HW6.out, ← HZ7.out]
    refine wp_region_by (by kernel_rfl) (Phi [.val (.slice A7 512 c7), .val (.string Ts), .val (nv E1 p1 q1 E2 p2 q2 E3 p3 q3), .val (.string Ts), .val (.bool true), .val (.bool true), .val (.int .i64 0), .val (.bool true), .val (.bool true), .val (.bool true), .val (nv G1 g1 u1 G2 g2 u2 G3 g3 u3), .val (nv E1 p1 q1 E2 p2 q2 E3 p3 q3), .val (.bool true), .val (.bool true), .val (.bool true), .val (.int .i64 0), .val (.bool true), .val (.bool true), .val (.bool true), .val (.bool true), .val (.bool true), .val (.bool true)]) (phi_stab _) (by kernel_rfl) ?step8 ?fin8
    case step8 =>
      intro i o listed a1 w2 ho hk hdep
      have hi : i < 22 := (Array.getElem?_eq_some_iff.1 ho).1
      have e2 := ev (show a1.eval (.tmp 2) = .pointer (some ⟨w.heap.size, 0, none⟩) from hk.frame 2 (frame_of (by kernel_rfl)))
      have e5 := ev (show a1.eval (.tmp 5) = .slice A7 512 c7 from hk.frame 5 (frame_of (by kernel_rfl)))
      have e6 := ev (show a1.eval (.tmp 6) = .int .i64 0 from hk.frame 6 (frame_of (by kernel_rfl)))
      have e7 := ev (show a1.eval (.tmp 7) = .pointer (some ⟨z7, 0, none⟩) from hk.frame 7 (frame_of (by kernel_rfl)))
      have e8 := ev (show a1.eval (.tmp 8) = .int .i64 0 from hk.frame 8 (frame_of (by kernel_rfl)))
      obtain ⟨k0, k1, k2, -⟩ := (HT6.out.next hk.below).b2.cells
      obtain ⟨j0, j1, j2, -⟩ := (HBx.out.below hk.below hz6).cells
      have z1 := HCV.out w2 hk.below
      have hTT : (Ts.toList == Ts.toList) = true := by simp
      have hii : i = 0 ∨ i = 1 ∨ i = 2 ∨ i = 3 ∨ i = 4 ∨ i = 5 ∨ i = 6 ∨ i = 7 ∨ i = 8 ∨ i = 9 ∨ i = 10 ∨ i = 11 ∨ i = 12 ∨ i = 13 ∨ i = 14 ∨ i = 15 ∨ i = 16 ∨ i = 17 ∨ i = 18 ∨ i = 19 ∨ i = 20 ∨ i = 21 := by omega
      rcases hii with rfl | rfl | rfl | rfl | rfl | rfl | rfl | rfl | rfl | rfl | rfl | rfl | rfl | rfl | rfl | rfl | rfl | rfl | rfl | rfl | rfl | rfl
      · cases ho
        refine wpOp_of rfl rfl (wp_value (v := .slice A7 512 c7) ?_ rfl)
        simp [execOp, e5, Act.eval]
      · cases ho
        have d0 := ev (show a1.eval (.tmp 55) = .slice A7 512 c7 from hk.done 0 _ 55 rfl rfl (hdep ⟨0, .data⟩ (by simp) rfl))
        refine wpOp_of rfl rfl (wp_value (v := .string Ts) ?_ rfl)
        go_simp
      · cases ho
        refine wpOp_of rfl rfl (wp_value (v := nv E1 p1 q1 E2 p2 q2 E3 p3 q3) ?_ rfl)
        go_simp
      · cases ho
        have d2 := ev (show a1.eval (.tmp 57) = nv E1 p1 q1 E2 p2 q2 E3 p3 q3 from hk.done 2 _ 57 rfl rfl (hdep ⟨2, .data⟩ (by simp) rfl))
        refine wpOp_of rfl rfl ?_
        go_simp
        refine (HRE.out w2 hk.below).mono ?_
        rintro e w3 ⟨rfl, hb2⟩
        exact ⟨_, rfl, rfl, hb2⟩
      · cases ho
        have d1 := ev (show a1.eval (.tmp 56) = .string Ts from hk.done 1 _ 56 rfl rfl (hdep ⟨1, .data⟩ (by simp) rfl))
        have d3 := ev (show a1.eval (.tmp 58) = .string Ts from hk.done 3 _ 58 rfl rfl (hdep ⟨3, .data⟩ (by simp) rfl))
        refine wpOp_of rfl rfl (wp_value (v := .bool true) ?_ rfl)
        go_simp
      · cases ho
        have d4 := ev (show a1.eval (.tmp 59) = .bool true from hk.done 4 _ 59 rfl rfl (hdep ⟨4, .data⟩ (by simp) rfl))
        refine wpOp_of rfl rfl (wp_value (v := .bool true) ?_ rfl)
        simp [execOp, d4, Act.eval]
      · cases ho
        refine wpOp_of rfl (wanted_of (t := 60) rfl rfl (hk.done 5 _ 60 rfl rfl (hdep ⟨5, .guard⟩ (by simp) rfl))) (wp_value (v := .int .i64 0) ?_ rfl)
        simp [execOp, e6, Act.eval]
      · cases ho
        have d6 := ev (show a1.eval (.tmp 61) = .int .i64 0 from hk.done 6 _ 61 rfl rfl (hdep ⟨6, .data⟩ (by simp) rfl))
        refine wpOp_of rfl (wanted_of (t := 60) rfl rfl (hk.done 5 _ 60 rfl rfl (hdep ⟨5, .guard⟩ (by simp) rfl))) (wp_value (v := .bool true) ?_ rfl)
        go_simp
      · cases ho
        have d5 := ev (show a1.eval (.tmp 60) = .bool true from hk.done 5 _ 60 rfl rfl (hdep ⟨5, .data⟩ (by simp) rfl))
        have d7 := ev (show a1.eval (.tmp 62) = .bool true from hk.done 7 _ 62 rfl rfl (hdep ⟨7, .data⟩ (by simp) rfl))
        refine wpOp_of rfl rfl (wp_value (v := .bool true) ?_ rfl)
        go_simp
      · cases ho
        have d8 := ev (show a1.eval (.tmp 63) = .bool true from hk.done 8 _ 63 rfl rfl (hdep ⟨8, .data⟩ (by simp) rfl))
        refine wpOp_of rfl rfl (wp_value (v := .bool true) ?_ rfl)
        simp [execOp, d8, Act.eval]
      · cases ho
        refine wpOp_of rfl (wanted_of (t := 64) rfl rfl (hk.done 9 _ 64 rfl rfl (hdep ⟨9, .guard⟩ (by simp) rfl))) (wp_value (v := nv G1 g1 u1 G2 g2 u2 G3 g3 u3) ?_ rfl)
        go_simp
      · cases ho
        refine wpOp_of rfl (wanted_of (t := 64) rfl rfl (hk.done 9 _ 64 rfl rfl (hdep ⟨9, .guard⟩ (by simp) rfl))) (wp_value (v := nv E1 p1 q1 E2 p2 q2 E3 p3 q3) ?_ rfl)
        go_simp
      · cases ho
        have d10 := ev (show a1.eval (.tmp 65) = nv G1 g1 u1 G2 g2 u2 G3 g3 u3 from hk.done 10 _ 65 rfl rfl (hdep ⟨10, .data⟩ (by simp) rfl))
        have d11 := ev (show a1.eval (.tmp 66) = nv E1 p1 q1 E2 p2 q2 E3 p3 q3 from hk.done 11 _ 66 rfl rfl (hdep ⟨11, .data⟩ (by simp) rfl))
        refine wpOp_of rfl (wanted_of (t := 64) rfl rfl (hk.done 9 _ 64 rfl rfl (hdep ⟨9, .guard⟩ (by simp) rfl))) ?_
        go_simp
        refine (HSm.out w2 hk.below).mono ?_
        rintro e w3 ⟨rfl, hb2⟩
        exact ⟨_, rfl, rfl, hb2⟩
      · cases ho
        have d9 := ev (show a1.eval (.tmp 64) = .bool true from hk.done 9 _ 64 rfl rfl (hdep ⟨9, .data⟩ (by simp) rfl))
        have d12 := ev (show a1.eval (.tmp 67) = .bool true from hk.done 12 _ 67 rfl rfl (hdep ⟨12, .data⟩ (by simp) rfl))
        refine wpOp_of rfl rfl (wp_value (v := .bool true) ?_ rfl)
        go_simp
      · cases ho
        have d13 := ev (show a1.eval (.tmp 68) = .bool true from hk.done 13 _ 68 rfl rfl (hdep ⟨13, .data⟩ (by simp) rfl))
        refine wpOp_of rfl rfl (wp_value (v := .bool true) ?_ rfl)
        simp [execOp, d13, Act.eval]
      · cases ho
        refine wpOp_of rfl (wanted_of (t := 69) rfl rfl (hk.done 14 _ 69 rfl rfl (hdep ⟨14, .guard⟩ (by simp) rfl))) (wp_value (v := .int .i64 0) ?_ rfl)
        simp [execOp, e8, Act.eval]
      · cases ho
        have d15 := ev (show a1.eval (.tmp 70) = .int .i64 0 from hk.done 15 _ 70 rfl rfl (hdep ⟨15, .data⟩ (by simp) rfl))
        refine wpOp_of rfl (wanted_of (t := 69) rfl rfl (hk.done 14 _ 69 rfl rfl (hdep ⟨14, .guard⟩ (by simp) rfl))) (wp_value (v := .bool true) ?_ rfl)
        go_simp
      · cases ho
        have d14 := ev (show a1.eval (.tmp 69) = .bool true from hk.done 14 _ 69 rfl rfl (hdep ⟨14, .data⟩ (by simp) rfl))
        have d16 := ev (show a1.eval (.tmp 71) = .bool true from hk.done 16 _ 71 rfl rfl (hdep ⟨16, .data⟩ (by simp) rfl))
        refine wpOp_of rfl rfl (wp_value (v := .bool true) ?_ rfl)
        go_simp
      · cases ho
        have d17 := ev (show a1.eval (.tmp 72) = .bool true from hk.done 17 _ 72 rfl rfl (hdep ⟨17, .data⟩ (by simp) rfl))
        refine wpOp_of rfl rfl (wp_value (v := .bool true) ?_ rfl)
        simp [execOp, d17, Act.eval]
      · cases ho
        refine wpOp_of rfl (wanted_of (t := 73) rfl rfl (hk.done 18 _ 73 rfl rfl (hdep ⟨18, .guard⟩ (by simp) rfl))) ?_
        go_simp
        refine (awake_any w2).mono ?_
        rintro e w3 ⟨rfl, hb2⟩
        exact ⟨_, rfl, rfl, hb2⟩
      · cases ho
        have d18 := ev (show a1.eval (.tmp 73) = .bool true from hk.done 18 _ 73 rfl rfl (hdep ⟨18, .data⟩ (by simp) rfl))
        have d19 := ev (show a1.eval (.tmp 74) = .bool true from hk.done 19 _ 74 rfl rfl (hdep ⟨19, .data⟩ (by simp) rfl))
        refine wpOp_of rfl rfl (wp_value (v := .bool true) ?_ rfl)
        go_simp
      · cases ho
        have d20 := ev (show a1.eval (.tmp 75) = .bool true from hk.done 20 _ 75 rfl rfl (hdep ⟨20, .data⟩ (by simp) rfl))
        refine wpOp_of rfl rfl (wp_value (v := .bool true) ?_ rfl)
        simp [execOp, d20, Act.eval]
    case fin8 =>
      intro listed a2 w2 hk hall
      have h0 : a2.eval (.tmp 4) = .bool true := hk.done 21 _ 4 rfl rfl (hall 21 (by decide))
      have hB := HZ6.out.trans (hk.below.mono HZ6.out.size)
      have e0 := ev h0
      go_wp2
      refine bodyPost_ret (v := .bool true) (by simp [results, Try.results3, go_sem, e0]) hk.defers ⟨rfl, hB⟩
theorem encodes_any (n : Nd) (A1 : Option Addr) (n1 c1 : Nat) (A2 : Option Addr) (n2 c2 : Nat) (A3 : Option Addr) (n3 c3 : Nat) (s : ByteArray) (w : World) (h : IsN w w.heap.size n A1 n1 c1 A2 n2 c2 A3 n3 c3) (_hs : s.size ≤ 9223372036854775807) :
    Calls Try.prog 3 #[nv A1 n1 c1 A2 n2 c2 A3 n3 c3, .string s] w fun e w' => e = .returned (.bool true) ∧ Below w.heap.size w w' := by
  have := encodes_at n A1 n1 c1 A2 n2 c2 A3 n3 c3 s.data.toList w h
  rwa [text_of] at this
end Go.Proofs.Ytckbehojcjhcgaa.Nod
