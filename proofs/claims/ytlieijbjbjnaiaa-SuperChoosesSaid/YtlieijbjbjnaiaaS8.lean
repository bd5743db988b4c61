/- Contracts: the document's Decode. -/
import Derived.Test.YtlieijbjbjnaiaaS5
import Derived.Test.YtlieijbjbjnaiaaS7
import Derived.Test.YtlieijbjbjnaiaaAnyD
namespace Go.Proofs.Ytlieijbjbjnaiaa.Sup
open Go.RowKit Crc Chk Frm Fra

theorem text_ext (l : List UInt8) (i j : Nat) : (text l).extract i j = text ((l.drop i).take (j - i)) := by
  apply ByteArray.ext
  simp [text, List.extract_eq_take_drop]
theorem one_at {l : List UInt8} (h : l.length = 64) : (l.drop 10).take 1 = [l[10]] := by
  rw [List.drop_eq_getElem_cons (by omega : 10 < l.length), List.take_succ_cons, List.take_zero]
theorem num_one (b : UInt8) : num [b] = b.toNat := by simp [num, numFrom]
theorem rdec_short (t : ByteArray) (w : World) (h : t.size ≠ 64) :
    Calls Try.prog 11 #[.string t] w (DecD w (Sp.nil, 3)) := by
  have h1 : ((t.size : Int) != 64) = true := by simp; omega
  go_enter Try.func11, Try.ntmps11
  go_wp2_with fail
  refine bodyPost_ret (v := .tuple #[sv Sp.nil, .int .i64 3]) (by simp [results, Try.results11, go_sem, Sp.nil]) rfl ⟨rfl, ?_⟩
  exact (Below.refl _ _).alloc (Nat.le_refl _) _
theorem rdec_sum (l : List UInt8) (w : World) (hl : l.length = 64) (hs : soundB l = false) :
    Calls Try.prog 11 #[.string (text l)] w (DecD w (Sp.nil, 6)) := by
  obtain ⟨e, l1, l2⟩ := sum_split hl
  have HX : Hid (∀ W, Calls Try.prog 28 #[.string (text l)] W fun e w' => e = .returned (.tuple #[.string (text []), .int .i64 6]) ∧ Below W.heap.size W w') := fun W => by
    have := ropen_no (l.take 60) (l.drop 60) W l2 (by omega) (fun e2 => by unfold soundB at hs; rw [decide_eq_true e2] at hs; cases hs)
    rwa [e] at this
  have HB0 : Hid (Below w.heap.size w (w.alloc (.cells #[.int .i64 0, .int .i64 0, .int .i64 0, .int .i64 0] 23))) := (Below.refl _ _).alloc (Nat.le_refl _) _
  have HZ := Lib.hid (boxH_zero w)
  have hz : (text l).size = 64 := by rw [text_size, hl]
  obtain ⟨t, ht⟩ : ∃ t, t = text l := ⟨_, rfl⟩
  rw [← ht] at HX hz ⊢
  clear e l1 l2 hs hl ht
  go_enter Try.func11, Try.ntmps11
  go_wp2_with fail
  refine (HX.out _).mono ?_
  rintro e w1 ⟨rfl, hb1⟩
  have HZ1 := Lib.hid (HZ.out.below hb1 (by rw [alloc_size]; omega))
  have HB1 := Lib.hid (below_box hb1)
  clear hb1
  obtain ⟨k0, k1, k2, k3, k4⟩ := HZ1.out.cells
  dsimp only [Sp.nil] at k0 k1 k2 k3
  go_wp2_with fail
  refine bodyPost_ret (v := .tuple #[sv Sp.nil, .int .i64 6]) (by simp [results, Try.results11, go_sem, Sp.nil, k0, k1, k2, k3]) rfl ⟨rfl, ?_⟩
  exact st4s_below HB1.out (Nat.le_refl _) Sp.nil
set_option maxRecDepth 20000 in
set_option maxHeartbeats 3200000 in
theorem rdec_go (l : List UInt8) (w : World) (hl : l.length = 64) (hs : soundB l = true) :
    Calls Try.prog 11 #[.string (text l)] w (DecD w (decS l)) := by
  obtain ⟨e, l1, l2⟩ := sum_split hl
  have HX : Hid (∀ W, Calls Try.prog 28 #[.string (text l)] W fun e w' => e = .returned (.tuple #[.string (text (l.take 60)), .int .i64 0]) ∧ Below W.heap.size W w') := fun W => by
    have := ropen_yes (l.take 60) (l.drop 60) W l2 (by omega) (by unfold soundB at hs; exact of_decide_eq_true hs)
    rwa [e] at this
  have HB0 : Hid (Below w.heap.size w (w.alloc (.cells #[.int .i64 0, .int .i64 0, .int .i64 0, .int .i64 0] 23))) := (Below.refl _ _).alloc (Nat.le_refl _) _
  have HZ := Lib.hid (boxH_zero w)
  obtain ⟨s, hse⟩ : ∃ s, s = partS l := ⟨_, rfl⟩
  have N1 : Hid (∀ W, Calls Try.prog 29 #[.string ((text l).extract 4 10)] W fun e w' => e = .returned (.int .i64 s.g) ∧ W = w') := fun W => by
    rw [text_ext, hse]; exact rget_any ((l.drop 4).take 6) W (by simp; omega)
  have N3 : Hid (∀ W, Calls Try.prog 29 #[.string ((text l).extract 11 17)] W fun e w' => e = .returned (.int .i64 s.n) ∧ W = w') := fun W => by
    rw [text_ext, hse]; exact rget_any ((l.drop 11).take 6) W (by simp; omega)
  have N4 : Hid (∀ W, Calls Try.prog 29 #[.string ((text l).extract 17 19)] W fun e w' => e = .returned (.int .i64 s.p) ∧ W = w') := fun W => by
    rw [text_ext, hse]; exact rget_any ((l.drop 17).take 2) W (by simp; omega)
  have hz : (text l).size = 64 := by rw [text_size, hl]
  have HNE : Hid ((!(text (encS s)).toList == (text l).toList) = !decide (encS s = l)) := by
    show _ = _
    rw [text_toList, text_toList]
    congr 1
    rw [Bool.eq_iff_iff]; simp
  have HB : Hid (∃ b : UInt8, ∀ h : 10 < (text l).size, (text l)[10] = b ∧ (b.toNat : Int) = s.h) := ⟨l[10], fun h => ⟨by simp [text, ByteArray.getElem_eq_getElem_data], by
    rw [hse]; unfold partS; dsimp only; rw [one_at hl, num_one]⟩⟩
  have HSE := Lib.hid hse
  have HS := Lib.hid hs
  have HL := Lib.hid hl
  obtain ⟨t, ht⟩ : ∃ t, t = text l := ⟨_, rfl⟩
  rw [← ht] at HX hz N1 N3 N4 HNE HB ⊢
  obtain ⟨b, hbb⟩ := HB.out
  obtain ⟨hb1, hb2⟩ := hbb (by omega)
  have hb8 := UInt8.toNat_lt b
  have HTT := Lib.hid ht
  clear e l1 l2 hs hl hse HB hbb ht
  go_enter Try.func11, Try.ntmps11
  go_wp2_with fail
  refine (HX.out _).mono ?_
  rintro e w1 ⟨rfl, hbx⟩
  have HZ1 := Lib.hid (HZ.out.below hbx (by rw [alloc_size]; omega))
  have HB1 := Lib.hid (below_box hbx)
  have hz1 : w.heap.size < w1.heap.size := by have := hbx.size; rw [alloc_size] at this; omega
  clear hbx
  go_wp2_with fail
  obtain ⟨X, hX0, hX1, hX2⟩ : ∃ X : Nat → World, X 0 = { w1 with drawn := w1.drawn + 1 } ∧ X 1 = ({ w1 with drawn := w1.drawn + 1 } : World).alloc (.cells #[.int .i64 0, .int .i64 0, .int .i64 0, .int .i64 0] 23) ∧ X 2 = st4s (({ w1 with drawn := w1.drawn + 1 } : World).alloc (.cells #[.int .i64 0, .int .i64 0, .int .i64 0, .int .i64 0] 23)) w1.heap.size s := ⟨fun k => match k with | 0 => { w1 with drawn := w1.drawn + 1 } | 1 => ({ w1 with drawn := w1.drawn + 1 } : World).alloc (.cells #[.int .i64 0, .int .i64 0, .int .i64 0, .int .i64 0] 23) | _ => st4s (({ w1 with drawn := w1.drawn + 1 } : World).alloc (.cells #[.int .i64 0, .int .i64 0, .int .i64 0, .int .i64 0] 23)) w1.heap.size s, rfl, rfl, rfl⟩
  have HX0 := Lib.hid hX0
  have HR1 : Hid (BoxH w1.heap.size Sp.nil (X 1)) := by rw [hX1]; exact boxH_zero _
  have HR2 : Hid (BoxH w1.heap.size s (X 2)) := by rw [hX2]; exact BoxH.st4 (by rw [← hX1]; exact HR1.out) s
  have HXB : Hid (Below w1.heap.size w1 (X 2)) := by
    rw [hX2]
    exact st4s_below (Below.alloc (B := w1.heap.size) (a := w1) (w := { w1 with drawn := w1.drawn + 1 }) ⟨rfl, rfl, rfl, Nat.le_refl _, fun _ _ => rfl⟩ (Nat.le_refl _) _) (Nat.le_refl _) s
  have HX1 := Lib.hid hX1
  have HX2 : Hid (X 2 = st4s (X 1) w1.heap.size s) := by show _ = _; rw [hX2, hX1]
  have hzx : (X 0).heap.size = w1.heap.size := by rw [hX0]
  have wh : IntKind.i64.wrap s.h = s.h := by rw [IntKind.wrap_i64]; omega
  clear hX0 hX1 hX2
  refine wp_region_exact2 (S := 14) (by kernel_rfl) (fun i => ([.string t, .string (t.extract 4 10), .int .i64 s.g, .string t, .int .u8 (b.toNat : Int), .int .i64 s.h, .string t, .string (t.extract 11 17), .int .i64 s.n, .string t, .string (t.extract 17 19), .int .i64 s.p, sv s, .pointer (some ⟨w1.heap.size, 0, none⟩), .bool false] : List Value).getD i (.bool false)) [13, 14] X HX0.out (by kernel_rfl) (backsB_spec (by kernel_rfl)) (by kernel_rfl) (by kernel_rfl) (by decide) rfl (by decide) ?purea ?actsa ?fina
  case purea =>
    intro i k9 o listed a1 hic hk9 ho hk hdep
    have hi : i < 15 := (Array.getElem?_eq_some_iff.1 ho).1
    have e0 := ev (show a1.eval (.tmp 0) = .string t from hk.frame 0 (frame_of (by kernel_rfl)))
    have hii : i = 0 ∨ i = 1 ∨ i = 2 ∨ i = 3 ∨ i = 4 ∨ i = 5 ∨ i = 6 ∨ i = 7 ∨ i = 8 ∨ i = 9 ∨ i = 10 ∨ i = 11 ∨ i = 12 ∨ i = 13 ∨ i = 14 := by omega
    rcases hii with rfl | rfl | rfl | rfl | rfl | rfl | rfl | rfl | rfl | rfl | rfl | rfl | rfl | rfl | rfl
    · cases ho
      refine ⟨rfl, wp_exact ?_⟩
      simp [execOp, e0, Act.eval]
    · cases ho
      have d0 := ev (show a1.eval (.tmp 19) = .string t from hk.done 0 _ 19 rfl rfl (hdep ⟨0, .data⟩ (by simp) rfl))
      refine ⟨rfl, wp_exact ?_⟩
      go_simp
    · cases ho
      have d1 := ev (show a1.eval (.tmp 20) = .string (t.extract 4 10) from hk.done 1 _ 20 rfl rfl (hdep ⟨1, .data⟩ (by simp) rfl))
      refine ⟨rfl, ?_⟩
      go_simp
      refine (N1.out _).mono ?_
      rintro e w3 ⟨rfl, rfl⟩
      exact ⟨rfl, rfl⟩
    · cases ho
      refine ⟨rfl, wp_exact ?_⟩
      simp [execOp, e0, Act.eval]
    · cases ho
      have d3 := ev (show a1.eval (.tmp 22) = .string t from hk.done 3 _ 22 rfl rfl (hdep ⟨3, .data⟩ (by simp) rfl))
      refine ⟨rfl, ?_⟩
      refine wp_exact ?_
      go_simp
    · cases ho
      have d4 := ev (show a1.eval (.tmp 23) = .int .u8 (b.toNat : Int) from hk.done 4 _ 23 rfl rfl (hdep ⟨4, .data⟩ (by simp) rfl))
      refine ⟨rfl, ?_⟩
      refine wp_exact ?_
      go_simp
    · cases ho
      refine ⟨rfl, wp_exact ?_⟩
      simp [execOp, e0, Act.eval]
    · cases ho
      have d6 := ev (show a1.eval (.tmp 25) = .string t from hk.done 6 _ 25 rfl rfl (hdep ⟨6, .data⟩ (by simp) rfl))
      refine ⟨rfl, wp_exact ?_⟩
      go_simp
    · cases ho
      have d7 := ev (show a1.eval (.tmp 26) = .string (t.extract 11 17) from hk.done 7 _ 26 rfl rfl (hdep ⟨7, .data⟩ (by simp) rfl))
      refine ⟨rfl, ?_⟩
      go_simp
      refine (N3.out _).mono ?_
      rintro e w3 ⟨rfl, rfl⟩
      exact ⟨rfl, rfl⟩
    · cases ho
      refine ⟨rfl, wp_exact ?_⟩
      simp [execOp, e0, Act.eval]
    · cases ho
      have d9 := ev (show a1.eval (.tmp 28) = .string t from hk.done 9 _ 28 rfl rfl (hdep ⟨9, .data⟩ (by simp) rfl))
      refine ⟨rfl, wp_exact ?_⟩
      go_simp
    · cases ho
      have d10 := ev (show a1.eval (.tmp 29) = .string (t.extract 17 19) from hk.done 10 _ 29 rfl rfl (hdep ⟨10, .data⟩ (by simp) rfl))
      refine ⟨rfl, ?_⟩
      go_simp
      refine (N4.out _).mono ?_
      rintro e w3 ⟨rfl, rfl⟩
      exact ⟨rfl, rfl⟩
    · cases ho
      have d2 := ev (show a1.eval (.tmp 21) = .int .i64 s.g from hk.done 2 _ 21 rfl rfl (hdep ⟨2, .data⟩ (by simp) rfl))
      have d5 := ev (show a1.eval (.tmp 24) = .int .i64 s.h from hk.done 5 _ 24 rfl rfl (hdep ⟨5, .data⟩ (by simp) rfl))
      have d8 := ev (show a1.eval (.tmp 27) = .int .i64 s.n from hk.done 8 _ 27 rfl rfl (hdep ⟨8, .data⟩ (by simp) rfl))
      have d11 := ev (show a1.eval (.tmp 30) = .int .i64 s.p from hk.done 11 _ 30 rfl rfl (hdep ⟨11, .data⟩ (by simp) rfl))
      refine ⟨rfl, wp_exact ?_⟩
      go_simp
    · exact absurd (by simp) hic
    · exact absurd (by simp) hic
  case actsa =>
    intro i k9 o listed a1 hcs ho hk hdep
    have e0 := ev (show a1.eval (.tmp 0) = .string t from hk.frame 0 (frame_of (by kernel_rfl)))
    have hk9 : k9 < 2 := (List.getElem?_eq_some_iff.1 hcs).1
    have hkk : k9 = 0 ∨ k9 = 1 := by omega
    rcases hkk with rfl | rfl <;> cases hcs
    · cases ho
      refine ⟨rfl, ?_⟩
      go_simp
      rw [HX0.out, HX1.out]
    · cases ho
      have d13 := ev (show a1.eval (.tmp 6) = .pointer (some ⟨w1.heap.size, 0, none⟩) from hk.done 13 _ 6 rfl rfl (hdep ⟨13, .data⟩ (by simp) rfl))
      have d12 := ev (show a1.eval (.tmp 31) = sv s from hk.done 12 _ 31 rfl rfl (hdep ⟨12, .data⟩ (by simp) rfl))
      refine ⟨rfl, ?_⟩
      obtain ⟨k0, k1, k2, k3, k4⟩ := HR1.out.cells
      go_simp
      rw [HX2.out]
  case fina =>
    intro listed a2 hall hk
    have h19 : a2.eval (.tmp 19) = .string t := hk.done 0 _ 19 rfl rfl (hall 0 (by decide))
    have h20 : a2.eval (.tmp 20) = .string (t.extract 4 10) := hk.done 1 _ 20 rfl rfl (hall 1 (by decide))
    have h21 : a2.eval (.tmp 21) = .int .i64 s.g := hk.done 2 _ 21 rfl rfl (hall 2 (by decide))
    have h22 : a2.eval (.tmp 22) = .string t := hk.done 3 _ 22 rfl rfl (hall 3 (by decide))
    have h23 : a2.eval (.tmp 23) = .int .u8 (b.toNat : Int) := hk.done 4 _ 23 rfl rfl (hall 4 (by decide))
    have h24 : a2.eval (.tmp 24) = .int .i64 s.h := hk.done 5 _ 24 rfl rfl (hall 5 (by decide))
    have h25 : a2.eval (.tmp 25) = .string t := hk.done 6 _ 25 rfl rfl (hall 6 (by decide))
    have h26 : a2.eval (.tmp 26) = .string (t.extract 11 17) := hk.done 7 _ 26 rfl rfl (hall 7 (by decide))
    have h27 : a2.eval (.tmp 27) = .int .i64 s.n := hk.done 8 _ 27 rfl rfl (hall 8 (by decide))
    have h28 : a2.eval (.tmp 28) = .string t := hk.done 9 _ 28 rfl rfl (hall 9 (by decide))
    have h29 : a2.eval (.tmp 29) = .string (t.extract 17 19) := hk.done 10 _ 29 rfl rfl (hall 10 (by decide))
    have h30 : a2.eval (.tmp 30) = .int .i64 s.p := hk.done 11 _ 30 rfl rfl (hall 11 (by decide))
    have h31 : a2.eval (.tmp 31) = sv s := hk.done 12 _ 31 rfl rfl (hall 12 (by decide))
    have h6 : a2.eval (.tmp 6) = .pointer (some ⟨w1.heap.size, 0, none⟩) := hk.done 13 _ 6 rfl rfl (hall 13 (by decide))
    have hact := fr_all [19, 20, 21, 22, 23, 24, 25, 26, 27, 28, 29, 30, 31, 6] hk (by kernel_rfl)
    simp only [List.foldl_cons, List.foldl_nil, List.setIfInBounds_toArray, List.set_cons_succ, List.set_cons_zero] at hact
    rw [h19] at hact
    rw [h20] at hact
    rw [h21] at hact
    rw [h22] at hact
    rw [h23] at hact
    rw [h24] at hact
    rw [h25] at hact
    rw [h26] at hact
    rw [h27] at hact
    rw [h28] at hact
    rw [h29] at hact
    rw [h30] at hact
    rw [h31] at hact
    rw [h6] at hact
    rw [hact]
    clear hact hk hall h19 h20 h21 h22 h23 h24 h25 h26 h27 h28 h29 h30 h31 h6
    have hXl : X [13, 14].length = X 2 := rfl
    rw [hXl]
    clear hXl HX0 HR1 HX1 HX2 hzx wh
    obtain ⟨w2, hw2⟩ : ∃ w2, w2 = X 2 := ⟨_, rfl⟩
    rw [← hw2] at HR2 HXB ⊢
    clear hw2
    have hs2 : w1.heap.size < w2.heap.size := by
      have := HR2.out
      unfold BoxH at this
      rcases Nat.lt_or_ge w1.heap.size w2.heap.size with h | h
      · exact h
      · rw [Array.getElem?_eq_none h] at this; cases this
    have HT2 := Lib.hid (HZ1.out.below HXB.out hz1)
    have HB2 := Lib.hid (HB1.out.trans (HXB.out.mono HB1.out.size))
    have hne : w.heap.size ≠ w1.heap.size := by omega
    obtain ⟨k0, k1, k2, k3, k4⟩ := HR2.out.cells
    go_wp2_with fail
    cases hmay : mayB s with
    | false =>
      have HQ : Hid (decS l = (Sp.nil, 4)) := dec_form HL.out HS.out (fun h => by rw [← HSE.out, hmay] at h; exact absurd h.1 (by decide))
      refine (rmay_at s.g s.h s.n s.p false _ hmay).mono ?_
      rintro e w3 ⟨rfl, hb3⟩
      have HT3 := Lib.hid (HT2.out.below hb3 (by omega))
      have HB3 := Lib.hid (step' HB2.out hb3 HB2.out.size)
      clear hb3
      obtain ⟨t0, t1, t2, t3, t4⟩ := HT3.out.cells
      go_wp2_with fail
      refine bodyPost_ret (v := .tuple #[sv Sp.nil, .int .i64 4]) (by simp [results, Try.results11, go_sem, Sp.nil, t0, t1, t2, t3]) rfl ⟨by rw [HQ.out], ?_⟩
      exact st4s_below HB3.out (Nat.le_refl _) Sp.nil
    | true =>
      refine (rmay_at s.g s.h s.n s.p true _ hmay).mono ?_
      rintro e w3 ⟨rfl, hb3⟩
      have HT3 := Lib.hid (HT2.out.below hb3 (by omega))
      have HR3 := Lib.hid (HR2.out.below hb3 (by omega))
      have HB3 := Lib.hid (step' HB2.out hb3 HB2.out.size)
      have hz3 := hb3.size
      clear hb3
      clear k0 k1 k2 k3 k4
      obtain ⟨k0, k1, k2, k3, k4⟩ := HR3.out.cells
      go_wp2_with fail
      refine (rencS_any s _ hmay).mono ?_
      rintro e w4 ⟨rfl, hb4⟩
      have HT4 := Lib.hid (HT3.out.below hb4 (by omega))
      have HR4 := Lib.hid (HR3.out.below hb4 (by omega))
      have HB4 := Lib.hid (step' HB3.out hb4 HB3.out.size)
      clear hb4
      clear k0 k1 k2 k3 k4
      obtain ⟨t0, t1, t2, t3, t4⟩ := HT4.out.cells
      obtain ⟨k0, k1, k2, k3, k4⟩ := HR4.out.cells
      by_cases he : encS s = l
      · have HQ : Hid (decS l = (s, 0)) := by
          have := dec_yes HL.out HS.out (by rw [← HSE.out]; exact ⟨hmay, he⟩)
          rw [← HSE.out] at this
          exact this
        have hd : (!(text (encS s)).toList == t.toList) = false := by rw [HNE.out]; simp [he]
        clear he
        go_wp2_with fail
        refine bodyPost_ret (v := .tuple #[sv s, .int .i64 0]) (by simp [results, Try.results11, go_sem, t0, t1, t2, t3]) rfl ⟨by rw [HQ.out], ?_⟩
        exact st4s_below HB4.out (Nat.le_refl _) s
      · have HQ : Hid (decS l = (Sp.nil, 4)) := dec_form HL.out HS.out (fun h => by rw [← HSE.out] at h; exact he h.2)
        have hd : (!(text (encS s)).toList == t.toList) = true := by rw [HNE.out]; simp [he]
        clear he
        go_wp2_with fail
        refine bodyPost_ret (v := .tuple #[sv Sp.nil, .int .i64 4]) (by simp [results, Try.results11, go_sem, Sp.nil, t0, t1, t2, t3]) rfl ⟨by rw [HQ.out], ?_⟩
        exact st4s_below HB4.out (Nat.le_refl _) Sp.nil
theorem rdec_any (l : List UInt8) (w : World) :
    Calls Try.prog 11 #[.string (text l)] w (DecD w (decS l)) := by
  by_cases h64 : l.length = 64
  · cases hs : soundB l with
    | false => rw [dec_sum h64 hs]; exact rdec_sum l w h64 hs
    | true => exact rdec_go l w h64 hs
  · rw [dec_short h64]
    exact rdec_short (text l) w (by rw [text_size]; exact h64)
end Go.Proofs.Ytlieijbjbjnaiaa.Sup
