/- The walk of DiskCrashes. -/
import Derived.Test.YtopklkkhddpglaaW31
import Derived.Test.YtopklkkhddpglaaW25
namespace Go.Proofs.Ytopklkkhddpglaa
open Go.RowKit Dk

theorem copy_dsk (A : Option Addr) (n c : Nat) (A' : Option Addr) (m c' : Nat) (S : List (List UInt8)) (W : Ws) (L : Int) (O : Bool) (w : World) (h : Dsk w A n c A' m c' S W) (hn : n ≤ 5000) (hm : m ≤ 5000) :
    Calls Try.prog 8 #[dv A n c A' m c' L O] w fun e w' => ∃ B d B' d', e = .returned (dv B n d B' m d' L O) ∧ Dsk w' B n d B' m d' S W ∧ Below w.heap.size w w' :=
  (copy_any A n c A' m c' S W L O w h hn hm).mono fun e w' ⟨v, xs, u, ys, he, hv, hr, hu, hw, hb⟩ => by
    rw [h.hn] at hv
    rw [h.hm] at hu
    obtain ⟨B, d, rfl, hd⟩ := row_sl hv
    obtain ⟨B', d', rfl, hd'⟩ := row_sl hu
    exact ⟨B, d, B', d', he, ⟨parts_of hv hr, pend_of (lo := 0) (.inl hu) hw, h.hn, h.hm, hd, hd'⟩, hb⟩
def lfDk (k : Nat) (Lz : Int) (D : List (List UInt8)) : Left := ⟨fun v w => ∃ B d, v = dv B k d none 0 0 Lz false ∧ Dsk w B k d none 0 0 D [], fun _ _ _ hb ⟨B, d, e, h⟩ => ⟨B, d, e, h.below hb⟩⟩
theorem dz_dsk (w : World) : Dsk w none 0 0 none 0 0 [] [] := ⟨(fun i hi => by cases hi), (fun i hi => by cases hi), rfl, rfl, Nat.le_refl _, Nat.le_refl _⟩
theorem Bools.take {w : World} {B : Nat} {A : Option Addr} {l : List Bool} (h : Bools w B A l) (k : Nat) : Bools w B A (l.take k) := fun i hi => by
  have hi2 : i < l.length := by rw [List.length_take] at hi; omega
  have e : (l.take k)[i] = l[i] := by simp
  rw [e]
  exact h i hi2
set_option maxRecDepth 100000 in
set_option maxHeartbeats 6400000 in
theorem crashes_any (A : Option Addr) (n c : Nat) (A' : Option Addr) (m c' : Nat) (S : List (List UInt8)) (W : Ws) (L : Int) (O : Bool) (AK : Option Addr) (K : List Bool) (ck : Nat) (n9 : Int) (w : World) (h : Dsk w A n c A' m c' S W) (hK : Bools w w.heap.size AK K) (hcK : K.length ≤ ck) :
    Calls Try.prog 3 #[dv A n c A' m c' L O, .slice AK K.length ck, .int .i64 n9] w fun e w' => e = .returned (.bool true) ∧ Below w.heap.size w w' := by
  have hf := h.few
  have l1 := (fewS_le n).2
  have l2 := (fewW_le m).2
  have hFEW : ∀ wx, Below w.heap.size w wx → Calls Try.prog 7 #[dv A n c A' m c' L O] wx fun e w' => e = .returned (dv A (fewS n) c A' (fewW m) c' L O) ∧ Below wx.heap.size wx w' := fun wx hb => few_any A n c A' m c' S W L O wx (h.below hb)
  clear h
  obtain ⟨n1, hn1⟩ : ∃ n1, n1 = fewS n := ⟨_, rfl⟩
  obtain ⟨m1, hm1⟩ : ∃ m1, m1 = fewW m := ⟨_, rfl⟩
  obtain ⟨S1, hS1⟩ : ∃ S1, S1 = S.take (fewS n) := ⟨_, rfl⟩
  obtain ⟨W1, hW1⟩ : ∃ W1, W1 = W.take (fewW m) := ⟨_, rfl⟩
  rw [← hS1, ← hW1] at hf
  rw [← hn1, ← hm1] at hf hFEW
  rw [← hn1] at l1
  rw [← hm1] at l2
  clear hn1 hm1 hS1 hW1
  have FEW := Lib.hid hFEW
  have HF := Lib.hid hf
  clear hFEW hf
  obtain ⟨nk, hnk⟩ : ∃ nk, nk = K.length := ⟨_, rfl⟩
  have HNK := Lib.hid hnk
  rw [← hnk] at hcK ⊢
  clear hnk
  have HK := Lib.hid hK
  clear hK
  obtain ⟨XA, xn, xc, XA', xm, xc', xL, xO, ez, hbud, hyes, hno⟩ : ∃ (XA : Option Addr) (xn xc : Nat) (XA' : Option Addr) (xm xc' : Nat) (xL : Int) (xO : Bool) (ez : Int), (∀ wx, Below w.heap.size w wx → Calls Try.prog 9 #[dv A n1 c A' m1 c' L O, .int .i64 n9] wx fun e w' => e = .returned (.tuple #[dv XA xn xc XA' xm xc' xL xO, .int .i64 ez]) ∧ Below wx.heap.size wx w') ∧
      ((may S1 W1 L = true ∧ -1 ≤ n9) → XA = A ∧ xn = n1 ∧ xc = c ∧ XA' = A' ∧ xm = m1 ∧ xc' = c' ∧ xL = n9 ∧ xO = O ∧ ez = 0) ∧ (¬ (may S1 W1 L = true ∧ -1 ≤ n9) → xn = 0 ∧ ez = 1) := by
    by_cases hg : may S1 W1 L = true ∧ -1 ≤ n9
    · exact ⟨A, n1, c, A', m1, c', n9, O, 0, fun wx hb => budget_yes A n1 c A' m1 c' S1 W1 L O n9 wx (HF.out.below hb) hg.1 (by omega) hg.2, fun _ => ⟨rfl, rfl, rfl, rfl, rfl, rfl, rfl, rfl, rfl⟩, fun h => absurd hg h⟩
    · refine ⟨none, 0, 0, none, 0, 0, 0, false, 1, fun wx hb => budget_no A n1 c A' m1 c' S1 W1 L O n9 wx (HF.out.below hb) ?_ (by omega) (by omega), fun h => absurd h hg, fun _ => ⟨rfl, rfl⟩⟩
      cases hm9 : may S1 W1 L with
      | false => exact .inl rfl
      | true => exact .inr (by
          rcases (show n9 < -1 ∨ -1 ≤ n9 by omega) with hh | hh
          · exact hh
          · exact absurd ⟨hm9, hh⟩ hg)
  have HBUD := Lib.hid hbud
  have HYES := Lib.hid hyes
  have HNO := Lib.hid hno
  clear hbud hyes hno
  obtain ⟨w0, hw0⟩ : ∃ w0, w0 = w.alloc (.cells #[.slice A n c, .slice A' m c', .int .i64 L, .bool O] 25) := ⟨_, rfl⟩
  have hb0 : Below w.heap.size w w0 := by rw [hw0]; exact (Below.refl _ _).alloc (Nat.le_refl _) _
  have BX0 : Hid (w0.heap[w.heap.size]? = some (.cells #[.slice A n c, .slice A' m c', .int .i64 L, .bool O] 25 (0, 0))) := by rw [hw0]; exact box_new _ _
  have HB0 := Lib.hid hb0
  have HW0 := Lib.hid hw0
  clear hb0 hw0
  go_enter Try.func3, Try.ntmps3
  go_wp2_with fail
  rw [← HW0.out]
  refine (FEW.out w0 HB0.out).mono ?_
  rintro e w1 ⟨rfl, hb1⟩
  have BX1 := Lib.hid (box_at BX0.out hb1)
  have HB1 := Lib.hid (HB0.out.trans (hb1.mono HB0.out.size))
  clear hb1
  obtain ⟨k0, k1, k2, k3, kf⟩ := cells_of4 BX1.out
  go_upto_region 2 with fail
  clear k0 k1 k2 k3 kf
  have BX2 := Lib.hid (st4_at BX1.out (.slice A n1 c) (.slice A' m1 c') (.int .i64 L) (.bool O))
  have HB2 := Lib.hid (st4_below HB1.out (Nat.le_refl _) (.slice A n1 c) (.slice A' m1 c') (.int .i64 L) (.bool O))
  obtain ⟨w2, hw2⟩ : ∃ w2, w2 = st4 w1 w.heap.size (.slice A n1 c) (.slice A' m1 c') (.int .i64 L) (.bool O) := ⟨_, rfl⟩
  rw [← hw2] at BX2 HB2
  unfold st4 at hw2
  rw [← hw2]
  clear hw2 BX1 HB1 BX0 HB0 HW0 FEW
  go_upto_if 14 with fail
  go_cut [1] (fun s1 wx => (∃ K1 : List Bool, s1 = .slice AK K1.length ck ∧ Bools w w.heap.size AK K1) ∧ w2 = wx)
  case first =>
    by_cases h60 : 60 < nk
    · go_wp2_with fail
      go_meet
      exact ⟨⟨K.take 60, by rw [List.length_take, ← HNK.out]; simp; omega, HK.out.take 60⟩, rfl⟩
    · go_wp2_with fail
      go_meet
      exact ⟨⟨K, by rw [← HNK.out], HK.out⟩, rfl⟩
  case rest =>
  obtain ⟨⟨K1, rfl, hK1⟩, rfl⟩ := hcut
  obtain ⟨n2, hn2⟩ : ∃ n2, n2 = K1.length := ⟨_, rfl⟩
  have HN2 := Lib.hid hn2
  rw [← hn2]
  clear hn2
  have HK1 := Lib.hid hK1
  clear hK1 HK HNK hcK
  obtain ⟨kz, Lz, D, hC, hR⟩ : ∃ (kz : Nat) (Lz : Int) (D : List (List UInt8)), (∀ wx, Below w.heap.size w wx → Calls Try.prog 11 #[dv A n1 c A' m1 c' L O, .slice AK n2 ck] wx fun e w' => ∃ B d, e = .returned (dv B kz d none 0 0 Lz false) ∧ Dsk w' B kz d none 0 0 D [] ∧ Below wx.heap.size wx w') ∧
      (∀ wx, Below w.heap.size w wx → Calls Try.prog 12 #[dv A n1 c A' m1 c' L O, .slice AK n2 ck] wx fun e w' => ∃ B d, e = .returned (dv B kz d none 0 0 Lz false) ∧ Dsk w' B kz d none 0 0 D [] ∧ Below wx.heap.size wx w') ∧ kz ≤ 4097 := by
    cases hmy : may S1 W1 L with
    | true =>
      refine ⟨n1, -1, done (keepB K1) 0 W1 S1, fun wx hb => ?_, fun wx hb => ?_, l1⟩
      · have := crash_yes A n1 c A' m1 c' S1 W1 L O AK K1 ck wx (HF.out.below hb) hmy (by omega) ((HK1.out.below hb (Nat.le_refl _)).more hb.size)
        rw [← HN2.out] at this
        exact this.mono fun e w' ⟨g, cap, he, hd, hb2⟩ => ⟨_, cap, he, hd, hb2⟩
      · have := rcrash_yes A n1 c A' m1 c' S1 W1 L O AK K1 ck wx (HF.out.below hb) hmy (by omega) ((HK1.out.below hb (Nat.le_refl _)).more hb.size)
        rw [← HN2.out] at this
        exact this.mono fun e w' ⟨g, cap, he, hd, hb2⟩ => ⟨_, cap, he, hd, hb2⟩
    | false =>
      exact ⟨0, 0, [], fun wx hb => (crash_no A n1 c A' m1 c' S1 W1 L O AK n2 ck wx (HF.out.below hb) hmy (by omega) (by omega)).mono fun e w' ⟨he, hb2⟩ => ⟨none, 0, he, dz_dsk w', hb2⟩,
        fun wx hb => (rcrash_no A n1 c A' m1 c' S1 W1 L O AK n2 ck wx (HF.out.below hb) hmy (by omega) (by omega)).mono fun e w' ⟨he, hb2⟩ => ⟨none, 0, he, dz_dsk w', hb2⟩, by decide⟩
  obtain ⟨hR, hkz⟩ := hR
  have HC := Lib.hid hC
  have HR := Lib.hid hR
  clear hC hR
  obtain ⟨k0, k1, k2, k3, kf⟩ := cells_of4 BX2.out
  go_wp2_with fail
  clear k0 k1 k2 k3 kf
  refine (copy_dsk A n1 c A' m1 c' S1 W1 L O w2 (HF.out.below HB2.out) (by omega) (by omega)).mono ?_
  rintro e w3 ⟨B, d, B', d', rfl, hD3, hb3⟩
  have BX3 := Lib.hid (box_at BX2.out hb3)
  have HB3 := Lib.hid (HB2.out.trans (hb3.mono HB2.out.size))
  have DW := Lib.hid hD3
  clear hD3 hb3
  go_upto_region 5 with fail
  have HBA : Hid (Below w3.heap.size w3 (w3.alloc (.cells #[.slice B n1 d, .slice B' m1 d', .int .i64 L, .bool O] 25))) := (Below.refl _ _).alloc (Nat.le_refl _) _
  have BX7 : Hid ((w3.alloc (.cells #[.slice B n1 d, .slice B' m1 d', .int .i64 L, .bool O] 25)).heap[w3.heap.size]? = some (.cells #[.slice B n1 d, .slice B' m1 d', .int .i64 L, .bool O] 25 (0, 0))) := box_new _ _
  have BX4 := Lib.hid (box_at BX3.out HBA.out)
  have HB4 := Lib.hid (HB3.out.trans (HBA.out.mono HB3.out.size))
  have hg70 : w.heap.size ≤ w3.heap.size := HB3.out.size
  obtain ⟨g7, hg7⟩ : ∃ g, g = w3.heap.size := ⟨_, rfl⟩
  rw [← hg7] at BX7 hg70 ⊢
  obtain ⟨w4, hw4⟩ : ∃ w4, w4 = w3.alloc (.cells #[.slice B n1 d, .slice B' m1 d', .int .i64 L, .bool O] 25) := ⟨_, rfl⟩
  rw [← hw4] at BX7 BX4 HB4 HBA ⊢
  have HW4 := HBA
  have HG7 := Lib.hid hg7
  clear hw4 HBA BX3 HB3 BX2 HB2 hg7
  obtain ⟨k0, k1, k2, k3, kf⟩ := cells_of4 BX4.out
  go_wp2_with fail
  clear k0 k1 k2 k3 kf
  refine (HBUD.out w4 HB4.out).mono ?_
  rintro e w5 ⟨rfl, hb5⟩
  have BX5 := Lib.hid (box_at BX4.out hb5)
  have BX75 := Lib.hid (box_at BX7.out hb5)
  have HW5 := Lib.hid (HW4.out.trans (hb5.mono HW4.out.size))
  have HB5 := Lib.hid (HB4.out.trans (hb5.mono HB4.out.size))
  clear hb5 BX4 BX7 HW4 HB4
  go_upto_region 6 with fail
  have HBA : Hid (Below w5.heap.size w5 (w5.alloc (.cells #[.slice XA xn xc, .slice XA' xm xc', .int .i64 xL, .bool xO] 25))) := (Below.refl _ _).alloc (Nat.le_refl _) _
  have BX8 : Hid ((w5.alloc (.cells #[.slice XA xn xc, .slice XA' xm xc', .int .i64 xL, .bool xO] 25)).heap[w5.heap.size]? = some (.cells #[.slice XA xn xc, .slice XA' xm xc', .int .i64 xL, .bool xO] 25 (0, 0))) := box_new _ _
  have BX6 := Lib.hid (box_at BX5.out HBA.out)
  have BX76 := Lib.hid (box_at BX75.out HBA.out)
  have HW6 := Lib.hid (HW5.out.trans (HBA.out.mono HW5.out.size))
  have HB6 := Lib.hid (HB5.out.trans (HBA.out.mono HB5.out.size))
  have hg8 : g7 < w5.heap.size := (Array.getElem?_eq_some_iff.1 BX75.out).1
  obtain ⟨g8, hg8e⟩ : ∃ g, g = w5.heap.size := ⟨_, rfl⟩
  rw [← hg8e] at BX8 hg8 ⊢
  obtain ⟨w6, hw6⟩ : ∃ w6, w6 = w5.alloc (.cells #[.slice XA xn xc, .slice XA' xm xc', .int .i64 xL, .bool xO] 25) := ⟨_, rfl⟩
  rw [← hw6] at BX8 BX6 BX76 HW6 HB6 ⊢
  clear hw6 HBA BX5 BX75 HW5 HB5 hg8e
  go_cut [38] from 25 to 38 (fun s38 wx => s38 = .bool false ∧ Below w6.heap.size w6 wx)
  case first =>
    refine wp_region_by (by kernel_rfl) (Phi [.val (dv A n1 c A' m1 c' L O), .val (.slice AK n2 ck), lfDk kz Lz D, .val (dv A n1 c A' m1 c' L O), .val (.slice AK n2 ck), lfDk kz Lz D, .val (.bool true), .val (.bool false), .val (.bool false), .val (dv A n1 c A' m1 c' L O), .val (dv B n1 d B' m1 d' L O), .val (.bool true), .val (.bool false), .val (.bool false)]) (phi_stab _) (by kernel_rfl) ?step6 ?fin6
    case step6 =>
      intro i o listed a1 w2 ho hk hdep
      have hi : i < 14 := (Array.getElem?_eq_some_iff.1 ho).1
      have e1 := ev (show a1.eval (.tmp 1) = .slice AK n2 ck from hk.frame 1 (frame_of (by kernel_rfl)))
      have e3 := ev (show a1.eval (.tmp 3) = .pointer (some ⟨w.heap.size, 0, none⟩) from hk.frame 3 (frame_of (by kernel_rfl)))
      have e7 := ev (show a1.eval (.tmp 7) = .pointer (some ⟨g7, 0, none⟩) from hk.frame 7 (frame_of (by kernel_rfl)))
      obtain ⟨k0, k1, k2, k3, kf⟩ := cells_of4 (box_at BX6.out hk.below)
      obtain ⟨r0, r1, r2, r3, rf⟩ := cells_of4 (box_at BX76.out hk.below)
      clear kf rf
      have hii : i = 0 ∨ i = 1 ∨ i = 2 ∨ i = 3 ∨ i = 4 ∨ i = 5 ∨ i = 6 ∨ i = 7 ∨ i = 8 ∨ i = 9 ∨ i = 10 ∨ i = 11 ∨ i = 12 ∨ i = 13 := by omega
      rcases hii with rfl | rfl | rfl | rfl | rfl | rfl | rfl | rfl | rfl | rfl | rfl | rfl | rfl | rfl
      · cases ho
        refine wpOp_of rfl rfl (wp_value (v := dv A n1 c A' m1 c' L O) ?_ rfl)
        go_simp
      · cases ho
        refine wpOp_of rfl rfl (wp_value (v := .slice AK n2 ck) ?_ rfl)
        simp [execOp, e1, Act.eval]
      · cases ho
        have d0 := ev (show a1.eval (.tmp 25) = dv A n1 c A' m1 c' L O from hk.done 0 _ 25 rfl rfl (hdep ⟨0, .data⟩ (by simp) rfl))
        have d1 := ev (show a1.eval (.tmp 26) = .slice AK n2 ck from hk.done 1 _ 26 rfl rfl (hdep ⟨1, .data⟩ (by simp) rfl))
        refine wpOp_of rfl rfl ?_
        go_simp
        refine (HC.out w2 (HB6.out.trans (hk.below.mono HB6.out.size))).mono ?_
        rintro e w3 ⟨B9, d9, rfl, hD9, hb2⟩
        exact ⟨_, rfl, ⟨B9, d9, rfl, hD9⟩, hb2⟩
      · cases ho
        refine wpOp_of rfl rfl (wp_value (v := dv A n1 c A' m1 c' L O) ?_ rfl)
        go_simp
      · cases ho
        refine wpOp_of rfl rfl (wp_value (v := .slice AK n2 ck) ?_ rfl)
        simp [execOp, e1, Act.eval]
      · cases ho
        have d3 := ev (show a1.eval (.tmp 28) = dv A n1 c A' m1 c' L O from hk.done 3 _ 28 rfl rfl (hdep ⟨3, .data⟩ (by simp) rfl))
        have d4 := ev (show a1.eval (.tmp 29) = .slice AK n2 ck from hk.done 4 _ 29 rfl rfl (hdep ⟨4, .data⟩ (by simp) rfl))
        refine wpOp_of rfl rfl ?_
        go_simp
        refine (HR.out w2 (HB6.out.trans (hk.below.mono HB6.out.size))).mono ?_
        rintro e w3 ⟨B9, d9, rfl, hD9, hb2⟩
        exact ⟨_, rfl, ⟨B9, d9, rfl, hD9⟩, hb2⟩
      · cases ho
        obtain ⟨B8, d8, hv8, hD8⟩ := hk.done 2 _ 27 rfl rfl (hdep ⟨2, .data⟩ (by simp) rfl)
        obtain ⟨B9, d9, hv9, hD9⟩ := hk.done 5 _ 30 rfl rfl (hdep ⟨5, .data⟩ (by simp) rfl)
        have d2 := ev hv8
        have d5 := ev hv9
        have hw := same_yes B8 kz d8 none 0 0 B9 d9 none 0 D [] Lz false w2 hD8 hD9 (by omega) (by decide)
        clear hD8 hD9
        refine wpOp_of rfl rfl ?_
        go_simp
        refine hw.mono ?_
        rintro e w3 ⟨rfl, hb2⟩
        exact ⟨_, rfl, rfl, hb2⟩
      · cases ho
        have d6 := ev (show a1.eval (.tmp 31) = .bool true from hk.done 6 _ 31 rfl rfl (hdep ⟨6, .data⟩ (by simp) rfl))
        refine wpOp_of rfl rfl (wp_value (v := .bool false) ?_ rfl)
        go_simp
      · cases ho
        have d7 := ev (show a1.eval (.tmp 32) = .bool false from hk.done 7 _ 32 rfl rfl (hdep ⟨7, .data⟩ (by simp) rfl))
        refine wpOp_of rfl rfl (wp_value (v := .bool false) ?_ rfl)
        simp [execOp, d7, Act.eval]
      · cases ho
        refine wpOp_of rfl (wanted_of (t := 33) rfl rfl (hk.done 8 _ 33 rfl rfl (hdep ⟨8, .guard⟩ (by simp) rfl))) (wp_value (v := dv A n1 c A' m1 c' L O) ?_ rfl)
        go_simp
      · cases ho
        refine wpOp_of rfl (wanted_of (t := 33) rfl rfl (hk.done 8 _ 33 rfl rfl (hdep ⟨8, .guard⟩ (by simp) rfl))) (wp_value (v := dv B n1 d B' m1 d' L O) ?_ rfl)
        go_simp
      · cases ho
        have d9 := ev (show a1.eval (.tmp 34) = dv A n1 c A' m1 c' L O from hk.done 9 _ 34 rfl rfl (hdep ⟨9, .data⟩ (by simp) rfl))
        have d10 := ev (show a1.eval (.tmp 35) = dv B n1 d B' m1 d' L O from hk.done 10 _ 35 rfl rfl (hdep ⟨10, .data⟩ (by simp) rfl))
        have hw := same_yes A n1 c A' m1 c' B d B' d' S1 W1 L O w2 (HF.out.below (HB6.out.trans (hk.below.mono HB6.out.size))) (DW.out.below (HW6.out.trans (hk.below.mono HW6.out.size))) (by omega) (by omega)
        refine wpOp_of rfl (wanted_of (t := 33) rfl rfl (hk.done 8 _ 33 rfl rfl (hdep ⟨8, .guard⟩ (by simp) rfl))) ?_
        go_simp
        refine hw.mono ?_
        rintro e w3 ⟨rfl, hb2⟩
        exact ⟨_, rfl, rfl, hb2⟩
      · cases ho
        have d11 := ev (show a1.eval (.tmp 36) = .bool true from hk.done 11 _ 36 rfl rfl (hdep ⟨11, .data⟩ (by simp) rfl))
        refine wpOp_of rfl (wanted_of (t := 33) rfl rfl (hk.done 8 _ 33 rfl rfl (hdep ⟨8, .guard⟩ (by simp) rfl))) (wp_value (v := .bool false) ?_ rfl)
        go_simp
      · cases ho
        have d8 := ev (show a1.eval (.tmp 33) = .bool false from hk.done 8 _ 33 rfl rfl (hdep ⟨8, .data⟩ (by simp) rfl))
        have d12 := ev (show a1.eval (.tmp 37) = .bool false from hk.done 12 _ 37 rfl rfl (hdep ⟨12, .data⟩ (by simp) rfl))
        refine wpOp_of rfl rfl (wp_value (v := .bool false) ?_ rfl)
        go_simp
    case fin6 =>
      intro listed a2 w2 hk hall
      have h38 : a2.eval (.tmp 38) = .bool false := hk.done 13 _ 38 rfl rfl (hall 13 (by decide))
      have hact := kept_all [25, 26, 27, 28, 29, 30, 31, 32, 33, 34, 35, 36, 37, 38] hk (by kernel_rfl)
      have HB := Lib.hid hk.below
      simp only [List.foldl_cons, List.foldl_nil, List.setIfInBounds_toArray, List.set_cons_succ, List.set_cons_zero] at hact
      generalize a2.eval (.tmp 25) = u25 at hact
      generalize a2.eval (.tmp 26) = u26 at hact
      generalize a2.eval (.tmp 27) = u27 at hact
      generalize a2.eval (.tmp 28) = u28 at hact
      generalize a2.eval (.tmp 29) = u29 at hact
      generalize a2.eval (.tmp 30) = u30 at hact
      generalize a2.eval (.tmp 31) = u31 at hact
      generalize a2.eval (.tmp 32) = u32 at hact
      generalize a2.eval (.tmp 33) = u33 at hact
      generalize a2.eval (.tmp 34) = u34 at hact
      generalize a2.eval (.tmp 35) = u35 at hact
      generalize a2.eval (.tmp 36) = u36 at hact
      generalize a2.eval (.tmp 37) = u37 at hact
      generalize a2.eval (.tmp 38) = u38 at hact h38
      rw [hact]
      clear hact
      go_wp2
      go_meet
      first | exact ⟨h38, HB.out⟩ | exact ⟨rfl, HB.out⟩
  case rest =>
  obtain ⟨rfl, hb⟩ := hcut
  obtain ⟨w7, rfl⟩ : ∃ x, x = wc := ⟨wc, rfl⟩
  have BX9 := Lib.hid (box_at BX6.out hb)
  have BX79 := Lib.hid (box_at BX76.out hb)
  have BX89 := Lib.hid (box_at BX8.out hb)
  have HW9 := Lib.hid (HW6.out.trans (hb.mono HW6.out.size))
  have HB9 := Lib.hid (HB6.out.trans (hb.mono HB6.out.size))
  clear hb BX6 BX76 BX8 HW6 HB6 HC HR
  obtain ⟨k0, k1, k2, k3, kf⟩ := cells_of4 BX9.out
  go_wp2_with fail
  clear k0 k1 k2 k3 kf
  refine (rmay_any A n1 c A' m1 c' S1 W1 L O w7 (HF.out.below HB9.out) (by omega) (by omega)).mono ?_
  rintro e w8 ⟨rfl, hb8⟩
  have BX7a := Lib.hid (box_at BX79.out hb8)
  have BX8a := Lib.hid (box_at BX89.out hb8)
  have HWa := Lib.hid (HW9.out.trans (hb8.mono HW9.out.size))
  have HBa := Lib.hid (HB9.out.trans (hb8.mono HB9.out.size))
  clear hb8 BX79 BX89 HW9 HB9 BX9
  by_cases hgood : may S1 W1 L = true ∧ -1 ≤ n9
  · obtain ⟨rfl, rfl, rfl, rfl, rfl, rfl, rfl, rfl, rfl⟩ := HYES.out hgood
    obtain ⟨hmy, hn9⟩ := hgood
    rw [hmy]
    clear HYES HNO hmy HBUD
    obtain ⟨r0, r1, r2, r3, rf⟩ := cells_of4 BX7a.out
    go_upto_region 11 with fail
    clear r0 r1 r2 r3 rf
    have BX7b : Hid ((w8.setCell ⟨g7, 2, none⟩ (.int .i64 xL)).heap[g7]? = some (.cells #[.slice B xn d, .slice B' xm d', .int .i64 xL, .bool xO] 25 (0, 0))) := by
      show _ = _
      simp [World.setCell, Array.getElem?_modify, BX7a.out]
    have BX8b := Lib.hid ((Below.heap_setCell w8 ⟨g7, 2, none⟩ (.int .i64 xL) g8 (by simp only; omega)).trans BX8a.out)
    have HBb : Hid (Below w.heap.size w (w8.setCell ⟨g7, 2, none⟩ (.int .i64 xL))) := HBa.out.setCell hg70 _
    have HWb : Hid (Below w3.heap.size w3 (w8.setCell ⟨g7, 2, none⟩ (.int .i64 xL))) := HWa.out.setCell (Nat.le_of_eq HG7.out.symm) _
    obtain ⟨w9, hw9⟩ : ∃ w9, w9 = w8.setCell ⟨g7, 2, none⟩ (.int .i64 xL) := ⟨_, rfl⟩
    rw [← hw9] at BX7b BX8b HBb HWb ⊢
    clear hw9 BX7a BX8a HBa HWa
    obtain ⟨r0, r1, r2, r3, rf⟩ := cells_of4 BX7b.out
    obtain ⟨x0, x1, x2, x3, xf⟩ := cells_of4 BX8b.out
    go_wp2_with fail
    clear r0 r1 r2 r3 rf x0 x1 x2 x3 xf
    refine (same_yes _ _ _ _ _ _ _ _ _ _ S1 W1 _ _ w9 (HF.out.below HBb.out) (DW.out.below HWb.out) (by omega) (by omega)).mono ?_
    rintro e w10 ⟨rfl, hb10⟩
    have HBc := Lib.hid (HBb.out.trans (hb10.mono HBb.out.size))
    clear hb10 HBb HWb
    go_wp2_with fail
    refine (awake_any w10).mono ?_
    rintro e w11 ⟨rfl, hb11⟩
    have HBd := Lib.hid (HBc.out.trans (hb11.mono HBc.out.size))
    clear hb11 HBc
    go_wp2_with fail
    go_ret
    exact ⟨rfl, HBd.out⟩
  · obtain ⟨rfl, rfl⟩ := HNO.out hgood
    clear HYES HNO HBUD
    obtain ⟨x0, x1, x2, x3, xf⟩ := cells_of4 BX8a.out
    cases hmy : may S1 W1 L with
    | false =>
      clear hgood hmy
      go_wp2_with fail
      refine (awake_any w8).mono ?_
      rintro e w11 ⟨rfl, hb11⟩
      have HBd := Lib.hid (HBa.out.trans (hb11.mono HBa.out.size))
      clear hb11 HBa
      go_wp2_with fail
      go_ret
      exact ⟨rfl, HBd.out⟩
    | true =>
      have hn9 : n9 < -1 := by
        rcases (show n9 < -1 ∨ -1 ≤ n9 by omega) with hh | hh
        · exact hh
        · exact absurd ⟨hmy, hh⟩ hgood
      clear hgood hmy
      go_wp2_with fail
      refine (awake_any w8).mono ?_
      rintro e w11 ⟨rfl, hb11⟩
      have HBd := Lib.hid (HBa.out.trans (hb11.mono HBa.out.size))
      clear hb11 HBa
      go_wp2_with fail
      go_ret
      exact ⟨rfl, HBd.out⟩
end Go.Proofs.Ytopklkkhddpglaa
