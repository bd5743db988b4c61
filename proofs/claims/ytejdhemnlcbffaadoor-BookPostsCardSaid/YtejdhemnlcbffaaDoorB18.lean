/- The walk of the law BookPosts. Conditions: the two arrays of the program hold what their initialisers lay. -/
import Derived.Test.YtejdhemnlcbffaaDoorB17
namespace Go.Proofs.YtejdhemnlcbffaaDoor.Bok
open Go.RowKit Cht Ent
open Mny (Fits)

set_option maxRecDepth 100000 in
set_option maxHeartbeats 6400000 in
theorem posts_walk (A' : Option Addr) (M0 : List Ln) (m' c' : Nat) (b : Int) (r : ByteArray) (A : Option Addr) (l : List Ln) (m c : Nat) (k : Int) (s : ByteArray) (w : World) (hE : Env w) (h : RdE w r A l m c) (h' : RdB w A' M0 m' c') (hk : -9223372036854775808 ≤ k ∧ k ≤ 9223372036854775807) (hs : s.size ≤ 9223372036854775807) :
    Calls Tryd.prog 3 #[.slice A' m' c', .agg #[.int .i64 b, .string r, .slice A m c], acc k s] w fun e w' => e = .returned (.bool true) ∧ Below w.heap.size w w' := by
  obtain ⟨w0, hw⟩ : ∃ w0, w0 = (w.alloc (.cells #[.int .i64 b, .string r, .slice A m c] 25)).alloc (.cells #[.int .i64 k, .string s] 27) := ⟨_, rfl⟩
  have hb0 : Below w.heap.size w w0 := by rw [hw]; exact ((Below.refl _ _).alloc (Nat.le_refl _) _).alloc (by simp) _
  have hbx : BoxE w.heap.size b r A m c w0 := by rw [hw]; exact (BoxE.new _ _ _ _ _ _).below ((Below.refl _ _).alloc (Nat.le_refl _) _) (by simp)
  have hby : BoxA (w.heap.size + 1) k s w0 := by
    have := World.alloc_heap_new (w.alloc (.cells #[.int .i64 b, .string r, .slice A m c] 25)) (.cells #[.int .i64 k, .string s] 27)
    rw [World.size_alloc] at this
    rw [hw]; exact this
  have hz0 : w0.heap.size = w.heap.size + 2 := by rw [hw, World.size_alloc, World.size_alloc]
  have HF : Hid (∀ W, Below w0.heap.size w0 W → BoxE w.heap.size b r A m c W ∧ BoxA (w.heap.size + 1) k s W) := fun W hb => ⟨hbx.below hb (by omega), hby.below hb (by omega)⟩
  have HFitX := Lib.hid (fewL_fit h.fit)
  have HFitB := Lib.hid (fewB_fit h'.fit)
  have HE := Lib.hid hE
  have HFb := Lib.hid (few_at w w0.heap.size A' M0 m' c' h' hb0 (Nat.le_refl _))
  have HFx := Lib.hid (fewx_at w w0.heap.size b r A l m c h hb0 (Nat.le_refl _))
  have HW := Lib.hid hw
  have HB0 := Lib.hid hb0
  have hr1 := cutS_size 25 r
  have hL10 : (fewL l).length ≤ 10 := by rw [fewL_len]; omega
  have hM201 : (fewB M0).length ≤ 201 := by rw [fewB_len]; omega
  have HAw := Lib.hid (fun W (hb : Below w.heap.size w W) => awake_any W (HE.out.below hb))
  generalize cutS 25 r = r1 at *
  generalize fewL l = L at *
  clear hw h h' hE
  obtain ⟨c0, c1, c2, cf⟩ := hbx.cells
  clear hbx hby hb0
  have HZ0 := Lib.hid hz0
  have HL10 := Lib.hid hL10
  have HM201 := Lib.hid hM201
  have HR1 := Lib.hid hr1
  clear hz0 hL10 hM201 hr1
  go_enter Tryd.func3, Tryd.ntmps3
  go_upto_region 1 with fail
  rw [← HW.out]; clear HW
  go_cut [0, 1, 2, 3, 4, 5, 6, 7, 8, 9, 10, 11, 12] from 0 to 16 (fun s0 s1 s2 s3 s4 s5 s6 s7 s8 s9 s10 s11 s12 wx => s1 = .agg #[.int .i64 b, .string r, .slice A m c] ∧ s2 = acc k s ∧ s3 = undef ∧ s4 = .pointer (some ⟨w.heap.size, 0, none⟩) ∧ s5 = .pointer (some ⟨w.heap.size + 1, 0, none⟩) ∧ s6 = .bool false ∧ s7 = undef ∧ s8 = undef ∧ s9 = undef ∧ s10 = undef ∧ s11 = undef ∧ s12 = undef ∧ ∃ Ab nb A1 n1, s0 = .slice Ab (fewB M0).length nb ∧ (Pre w b r1 L k s (fewB M0) A1 n1 Ab nb wx ∧ wx.ownsRow (w.heap.size + 2) 44 3 (.slice A1 L.length n1) L.length (lcs L) ∧ wx.ownsRow (w.heap.size + 2) 51 3 (.slice Ab (fewB M0).length nb) (fewB M0).length (lcs (fewB M0))))
  case first =>
    go_region_with (first | (go_at_call 7; with_reducible refine (HFb.out _ (by first | exact drewB1 (Below.refl _ _) | exact Below.refl _ _ | exact drewB1 (drewB1 (Below.refl _ _)))).mono ?_; rintro e wx ⟨Ab, nb, rfl, hob, hcb, hbx1⟩; have hbx2 : Below w0.heap.size w0 wx := Below.on (by first | exact drewB1 (Below.refl _ _) | exact Below.refl _ _ | exact drewB1 (drewB1 (Below.refl _ _))) hbx1; obtain ⟨gx, gy⟩ := HF.out _ hbx2; obtain ⟨a0, a1, a2, af⟩ := gx.cells) | (go_at_call 8; with_reducible refine (HFx.out _ (by first | exact hbx2 | exact drewB1 hbx2 | exact drewB1 (drewB1 hbx2))).mono ?_; rintro e wy ⟨Ax, nx, rfl, hox, hcx, hby1⟩; have hob2 := own_below hob (Below.on (by first | exact Below.refl _ _ | exact drewB1 (Below.refl _ _) | exact drewB1 (drewB1 (Below.refl _ _))) hby1); have hby2 : Below w0.heap.size w0 wy := Below.on (by first | exact hbx2 | exact drewB1 hbx2 | exact drewB1 (drewB1 hbx2)) hby1; obtain ⟨gx, gy⟩ := HF.out _ hby2; obtain ⟨a0, a1, a2, af⟩ := gx.cells))
    all_goals
      have HT : Hid (Pre w b r1 L k s (fewB M0) Ax nx Ab nb (((wy.setCell ⟨w.heap.size, 0, none⟩ (.int .i64 b)).setCell ⟨w.heap.size, 1, none⟩ (.string r1)).setCell ⟨w.heap.size, 2, none⟩ (.slice Ax L.length nx)) ∧ (((wy.setCell ⟨w.heap.size, 0, none⟩ (.int .i64 b)).setCell ⟨w.heap.size, 1, none⟩ (.string r1)).setCell ⟨w.heap.size, 2, none⟩ (.slice Ax L.length nx)).ownsRow (w.heap.size + 2) 44 3 (.slice Ax L.length nx) L.length (lcs L) ∧ (((wy.setCell ⟨w.heap.size, 0, none⟩ (.int .i64 b)).setCell ⟨w.heap.size, 1, none⟩ (.string r1)).setCell ⟨w.heap.size, 2, none⟩ (.slice Ax L.length nx)).ownsRow (w.heap.size + 2) 51 3 (.slice Ab (fewB M0).length nb) (fewB M0).length (lcs (fewB M0))) :=
        ⟨pre_made (by rw [HZ0.out]; omega) gx gy hox hob2 hcx hcb (HB0.out.trans (hby2.mono (by rw [HZ0.out]; omega))) (by rw [← HZ0.out]; exact hby2.size), own_set (own_set (own_set (own_mono hox (by rw [HZ0.out]; omega)) _ _ (by simp only; omega)) _ _ (by simp only; omega)) _ _ (by simp only; omega), own_set (own_set (own_set (own_mono hob2 (by rw [HZ0.out]; omega)) _ _ (by simp only; omega)) _ _ (by simp only; omega)) _ _ (by simp only; omega)⟩
      clear gx gy a0 a1 a2 af hox hob hob2
      go_wp2
      go_meet
      exact ⟨rfl, rfl, rfl, rfl, rfl, rfl, rfl, rfl, rfl, rfl, rfl, rfl, Ab, nb, Ax, nx, rfl, HT.out⟩
  case rest =>
    obtain ⟨rfl, rfl, rfl, rfl, rfl, rfl, rfl, rfl, rfl, rfl, rfl, rfl, Ab, nb, A1, n1, rfl, hT, hOX, hOB⟩ := hcut
    obtain ⟨w1, rfl⟩ : ∃ y, y = wc := ⟨wc, rfl⟩
    clear c0 c1 c2 cf HF HFb HFx
    obtain ⟨M, hM⟩ : ∃ M, M = fewB M0 := ⟨_, rfl⟩
    have HFM : Hid (fewB M = M) := by show _ = _; rw [hM]; exact fewB_fewB M0
    rw [← hM] at hT hOB HFitB HM201 ⊢
    clear hM
    have HT0 := Lib.hid hT
    have HOX := Lib.hid hOX
    have HOB := Lib.hid hOB
    obtain ⟨a0, a1, af⟩ := hT.y.cells
    clear hT hOX hOB
    go_upto_if 20 with fail
    go_cut [6] from 21 to 24 (fun s6 wx => s6 = .bool false ∧ Pre w b r1 L k (cutS 20 s) M A1 n1 Ab nb wx)
    case first =>
      by_cases hl : 20 < s.size
      · have hl' : (20 : Int) < s.size := by omega
        have HC : Hid (Pre w b r1 L k (cutS 20 s) M A1 n1 Ab nb (w1.setCell ⟨w.heap.size + 1, 1, none⟩ (.string (s.extract 0 20)))) := by
          rw [cutS_long hl]; exact Pre.cut HT0.out (Nat.le_refl _) HOX.out HOB.out _
        go_wp2_with fail
        go_meet
        exact ⟨rfl, HC.out⟩
      · have hl' : ¬ (20 : Int) < s.size := by omega
        have HC : Hid (Pre w b r1 L k (cutS 20 s) M A1 n1 Ab nb w1) := by
          rw [cutS_short hl]; exact HT0.out
        go_wp2_with fail
        go_meet
        exact ⟨rfl, HC.out⟩
    case rest =>
    obtain ⟨rfl, hT⟩ := hcut
    obtain ⟨w2, rfl⟩ : ∃ y, y = wc := ⟨wc, rfl⟩
    clear a0 a1 af HT0 HOX HOB
    have ht20 := cutS_size 20 s
    have HFA : Hid (fitA ⟨k, cutS 20 s, 0⟩) := ⟨hk, by show (cutS 20 s).size ≤ 1000; omega⟩
    generalize cutS 20 s = t at *
    clear ht20 hs
    obtain ⟨mM, hmM⟩ : ∃ mM, mM = M.length := ⟨_, rfl⟩
    have HMM := Lib.hid hmM
    have hm9 : mM ≤ 201 := by have := HM201.out; omega
    obtain ⟨mL, hmL⟩ : ∃ mL, mL = L.length := ⟨_, rfl⟩
    have HML := Lib.hid hmL
    have hml9 : mL ≤ 10 := by have := HL10.out; omega
    have HT2 := Lib.hid hT
    have HFW := Lib.hid (fewB_any Ab M mM nb w2 hT.lb hmM.symm (by rw [hmM]; exact hT.cb) (fun x hx => by have := (HFitB.out x hx).2.1; omega))
    rw [HFM.out] at HFW
    clear hT
    rw [← hmM]
    clear hmM hmL
    go_wp2_with fail
    refine HFW.out.mono ?_
    rintro e w3 ⟨v3, rfl, ho, hb⟩
    obtain ⟨A3, n3, hv3, -⟩ := own_sl ho
    subst hv3
    have HT3 := Lib.hid (HT2.out.next hb)
    have HL3 := Lib.hid (own_lns ho rfl)
    clear ho hb HFW
    have HP := Lib.hid (fun (W : World) (hT : Pre w b r1 L k t M A1 n1 Ab nb W) => post1_any Ab M mM nb b r1 A1 L mL n1 W (HE.out.below hT.bel) hT.lb HMM.out.symm (by omega) HFitB.out hT.lx HML.out.symm (by omega) (by rw [HML.out]; exact hT.cx) HFitX.out)
    have HRP := Lib.hid (fun (W : World) (hT : Pre w b r1 L k t M A1 n1 Ab nb W) => rpost_any Ab M mM nb b r1 A1 L mL n1 W hT.lb HMM.out.symm (by omega) HFitB.out hT.lx HML.out.symm (by omega) (by have := HR1.out; omega) HFitX.out)
    have HPL := post1_len M L b r1
    obtain ⟨c0, c1, c2, cf⟩ := HT3.out.x.cells
    rw [← HML.out] at c2
    go_wp2_with fail
    refine (HP.out w3 HT3.out).mono ?_
    rintro e w4 hpo
    obtain ⟨A4, n4, rfl, ho4, hn4, hb⟩ := posted_sl hpo
    have HT4 := Lib.hid (HT3.out.next hb)
    have HL4 := Lib.hid (own_lns ho4 rfl)
    have HL34 := Lib.hid (HL3.out.next hb)
    clear c0 c1 c2 cf hpo ho4 hn4 hb
    obtain ⟨c0, c1, c2, cf⟩ := HT4.out.x.cells
    rw [← HML.out] at c2
    go_wp2_with fail
    refine (HRP.out w4 HT4.out).mono ?_
    rintro e w5 hpo
    obtain ⟨A5, n5, rfl, ho5, hn5, hb⟩ := posted_sl hpo
    have HT5 := Lib.hid (HT4.out.next hb)
    have HL5 := Lib.hid (own_lns ho5 rfl)
    have HL45 := Lib.hid (HL4.out.next hb)
    have HL35 := Lib.hid (HL34.out.next hb)
    clear c0 c1 c2 cf hpo ho5 hn5 hb HP HRP
    generalize (post1 M b r1 L).1 = pc at *
    generalize (post1 M b r1 L).2 = pl at *
    obtain ⟨mp, hmp⟩ : ∃ mp, mp = pl.length := ⟨_, rfl⟩
    have HMP := Lib.hid hmp
    have HS1 := Lib.hid (rsame_any A4 A5 pl pl mp mp n4 n5 w5 HL45.out HL5.out hmp.symm hmp.symm (by omega) (by omega))
    rw [decide_eq_true rfl] at HS1
    rw [← hmp]
    clear hmp HPL HL45 HL5
    go_wp2_with fail
    refine HS1.out.mono ?_
    rintro e w6 ⟨rfl, hb⟩
    have HT6 := Lib.hid (HT5.out.next hb)
    have HS2 := Lib.hid (rsame_any Ab A3 M M mM mM nb n3 w6 HT6.out.lb (HL35.out.next hb) HMM.out.symm HMM.out.symm (by omega) (by omega))
    rw [decide_eq_true rfl, ] at HS2
    clear hb HS1
    rw [← HMM.out]
    go_wp2_with fail
    refine HS2.out.mono ?_
    rintro e w7 ⟨rfl, hb⟩
    have HT7 := Lib.hid (HT6.out.next hb)
    have HM7 := Lib.hid (may_any Ab M mM nb w7 (HE.out.below HT7.out.bel) HT7.out.lb HMM.out.symm (by omega) HFitB.out)
    clear hb HS2
    go_wp2_with fail
    refine HM7.out.mono ?_
    rintro e w8 ⟨rfl, hb⟩
    have HT8 := Lib.hid (HT7.out.next hb)
    have HM8 := Lib.hid (rmay_any Ab M mM nb w8 HT8.out.lb HMM.out.symm (by omega) HFitB.out)
    clear hb HM7
    go_wp2_with fail
    refine HM8.out.mono ?_
    rintro e w9 ⟨rfl, hb⟩
    have HT9 := Lib.hid (HT8.out.next hb)
    have HM9 := Lib.hid (rmay_any Ab M mM nb w9 HT9.out.lb HMM.out.symm (by omega) HFitB.out)
    clear hb HM8
    go_wp2_with fail
    refine HM9.out.mono ?_
    rintro e w10 ⟨rfl, hb⟩
    have HT10 := Lib.hid (HT9.out.next hb)
    have HGT := Lib.hid (fun (W : World) (hT : Pre w b r1 L k t M A1 n1 Ab nb W) => get_any Ab M mM nb ⟨k, t, 0⟩ W (HE.out.below hT.bel) hT.lb HMM.out.symm (by omega) HFitB.out HFA.out)
    have HRG := Lib.hid (rget_any Ab M mM nb ⟨k, t, 0⟩ w10 HT10.out.lb HMM.out.symm (by omega))
    obtain ⟨d0, d1, df⟩ := HT10.out.y.cells
    clear hb HM9
    cases hmb : mayB M with
    | true =>
      rw [hmb, if_pos rfl] at HGT
      clear hmb
      generalize onL M ⟨k, t, 0⟩ = gv at *
      go_wp2_with fail
      refine HRG.out.mono ?_
      rintro e w11 ⟨rfl, hb⟩
      have HT11 := Lib.hid (HT10.out.next hb)
      clear hb d0 d1 df
      obtain ⟨d0, d1, df⟩ := HT11.out.y.cells
      go_wp2_with fail
      refine (HGT.out w11 HT11.out).mono ?_
      rintro e w12 ⟨rfl, hb⟩
      have HB12 := Lib.hid (HT11.out.bel.trans (hb.mono HT11.out.bel.size))
      clear hb d0 d1 df
      go_wp2_with fail
      refine (HAw.out w12 HB12.out).mono ?_
      rintro e w13 ⟨rfl, hb⟩
      go_wp2_with fail
      go_ret
      exact ⟨by rfl, Below.on HB12.out hb⟩
    | false =>
      rw [hmb, if_neg (by decide)] at HGT
      clear hmb
      go_wp2_with fail
      refine (HGT.out w10 HT10.out).mono ?_
      rintro e w12 ⟨rfl, hb⟩
      have HB12 := Lib.hid (HT10.out.bel.trans (hb.mono HT10.out.bel.size))
      clear hb d0 d1 df
      go_wp2_with fail
      refine (HAw.out w12 HB12.out).mono ?_
      rintro e w13 ⟨rfl, hb⟩
      go_wp2_with fail
      go_ret
      exact ⟨by rfl, Below.on HB12.out hb⟩
end Go.Proofs.YtejdhemnlcbffaaDoor.Bok
