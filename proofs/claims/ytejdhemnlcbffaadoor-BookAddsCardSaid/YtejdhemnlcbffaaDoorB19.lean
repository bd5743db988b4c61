/- The walk of the law BookAdds. Conditions: the two arrays of the program hold what their initialisers lay. -/
import Derived.Test.YtejdhemnlcbffaaDoorBMathB
namespace Go.Proofs.YtejdhemnlcbffaaDoor.Bok
open Go.RowKit Cht Ent
open Go.Proofs.YtejdhemnlcbffaaDoor.Any (wp_region_by Phi phi_stab wpOp_of wanted_of wp_value ev frame_of kept_all)
open Mny (Fits)

theorem onF {l : List Ln} (h : FitB l) (a : Ln) : -9223372036854775808 ≤ onL l a ∧ onL l a ≤ 9223372036854775807 := onL_fit h a

set_option maxRecDepth 100000 in
set_option maxHeartbeats 6400000 in
theorem adds_walk (A' : Option Addr) (M0 : List Ln) (m' c' : Nat) (b : Int) (r : ByteArray) (A : Option Addr) (l : List Ln) (m c : Nat) (k : Int) (s : ByteArray) (w : World) (hE : Env w) (h : RdE w r A l m c) (h' : RdB w A' M0 m' c') (hk : -9223372036854775808 ≤ k ∧ k ≤ 9223372036854775807) (hs : s.size ≤ 9223372036854775807) :
    Calls Tryd.prog 6 #[.slice A' m' c', .agg #[.int .i64 b, .string r, .slice A m c], acc k s] w fun e w' => e = .returned (.bool true) ∧ Below w.heap.size w w' := by
  obtain ⟨w0, hw⟩ : ∃ w0, w0 = (w.alloc (.cells #[.int .i64 b, .string r, .slice A m c] 25)).alloc (.cells #[.int .i64 k, .string s] 27) := ⟨_, rfl⟩
  have hb0 : Below w.heap.size w w0 := by rw [hw]; exact ((Below.refl _ _).alloc (Nat.le_refl _) _).alloc (by simp) _
  have hbx : BoxE w.heap.size b r A m c w0 := by rw [hw]; exact (BoxE.new _ _ _ _ _ _).below ((Below.refl _ _).alloc (Nat.le_refl _) _) (by simp)
  have hby : BoxA (w.heap.size + 1) k s w0 := by
    have := World.alloc_heap_new (w.alloc (.cells #[.int .i64 b, .string r, .slice A m c] 25)) (.cells #[.int .i64 k, .string s] 27)
    rw [World.size_alloc] at this
    rw [hw]; exact this
  have hz0 : w0.heap.size = w.heap.size + 2 := by rw [hw, World.size_alloc, World.size_alloc]
  have HF : Hid (∀ W, Below w0.heap.size w0 W → BoxE w.heap.size b r A m c W ∧ BoxA (w.heap.size + 1) k s W) := fun W hb => ⟨hbx.below hb (by omega), hby.below hb (by omega)⟩
  have HFitX := Lib.hid (fewL_fit h.fit)
  have HFitB := Lib.hid (fewB_fit h'.fit)
  have HE := Lib.hid hE
  have HFb := Lib.hid (few_at w w0.heap.size A' M0 m' c' h' hb0 (Nat.le_refl _))
  have HFx := Lib.hid (fewx_at w w0.heap.size b r A l m c h hb0 (Nat.le_refl _))
  have HW := Lib.hid hw
  have HB0 := Lib.hid hb0
  have hr1 := cutS_size 25 r
  have hL10 : (fewL l).length ≤ 10 := by rw [fewL_len]; omega
  have hM201 : (fewB M0).length ≤ 201 := by rw [fewB_len]; omega
  have HAw := Lib.hid (fun W (hb : Below w.heap.size w W) => awake_any W (HE.out.below hb))
  generalize cutS 25 r = r1 at *
  generalize fewL l = L at *
  clear hw h h' hE
  obtain ⟨c0, c1, c2, cf⟩ := hbx.cells
  clear hbx hby hb0
  have HZ0 := Lib.hid hz0
  have HL10 := Lib.hid hL10
  have HM201 := Lib.hid hM201
  have HR1 := Lib.hid hr1
  clear hz0 hL10 hM201 hr1
  go_enter Tryd.func6, Tryd.ntmps6
  go_upto_region 1 with fail
  rw [← HW.out]; clear HW
  go_cut [0, 1, 2, 3, 4, 5, 6, 7, 8, 9, 10] from 0 to 14 (fun s0 s1 s2 s3 s4 s5 s6 s7 s8 s9 s10 wx => s1 = .agg #[.int .i64 b, .string r, .slice A m c] ∧ s2 = acc k s ∧ s3 = undef ∧ s4 = .pointer (some ⟨w.heap.size, 0, none⟩) ∧ s5 = .pointer (some ⟨w.heap.size + 1, 0, none⟩) ∧ s6 = .bool false ∧ s7 = undef ∧ s8 = undef ∧ s9 = undef ∧ s10 = undef ∧ ∃ Ab nb A1 n1, s0 = .slice Ab (fewB M0).length nb ∧ (Pre w b r1 L k s (fewB M0) A1 n1 Ab nb wx ∧ wx.ownsRow (w.heap.size + 2) 44 3 (.slice A1 L.length n1) L.length (lcs L) ∧ wx.ownsRow (w.heap.size + 2) 51 3 (.slice Ab (fewB M0).length nb) (fewB M0).length (lcs (fewB M0))))
  case first =>
    go_region_with (first | (go_at_call 7; with_reducible refine (HFb.out _ (by first | exact drewB1 (Below.refl _ _) | exact Below.refl _ _ | exact drewB1 (drewB1 (Below.refl _ _)))).mono ?_; rintro e wx ⟨Ab, nb, rfl, hob, hcb, hbx1⟩; have hbx2 : Below w0.heap.size w0 wx := Below.on (by first | exact drewB1 (Below.refl _ _) | exact Below.refl _ _ | exact drewB1 (drewB1 (Below.refl _ _))) hbx1; obtain ⟨gx, gy⟩ := HF.out _ hbx2; obtain ⟨a0, a1, a2, af⟩ := gx.cells) | (go_at_call 8; with_reducible refine (HFx.out _ (by first | exact hbx2 | exact drewB1 hbx2 | exact drewB1 (drewB1 hbx2))).mono ?_; rintro e wy ⟨Ax, nx, rfl, hox, hcx, hby1⟩; have hob2 := own_below hob (Below.on (by first | exact Below.refl _ _ | exact drewB1 (Below.refl _ _) | exact drewB1 (drewB1 (Below.refl _ _))) hby1); have hby2 : Below w0.heap.size w0 wy := Below.on (by first | exact hbx2 | exact drewB1 hbx2 | exact drewB1 (drewB1 hbx2)) hby1; obtain ⟨gx, gy⟩ := HF.out _ hby2; obtain ⟨a0, a1, a2, af⟩ := gx.cells))
    all_goals
      have HT : Hid (Pre w b r1 L k s (fewB M0) Ax nx Ab nb (((wy.setCell ⟨w.heap.size, 0, none⟩ (.int .i64 b)).setCell ⟨w.heap.size, 1, none⟩ (.string r1)).setCell ⟨w.heap.size, 2, none⟩ (.slice Ax L.length nx)) ∧ (((wy.setCell ⟨w.heap.size, 0, none⟩ (.int .i64 b)).setCell ⟨w.heap.size, 1, none⟩ (.string r1)).setCell ⟨w.heap.size, 2, none⟩ (.slice Ax L.length nx)).ownsRow (w.heap.size + 2) 44 3 (.slice Ax L.length nx) L.length (lcs L) ∧ (((wy.setCell ⟨w.heap.size, 0, none⟩ (.int .i64 b)).setCell ⟨w.heap.size, 1, none⟩ (.string r1)).setCell ⟨w.heap.size, 2, none⟩ (.slice Ax L.length nx)).ownsRow (w.heap.size + 2) 51 3 (.slice Ab (fewB M0).length nb) (fewB M0).length (lcs (fewB M0))) :=
        ⟨pre_made (by rw [HZ0.out]; omega) gx gy hox hob2 hcx hcb (HB0.out.trans (hby2.mono (by rw [HZ0.out]; omega))) (by rw [← HZ0.out]; exact hby2.size), own_set (own_set (own_set (own_mono hox (by rw [HZ0.out]; omega)) _ _ (by simp only; omega)) _ _ (by simp only; omega)) _ _ (by simp only; omega), own_set (own_set (own_set (own_mono hob2 (by rw [HZ0.out]; omega)) _ _ (by simp only; omega)) _ _ (by simp only; omega)) _ _ (by simp only; omega)⟩
      clear gx gy a0 a1 a2 af hox hob hob2
      go_wp2
      go_meet
      exact ⟨rfl, rfl, rfl, rfl, rfl, rfl, rfl, rfl, rfl, rfl, Ab, nb, Ax, nx, rfl, HT.out⟩
  case rest =>
    obtain ⟨rfl, rfl, rfl, rfl, rfl, rfl, rfl, rfl, rfl, rfl, Ab, nb, A1, n1, rfl, hT, hOX, hOB⟩ := hcut
    obtain ⟨w1, rfl⟩ : ∃ y, y = wc := ⟨wc, rfl⟩
    clear c0 c1 c2 cf HF HFb HFx
    obtain ⟨M, hM⟩ : ∃ M, M = fewB M0 := ⟨_, rfl⟩
    rw [← hM] at hT hOB HFitB HM201 ⊢
    clear hM
    obtain ⟨mM, hmM⟩ : ∃ mM, mM = M.length := ⟨_, rfl⟩
    have HMM := Lib.hid hmM
    have hm9 : mM ≤ 201 := by have := HM201.out; omega
    obtain ⟨mL, hmL⟩ : ∃ mL, mL = L.length := ⟨_, rfl⟩
    have HML := Lib.hid hmL
    have hml9 : mL ≤ 10 := by have := HL10.out; omega
    have HT1 := Lib.hid hT
    have hP := post1_any Ab M mM nb b r1 A1 L mL n1 w1 (HE.out.below hT.bel) hT.lb hmM.symm (by omega) HFitB.out hT.lx hmL.symm (by omega) (by rw [hmL]; exact hT.cx) HFitX.out
    have HPC := Lib.hid (fun (W : World) (hW : Below w1.heap.size w1 W) => hW)
    have HP := Lib.hid hP
    obtain ⟨d0, d1, d2, df⟩ := hT.x.cells
    rw [← hmL] at d2
    have HOXB : Hid (w1.ownsRow (w.heap.size + 2) 44 3 (.slice A1 L.length n1) L.length (lcs L) ∧ w1.ownsRow (w.heap.size + 2) 51 3 (.slice Ab M.length nb) M.length (lcs M)) := ⟨hOX, hOB⟩
    clear hT hP hOX hOB HPC
    rw [← hmM]
    clear hmM hmL
    go_wp2_with fail
    refine HP.out.mono ?_
    rintro e w2 hpo
    obtain ⟨Ac, nc, rfl, hoc, hnc, hb⟩ := posted_sl hpo
    have HT2 := Lib.hid (HT1.out.next hb)
    have HOXB2 : Hid (w2.ownsRow (w.heap.size + 2) 44 3 (.slice A1 L.length n1) L.length (lcs L) ∧ w2.ownsRow (w.heap.size + 2) 51 3 (.slice Ab M.length nb) M.length (lcs M)) := ⟨own_below HOXB.out.1 hb, own_below HOXB.out.2 hb⟩
    have HOC : Hid (w2.ownsRow (w.heap.size + 2) 51 3 (.slice Ac (post1 M b r1 L).2.length nc) (post1 M b r1 L).2.length (lcs (post1 M b r1 L).2)) := own_mono hoc HT1.out.sz
    have HBK := Lib.hid (fun h0 => post1_book (l := M) (xs := L) (b := b) (r := r1) h0 HFitB.out HFitX.out)
    have HNB := Lib.hid (post1_two M L b r1)
    have HMB : Hid ((post1 M b r1 L).1 = 0 → mayB M = true) := fun h0 => (post1_in h0).1
    have hpl := post1_len M L b r1
    clear hpo hoc hnc hb d0 d1 d2 df HP HOXB
    generalize (post1 M b r1 L).1 = pc at *
    generalize (post1 M b r1 L).2 = C at *
    obtain ⟨mc, hmc⟩ : ∃ mc, mc = C.length := ⟨_, rfl⟩
    have HMC0 := Lib.hid hmc
    have hmc9 : mc ≤ 200 := by omega
    rw [← hmc] at HOC ⊢
    clear hmc hpl
    by_cases hp0 : pc = 0
    case neg =>
      have hp0' : (pc != 0) = true := by simpa using hp0
      have hz : mc = 0 := by rw [HMC0.out, HNB.out hp0]; rfl
      subst hz
      have HZ := Lib.hid hp0
      clear hp0
      go_wp2_with fail
      refine (HAw.out w2 HT2.out.bel).mono ?_
      rintro e w3 ⟨rfl, hb⟩
      go_wp2_with fail
      go_ret
      exact ⟨by rfl, Below.on HT2.out.bel hb⟩
    case pos =>
    have HKB := Lib.hid (HBK.out hp0)
    have HMY := Lib.hid (HMB.out hp0)
    subst hp0
    clear HBK HMB HNB
    obtain ⟨a0, a1, af⟩ := HT2.out.y.cells
    go_upto_if 32 with fail
    go_cut [6] from 33 to 36 (fun s6 wx => s6 = .bool false ∧ (Pre w b r1 L k (cutS 20 s) M A1 n1 Ab nb wx ∧ Lns wx wx.heap.size Ac C))
    case first =>
      by_cases hl : 20 < s.size
      · have hl' : (20 : Int) < s.size := by omega
        have HC : Hid (Pre w b r1 L k (cutS 20 s) M A1 n1 Ab nb (w2.setCell ⟨w.heap.size + 1, 1, none⟩ (.string (s.extract 0 20))) ∧ Lns (w2.setCell ⟨w.heap.size + 1, 1, none⟩ (.string (s.extract 0 20))) (w2.setCell ⟨w.heap.size + 1, 1, none⟩ (.string (s.extract 0 20))).heap.size Ac C) := by
          rw [cutS_long hl]
          exact ⟨Pre.cut HT2.out (Nat.le_refl _) HOXB2.out.1 HOXB2.out.2 _, own_lns (own_set HOC.out _ _ (by simp only; omega)) HMC0.out⟩
        go_wp2_with fail
        go_meet
        exact ⟨rfl, HC.out⟩
      · have hl' : ¬ (20 : Int) < s.size := by omega
        have HC : Hid (Pre w b r1 L k (cutS 20 s) M A1 n1 Ab nb w2 ∧ Lns w2 w2.heap.size Ac C) := by
          rw [cutS_short hl]; exact ⟨HT2.out, own_lns HOC.out HMC0.out⟩
        go_wp2_with fail
        go_meet
        exact ⟨rfl, HC.out⟩
    case rest =>
    obtain ⟨rfl, hT, hLC⟩ := hcut
    obtain ⟨w3, rfl⟩ : ∃ y, y = wc := ⟨wc, rfl⟩
    clear a0 a1 af HT2 HOXB2 HOC HT1
    have HT3 := Lib.hid hT
    have HLC := Lib.hid hLC
    have ht20 := cutS_size 20 s
    have HFA : Hid (fitA ⟨k, cutS 20 s, 0⟩) := ⟨hk, by show (cutS 20 s).size ≤ 1000; omega⟩
    generalize cutS 20 s = t at *
    clear ht20 hs hT hLC
    have hz3 := HT3.out.sz
    -- what is told in any world from here on
    have HG : Hid (∀ (a : Ln), fitA a → ∀ W, Below w3.heap.size w3 W → (Calls Tryd.prog 15 #[.slice Ac mc nc, acc a.k a.s] W fun e w' => e = .returned (.int .i64 (onL M a + onL L a)) ∧ Below W.heap.size W w') ∧ (Calls Tryd.prog 15 #[.slice Ab mM nb, acc a.k a.s] W fun e w' => e = .returned (.int .i64 (onL M a)) ∧ Below W.heap.size W w') ∧ (Calls Tryd.prog 22 #[.agg #[.int .i64 b, .string r1, .slice A1 mL n1], acc a.k a.s] W fun e w' => e = .returned (.int .i64 (onL L a)) ∧ Below W.heap.size W w')) := fun a ha W hW => by
      have hTW := HT3.out.next hW
      have g1 := get_any Ac C mc nc a W (HE.out.below hTW.bel) (HLC.out.next hW) HMC0.out.symm (by omega) HKB.out.2.1 ha
      rw [if_pos HKB.out.1, HKB.out.2.2] at g1
      have g2 := get_any Ab M mM nb a W (HE.out.below hTW.bel) hTW.lb HMM.out.symm (by omega) HFitB.out ha
      rw [if_pos HMY.out] at g2
      exact ⟨g1, g2, on_any b r1 A1 L mL n1 a W hTW.lx HML.out.symm (by omega)⟩
    have HGF : Hid (∀ a : Ln, (-9223372036854775808 ≤ onL M a + onL L a ∧ onL M a + onL L a ≤ 9223372036854775807)) := fun a => by
      have := onF HKB.out.2.1 a
      rwa [HKB.out.2.2] at this
    have HGM : Hid (∀ W, Below w3.heap.size w3 W → Calls Tryd.prog 12 #[.slice Ac mc nc] W fun e w' => e = .returned (.bool true) ∧ Below W.heap.size W w') := fun W hW => by
      have := may_any Ac C mc nc W (HE.out.below (HT3.out.next hW).bel) (HLC.out.next hW) HMC0.out.symm (by omega) HKB.out.2.1
      rwa [HKB.out.1] at this
    go_wp2_with fail
    go_loopw [9] (fun i wr => ∃ q : Nat, q ≤ mL ∧ i = .int .i64 q ∧ Hid (Below w3.heap.size w3 wr)) (fun i _ => mL - (intOf i).toNat)
    case atStart => exact ⟨0, Nat.zero_le _, rfl, Below.refl _ _⟩
    case round =>
      obtain ⟨q, hq, rfl, HB⟩ := hrel
      have hwr := HB.out.size
      have HTR := Lib.hid (HT3.out.next HB.out)
      obtain ⟨e0, e1, e2, ef⟩ := HTR.out.x.cells
      rw [← HML.out] at e2
      by_cases hlt : q < mL
      · have hki : (q : Int) < mL := by omega
        have hlt' : q < L.length := by have := HML.out; omega
        have hfy := HFitX.out _ (List.getElem_mem hlt')
        obtain ⟨b0, o0, hA1, hb1, q1, q2, q3⟩ := HTR.out.lx q hlt'
        subst hA1
        obtain ⟨w7, hw7⟩ : ∃ w7, w7 = wr.alloc (.cells #[.int .i64 L[q].k, .string L[q].s] 27) := ⟨_, rfl⟩
        have hb7 : Below wr.heap.size wr w7 := by rw [hw7]; exact (Below.refl _ _).alloc (Nat.le_refl _) _
        have hz7 : w7.heap.size = wr.heap.size + 1 := by rw [hw7, World.size_alloc]
        have hby : BoxA wr.heap.size L[q].k L[q].s w7 := by rw [hw7]; exact World.alloc_heap_new wr _
        have HB7 : Hid (Below w3.heap.size w3 w7) := HB.out.trans (hb7.mono hwr)
        have HFY : Hid (fitA L[q]) := ⟨hfy.1, hfy.2.1⟩
        have HGQ := Lib.hid (fun (W : World) (hW : Below w7.heap.size w7 W) => HG.out L[q] HFY.out W (HB7.out.trans (hW.mono (by omega))))
        have hgf := HGF.out L[q]
        have HW7 := Lib.hid hw7
        obtain ⟨y0, y1, yf⟩ := hby.cells
        have hx7 := HTR.out.x.below hb7 (by omega)
        obtain ⟨x0, x1, x2, xf⟩ := hx7.cells
        rw [← HML.out] at x2
        have Y0 := Lib.hid y0
        have Y1 := Lib.hid y1
        have X0 := Lib.hid x0
        have X1 := Lib.hid x1
        have X2 := Lib.hid x2
        have LY : Hid (wr.heap.size < w7.heap.size) := by show _ < _; omega
        have LX : Hid (w.heap.size < w7.heap.size) := by show _ < _; omega
        clear hw7 hfy hby y0 y1 yf x0 x1 x2 xf hx7
        generalize L[q] = y at *
        have HGC := Lib.hid (fun (W : World) (hW : Below w7.heap.size w7 W) => (HGQ.out W hW).1)
        have HGB := Lib.hid (fun (W : World) (hW : Below w7.heap.size w7 W) => (HGQ.out W hW).2.1)
        have HON := Lib.hid (fun (W : World) (hW : Below w7.heap.size w7 W) => (HGQ.out W hW).2.2)
        generalize onL M y = gb at *
        generalize onL L y = go at *
        obtain ⟨gc, hgc⟩ : ∃ gc, gc = gb + go := ⟨_, rfl⟩
        have HGE := Lib.hid hgc
        have HEQ : Hid ((gc != gb + go) = false) := by show _ = _; rw [hgc]; simp
        rw [← hgc] at HGC
        have hg1 := hgf.1
        have hg2 := hgf.2
        clear hgc HGQ hgf
        go_upto_region 11 with fail
        rw [← HW7.out]
        clear e0 e1 e2 ef q1 q2 q3
        go_cut [60] from 50 to 60 (fun s60 wx => s60 = .bool false ∧ Below w7.heap.size w7 wx)
        case first =>
          refine wp_region_by (by kernel_rfl) (Phi [.val (.slice Ac mc nc), .val (acc y.k y.s), .val (.int .i64 gc), .val (.slice Ab mM nb), .val (acc y.k y.s), .val (.int .i64 gb), .val (.agg #[.int .i64 b, .string r1, .slice (some ⟨b0, o0, none⟩) mL n1]), .val (acc y.k y.s), .val (.int .i64 go), .val (.int .i64 (gb + go)), .val (.bool false)]) (phi_stab _) (by kernel_rfl) ?step11 ?fin11
          case step11 =>
            intro i o listed a1 w9 ho hk hdep
            have hi : i < 11 := (Array.getElem?_eq_some_iff.1 ho).1
            have e0 := ev (show a1.eval (.tmp 0) = .slice Ab mM nb from hk.frame 0 (frame_of (by kernel_rfl)))
            have e4 := ev (show a1.eval (.tmp 4) = .pointer (some ⟨w.heap.size, 0, none⟩) from hk.frame 4 (frame_of (by kernel_rfl)))
            have e7 := ev (show a1.eval (.tmp 7) = .slice Ac mc nc from hk.frame 7 (frame_of (by kernel_rfl)))
            have e10 := ev (show a1.eval (.tmp 10) = .pointer (some ⟨wr.heap.size, 0, none⟩) from hk.frame 10 (frame_of (by kernel_rfl)))
            have hii : i = 0 ∨ i = 1 ∨ i = 2 ∨ i = 3 ∨ i = 4 ∨ i = 5 ∨ i = 6 ∨ i = 7 ∨ i = 8 ∨ i = 9 ∨ i = 10 := by omega
            rcases hii with rfl | rfl | rfl | rfl | rfl | rfl | rfl | rfl | rfl | rfl | rfl
            · cases ho
              refine wpOp_of rfl rfl (wp_value (v := .slice Ac mc nc) ?_ rfl)
              simp [execOp, e7, Act.eval]
            · cases ho
              refine wpOp_of rfl rfl (wp_value (v := acc y.k y.s) ?_ rfl)
              have z1 := (hk.below.cell (p := ⟨wr.heap.size, 0, none⟩) LY.out).trans Y0.out
              have z2 := (hk.below.cell (p := ⟨wr.heap.size, 1, none⟩) LY.out).trans Y1.out
              go_simp
            · cases ho
              have d0 := ev (show a1.eval (.tmp 50) = .slice Ac mc nc from hk.done 0 _ 50 rfl rfl (hdep ⟨0, .data⟩ (by simp) rfl))
              have d1 := ev (show a1.eval (.tmp 51) = acc y.k y.s from hk.done 1 _ 51 rfl rfl (hdep ⟨1, .data⟩ (by simp) rfl))
              refine wpOp_of rfl rfl ?_
              go_simp
              refine (HGC.out w9 (hk.below)).mono ?_
              rintro e w10 ⟨rfl, hb4⟩
              exact ⟨_, rfl, rfl, hb4⟩
            · cases ho
              refine wpOp_of rfl rfl (wp_value (v := .slice Ab mM nb) ?_ rfl)
              simp [execOp, e0, Act.eval]
            · cases ho
              refine wpOp_of rfl rfl (wp_value (v := acc y.k y.s) ?_ rfl)
              have z1 := (hk.below.cell (p := ⟨wr.heap.size, 0, none⟩) LY.out).trans Y0.out
              have z2 := (hk.below.cell (p := ⟨wr.heap.size, 1, none⟩) LY.out).trans Y1.out
              go_simp
            · cases ho
              have d3 := ev (show a1.eval (.tmp 53) = .slice Ab mM nb from hk.done 3 _ 53 rfl rfl (hdep ⟨3, .data⟩ (by simp) rfl))
              have d4 := ev (show a1.eval (.tmp 54) = acc y.k y.s from hk.done 4 _ 54 rfl rfl (hdep ⟨4, .data⟩ (by simp) rfl))
              refine wpOp_of rfl rfl ?_
              go_simp
              refine (HGB.out w9 (hk.below)).mono ?_
              rintro e w10 ⟨rfl, hb4⟩
              exact ⟨_, rfl, rfl, hb4⟩
            · cases ho
              refine wpOp_of rfl rfl (wp_value (v := .agg #[.int .i64 b, .string r1, .slice (some ⟨b0, o0, none⟩) mL n1]) ?_ rfl)
              have z1 := (hk.below.cell (p := ⟨w.heap.size, 0, none⟩) LX.out).trans X0.out
              have z2 := (hk.below.cell (p := ⟨w.heap.size, 1, none⟩) LX.out).trans X1.out
              have z3 := (hk.below.cell (p := ⟨w.heap.size, 2, none⟩) LX.out).trans X2.out
              go_simp
            · cases ho
              refine wpOp_of rfl rfl (wp_value (v := acc y.k y.s) ?_ rfl)
              have z1 := (hk.below.cell (p := ⟨wr.heap.size, 0, none⟩) LY.out).trans Y0.out
              have z2 := (hk.below.cell (p := ⟨wr.heap.size, 1, none⟩) LY.out).trans Y1.out
              go_simp
            · cases ho
              have d6 := ev (show a1.eval (.tmp 56) = .agg #[.int .i64 b, .string r1, .slice (some ⟨b0, o0, none⟩) mL n1] from hk.done 6 _ 56 rfl rfl (hdep ⟨6, .data⟩ (by simp) rfl))
              have d7 := ev (show a1.eval (.tmp 57) = acc y.k y.s from hk.done 7 _ 57 rfl rfl (hdep ⟨7, .data⟩ (by simp) rfl))
              refine wpOp_of rfl rfl ?_
              go_simp
              refine (HON.out w9 (hk.below)).mono ?_
              rintro e w10 ⟨rfl, hb4⟩
              exact ⟨_, rfl, rfl, hb4⟩
            · cases ho
              have d5 := ev (show a1.eval (.tmp 55) = .int .i64 gb from hk.done 5 _ 55 rfl rfl (hdep ⟨5, .data⟩ (by simp) rfl))
              have d8 := ev (show a1.eval (.tmp 58) = .int .i64 go from hk.done 8 _ 58 rfl rfl (hdep ⟨8, .data⟩ (by simp) rfl))
              refine wpOp_of rfl rfl (wp_value (v := .int .i64 (gb + go)) ?_ rfl)
              go_simp
              rw [IntKind.wrap_i64]; omega
            · cases ho
              have d2 := ev (show a1.eval (.tmp 52) = .int .i64 gc from hk.done 2 _ 52 rfl rfl (hdep ⟨2, .data⟩ (by simp) rfl))
              have d9 := ev (show a1.eval (.tmp 59) = .int .i64 (gb + go) from hk.done 9 _ 59 rfl rfl (hdep ⟨9, .data⟩ (by simp) rfl))
              refine wpOp_of rfl rfl (wp_value (v := .bool false) ?_ rfl)
              go_simp
              first | exact HGE.out | exact HEQ.out
          case fin11 =>
            intro listed a2 w2 hk hall
            have h60 : a2.eval (.tmp 60) = .bool false := hk.done 10 _ 60 rfl rfl (hall 10 (by decide))
            have hact := kept_all [50, 51, 52, 53, 54, 55, 56, 57, 58, 59, 60] hk (by kernel_rfl)
            have HB := Lib.hid hk.below
            simp only [List.foldl_cons, List.foldl_nil, List.setIfInBounds_toArray, List.set_cons_succ, List.set_cons_zero] at hact
            generalize a2.eval (.tmp 50) = u50 at hact
            generalize a2.eval (.tmp 51) = u51 at hact
            generalize a2.eval (.tmp 52) = u52 at hact
            generalize a2.eval (.tmp 53) = u53 at hact
            generalize a2.eval (.tmp 54) = u54 at hact
            generalize a2.eval (.tmp 55) = u55 at hact
            generalize a2.eval (.tmp 56) = u56 at hact
            generalize a2.eval (.tmp 57) = u57 at hact
            generalize a2.eval (.tmp 58) = u58 at hact
            generalize a2.eval (.tmp 59) = u59 at hact
            generalize a2.eval (.tmp 60) = u60 at hact h60
            rw [hact]
            clear hact
            go_wp2
            go_meet
            first | exact ⟨h60, HB.out⟩ | exact ⟨rfl, HB.out⟩
        case rest =>
          obtain ⟨rfl, hbx⟩ := hcut
          have HB9 : Hid (Below w3.heap.size w3 wc) := HB7.out.trans (hbx.mono (by omega))
          clear hbx
          go_wp2_with fail
          go_roundw
          case rel => exact ⟨q + 1, by omega, by go_num, HB9.out⟩
          case measure => simp [intOf]; omega
      · obtain rfl : q = mL := by omega
        obtain ⟨a0, a1, af⟩ := HTR.out.y.cells
        have HGQ := Lib.hid (fun (W : World) (hW : Below wr.heap.size wr W) => HG.out ⟨k, t, 0⟩ HFA.out W (HB.out.trans (hW.mono hwr)))
        have hgf := HGF.out ⟨k, t, 0⟩
        have HMC := Lib.hid (fun (W : World) (hW : Below wr.heap.size wr W) => HGM.out W (HB.out.trans (hW.mono hwr)))
        have HBZ : Hid (Below w.heap.size w wr) := HTR.out.bel
        have HAw2 := Lib.hid (fun (W : World) (hW : Below wr.heap.size wr W) => HAw.out W (HBZ.out.trans (hW.mono HBZ.out.size)))
        have A0 := Lib.hid a0
        have A1' := Lib.hid a1
        have X0 := Lib.hid e0
        have X1 := Lib.hid e1
        have X2 := Lib.hid e2
        have LA : Hid (w.heap.size + 1 < wr.heap.size) := by show _ < _; omega
        have LX : Hid (w.heap.size < wr.heap.size) := by show _ < _; omega
        have HGC := Lib.hid (fun (W : World) (hW : Below wr.heap.size wr W) => (HGQ.out W hW).1)
        have HGB := Lib.hid (fun (W : World) (hW : Below wr.heap.size wr W) => (HGQ.out W hW).2.1)
        have HON := Lib.hid (fun (W : World) (hW : Below wr.heap.size wr W) => (HGQ.out W hW).2.2)
        dsimp only at HGC HGB HON
        generalize onL M ⟨k, t, 0⟩ = gb at *
        generalize onL L ⟨k, t, 0⟩ = go at *
        obtain ⟨gc, hgc⟩ : ∃ gc, gc = gb + go := ⟨_, rfl⟩
        have HGE := Lib.hid hgc
        have HEQ : Hid ((gc == gb + go) = true) := by show _ = _; rw [hgc]; simp
        rw [← hgc] at HGC
        have hg1 := hgf.1
        have hg2 := hgf.2
        clear hgc HGQ hgf a0 a1 af
        go_upto_region 13 with fail
        clear e0 e1 e2 ef
        refine wp_region_by (by kernel_rfl) (Phi [.val (.slice Ac mc nc), .val (acc k t), .val (.int .i64 gc), .val (.slice Ab mM nb), .val (acc k t), .val (.int .i64 gb), .val (.agg #[.int .i64 b, .string r1, .slice A1 q n1]), .val (acc k t), .val (.int .i64 go), .val (.int .i64 (gb + go)), .val (.bool true), .val (.bool true), .val (.slice Ac mc nc), .val (.bool true), .val (.bool true), .val (.bool true), .val (.bool true), .val (.bool true), .val (.bool true)]) (phi_stab _) (by kernel_rfl) ?step13 ?fin13
        case step13 =>
          intro i o listed a1 w9 ho hk hdep
          have hi : i < 19 := (Array.getElem?_eq_some_iff.1 ho).1
          have e0 := ev (show a1.eval (.tmp 0) = .slice Ab mM nb from hk.frame 0 (frame_of (by kernel_rfl)))
          have e4 := ev (show a1.eval (.tmp 4) = .pointer (some ⟨w.heap.size, 0, none⟩) from hk.frame 4 (frame_of (by kernel_rfl)))
          have e5 := ev (show a1.eval (.tmp 5) = .pointer (some ⟨w.heap.size + 1, 0, none⟩) from hk.frame 5 (frame_of (by kernel_rfl)))
          have e7 := ev (show a1.eval (.tmp 7) = .slice Ac mc nc from hk.frame 7 (frame_of (by kernel_rfl)))
          have hii : i = 0 ∨ i = 1 ∨ i = 2 ∨ i = 3 ∨ i = 4 ∨ i = 5 ∨ i = 6 ∨ i = 7 ∨ i = 8 ∨ i = 9 ∨ i = 10 ∨ i = 11 ∨ i = 12 ∨ i = 13 ∨ i = 14 ∨ i = 15 ∨ i = 16 ∨ i = 17 ∨ i = 18 := by omega
          rcases hii with rfl | rfl | rfl | rfl | rfl | rfl | rfl | rfl | rfl | rfl | rfl | rfl | rfl | rfl | rfl | rfl | rfl | rfl | rfl
          · cases ho
            refine wpOp_of rfl rfl (wp_value (v := .slice Ac mc nc) ?_ rfl)
            simp [execOp, e7, Act.eval]
          · cases ho
            refine wpOp_of rfl rfl (wp_value (v := acc k t) ?_ rfl)
            have z1 := (hk.below.cell (p := ⟨w.heap.size + 1, 0, none⟩) LA.out).trans A0.out
            have z2 := (hk.below.cell (p := ⟨w.heap.size + 1, 1, none⟩) LA.out).trans A1'.out
            go_simp
          · cases ho
            have d0 := ev (show a1.eval (.tmp 61) = .slice Ac mc nc from hk.done 0 _ 61 rfl rfl (hdep ⟨0, .data⟩ (by simp) rfl))
            have d1 := ev (show a1.eval (.tmp 62) = acc k t from hk.done 1 _ 62 rfl rfl (hdep ⟨1, .data⟩ (by simp) rfl))
            refine wpOp_of rfl rfl ?_
            go_simp
            refine (HGC.out w9 (hk.below)).mono ?_
            rintro e w10 ⟨rfl, hb4⟩
            exact ⟨_, rfl, rfl, hb4⟩
          · cases ho
            refine wpOp_of rfl rfl (wp_value (v := .slice Ab mM nb) ?_ rfl)
            simp [execOp, e0, Act.eval]
          · cases ho
            refine wpOp_of rfl rfl (wp_value (v := acc k t) ?_ rfl)
            have z1 := (hk.below.cell (p := ⟨w.heap.size + 1, 0, none⟩) LA.out).trans A0.out
            have z2 := (hk.below.cell (p := ⟨w.heap.size + 1, 1, none⟩) LA.out).trans A1'.out
            go_simp
          · cases ho
            have d3 := ev (show a1.eval (.tmp 64) = .slice Ab mM nb from hk.done 3 _ 64 rfl rfl (hdep ⟨3, .data⟩ (by simp) rfl))
            have d4 := ev (show a1.eval (.tmp 65) = acc k t from hk.done 4 _ 65 rfl rfl (hdep ⟨4, .data⟩ (by simp) rfl))
            refine wpOp_of rfl rfl ?_
            go_simp
            refine (HGB.out w9 (hk.below)).mono ?_
            rintro e w10 ⟨rfl, hb4⟩
            exact ⟨_, rfl, rfl, hb4⟩
          · cases ho
            refine wpOp_of rfl rfl (wp_value (v := .agg #[.int .i64 b, .string r1, .slice A1 q n1]) ?_ rfl)
            have z1 := (hk.below.cell (p := ⟨w.heap.size, 0, none⟩) LX.out).trans X0.out
            have z2 := (hk.below.cell (p := ⟨w.heap.size, 1, none⟩) LX.out).trans X1.out
            have z3 := (hk.below.cell (p := ⟨w.heap.size, 2, none⟩) LX.out).trans X2.out
            go_simp
          · cases ho
            refine wpOp_of rfl rfl (wp_value (v := acc k t) ?_ rfl)
            have z1 := (hk.below.cell (p := ⟨w.heap.size + 1, 0, none⟩) LA.out).trans A0.out
            have z2 := (hk.below.cell (p := ⟨w.heap.size + 1, 1, none⟩) LA.out).trans A1'.out
            go_simp
          · cases ho
            have d6 := ev (show a1.eval (.tmp 67) = .agg #[.int .i64 b, .string r1, .slice A1 q n1] from hk.done 6 _ 67 rfl rfl (hdep ⟨6, .data⟩ (by simp) rfl))
            have d7 := ev (show a1.eval (.tmp 68) = acc k t from hk.done 7 _ 68 rfl rfl (hdep ⟨7, .data⟩ (by simp) rfl))
            refine wpOp_of rfl rfl ?_
            go_simp
            refine (HON.out w9 (hk.below)).mono ?_
            rintro e w10 ⟨rfl, hb4⟩
            exact ⟨_, rfl, rfl, hb4⟩
          · cases ho
            have d5 := ev (show a1.eval (.tmp 66) = .int .i64 gb from hk.done 5 _ 66 rfl rfl (hdep ⟨5, .data⟩ (by simp) rfl))
            have d8 := ev (show a1.eval (.tmp 69) = .int .i64 go from hk.done 8 _ 69 rfl rfl (hdep ⟨8, .data⟩ (by simp) rfl))
            refine wpOp_of rfl rfl (wp_value (v := .int .i64 (gb + go)) ?_ rfl)
            go_simp
            rw [IntKind.wrap_i64]; omega
          · cases ho
            have d2 := ev (show a1.eval (.tmp 63) = .int .i64 gc from hk.done 2 _ 63 rfl rfl (hdep ⟨2, .data⟩ (by simp) rfl))
            have d9 := ev (show a1.eval (.tmp 70) = .int .i64 (gb + go) from hk.done 9 _ 70 rfl rfl (hdep ⟨9, .data⟩ (by simp) rfl))
            refine wpOp_of rfl rfl (wp_value (v := .bool true) ?_ rfl)
            go_simp
            first | exact HGE.out | exact HEQ.out
          · cases ho
            have d10 := ev (show a1.eval (.tmp 71) = .bool true from hk.done 10 _ 71 rfl rfl (hdep ⟨10, .data⟩ (by simp) rfl))
            refine wpOp_of rfl rfl (wp_value (v := .bool true) ?_ rfl)
            simp [execOp, d10, Act.eval]
          · cases ho
            refine wpOp_of rfl (wanted_of (t := 72) rfl rfl (hk.done 11 _ 72 rfl rfl (hdep ⟨11, .guard⟩ (by simp) rfl))) (wp_value (v := .slice Ac mc nc) ?_ rfl)
            simp [execOp, e7, Act.eval]
          · cases ho
            have d12 := ev (show a1.eval (.tmp 73) = .slice Ac mc nc from hk.done 12 _ 73 rfl rfl (hdep ⟨12, .data⟩ (by simp) rfl))
            refine wpOp_of rfl (wanted_of (t := 72) rfl rfl (hk.done 11 _ 72 rfl rfl (hdep ⟨11, .guard⟩ (by simp) rfl))) ?_
            go_simp
            refine (HMC.out w9 (hk.below)).mono ?_
            rintro e w10 ⟨rfl, hb4⟩
            exact ⟨_, rfl, rfl, hb4⟩
          · cases ho
            have d11 := ev (show a1.eval (.tmp 72) = .bool true from hk.done 11 _ 72 rfl rfl (hdep ⟨11, .data⟩ (by simp) rfl))
            have d13 := ev (show a1.eval (.tmp 74) = .bool true from hk.done 13 _ 74 rfl rfl (hdep ⟨13, .data⟩ (by simp) rfl))
            refine wpOp_of rfl rfl (wp_value (v := .bool true) ?_ rfl)
            go_simp
          · cases ho
            have d14 := ev (show a1.eval (.tmp 75) = .bool true from hk.done 14 _ 75 rfl rfl (hdep ⟨14, .data⟩ (by simp) rfl))
            refine wpOp_of rfl rfl (wp_value (v := .bool true) ?_ rfl)
            simp [execOp, d14, Act.eval]
          · cases ho
            refine wpOp_of rfl (wanted_of (t := 76) rfl rfl (hk.done 15 _ 76 rfl rfl (hdep ⟨15, .guard⟩ (by simp) rfl))) ?_
            go_simp
            refine (HAw2.out w9 (hk.below)).mono ?_
            rintro e w10 ⟨rfl, hb4⟩
            exact ⟨_, rfl, rfl, hb4⟩
          · cases ho
            have d15 := ev (show a1.eval (.tmp 76) = .bool true from hk.done 15 _ 76 rfl rfl (hdep ⟨15, .data⟩ (by simp) rfl))
            have d16 := ev (show a1.eval (.tmp 77) = .bool true from hk.done 16 _ 77 rfl rfl (hdep ⟨16, .data⟩ (by simp) rfl))
            refine wpOp_of rfl rfl (wp_value (v := .bool true) ?_ rfl)
            go_simp
          · cases ho
            have d17 := ev (show a1.eval (.tmp 78) = .bool true from hk.done 17 _ 78 rfl rfl (hdep ⟨17, .data⟩ (by simp) rfl))
            refine wpOp_of rfl rfl (wp_value (v := .bool true) ?_ rfl)
            simp [execOp, d17, Act.eval]
        case fin13 =>
          intro listed a2 w2 hk hall
          have h0 : a2.eval (.tmp 6) = .bool true := hk.done 18 _ 6 rfl rfl (hall 18 (by decide))
          have hB := HBZ.out.trans (hk.below.mono HBZ.out.size)
          have e0 := ev h0
          go_wp2
          refine bodyPost_ret (v := .bool true) (by simp [results, Tryd.results6, go_sem, e0]) hk.defers ⟨rfl, hB⟩
end Go.Proofs.YtejdhemnlcbffaaDoor.Bok
