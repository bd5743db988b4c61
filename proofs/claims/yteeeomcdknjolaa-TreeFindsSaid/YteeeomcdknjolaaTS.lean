/- Find: the program's. -/
import Derived.Test.YteeeomcdknjolaaTR
import Derived.Deep.CutBlock
namespace Go.Proofs.Yteeeomcdknjolaa.Tre
open Go.RowKit Crc Chk Frm Fra Nod

set_option maxRecDepth 20000 in
set_option maxHeartbeats 3200000 in
theorem find_any (A : Option Addr) (L : List Nd) (key : T) (n c : Nat) (w : World) (h : Nds w w.heap.size A L) (hl : L.length = n) (hn : n ≤ 9223372036854775807) :
    Calls Try.prog 21 #[.slice A n c, .string (text key)] w (FOut w L key) := by
  have HP := Lib.hid h
  have HL := Lib.hid hl
  obtain ⟨W0, hW0⟩ : ∃ x, x = w.alloc (.cells #[.string (text key)] 9) := ⟨_, rfl⟩
  have HB0 : Hid (Below w.heap.size w W0) := by rw [hW0]; exact (Below.refl _ _).alloc (Nat.le_refl _) _
  have HY : Hid (BoxS w.heap.size (text key) W0) := by rw [hW0]; exact boxS_new w _
  have HRt := Lib.hid (right_any A L n c W0 (h.next HB0.out) hl hn)
  have HW0 := Lib.hid hW0
  clear h hl hW0
  cases hr : rightB L with
  | false =>
    obtain ⟨e1, e2, e3⟩ := fnd_bad (key := key) hr
    have HO : Hid (∀ w', Below w.heap.size w w' → FOut w L key (.returned (.tuple #[.string ⟨#[]⟩, .int .i64 0, .int .i64 11])) w') := fun w' hb => ⟨by rw [e1, e2, e3]; rfl, hb⟩
    rw [hr] at HRt
    clear hr e1 e2 e3
    go_enter Try.func21, Try.ntmps21
    go_upto_region 1 with fail
    rw [← HW0.out]
    go_wp2_with fail
    refine HRt.out.mono ?_
    rintro e w1 ⟨rfl, hb⟩
    have HB := Lib.hid (HB0.out.trans (hb.mono HB0.out.size))
    clear hb
    go_wp2_with fail
    exact bodyPost_ret (v := .tuple #[.string ⟨#[]⟩, .int .i64 0, .int .i64 11]) (by simp [results, Try.results21, go_sem]) rfl (HO.out _ HB.out)
  | true =>
    rw [hr] at HRt
    have hrl := right_len hr
    obtain ⟨hmp, hpg, htr⟩ := right_tree hr
    have hs0 := (tree_spn (prsOf L)).1
    rw [htr] at hs0
    have hdp : fndN L = depthN (prsOf L).length := by unfold fndN; rw [if_pos hr]
    have hn0 : 0 < n := by rw [← HL.out]; exact hrl.2.1
    have hn2 : n ≤ 200 := by rw [← HL.out]; exact hrl.2.2
    have HSm : Hid (∀ p, (prsOf L).find? (fun p => p.1 == key) = some p → fndV L key = p.2 ∧ fndE L key = 0) := fun p h9 => fnd_some hr h9
    have HNo := Lib.hid (fnd_none (key := key) hr)
    have HMp := Lib.hid hmp
    have HS0 : Hid (Spn (prsOf L) L (depthN (prsOf L).length) (n - 1) 0 (lev0 (prsOf L).length)) := by show Spn _ _ _ _ _ _; rw [← HL.out]; exact hs0
    obtain ⟨D, hD⟩ : ∃ D, D = depthN (prsOf L).length := ⟨_, rfl⟩
    rw [← hD] at HS0 hdp
    have HDp := Lib.hid hdp
    have HD9 : Hid (D ≤ 600) := by
      show _ ≤ _
      rw [hD]
      have h1 := levJ_depth (prsOf L).length
      have h2 := levJ_len _ (lev0_pos (prsOf L).length)
      have h3 : lev0 (prsOf L).length ≤ pagesN (prsOf L).length := levs_ge _
      omega
    obtain ⟨l, hl⟩ : ∃ l, l = prsOf L := ⟨_, rfl⟩
    rw [← hl] at HS0 HMp HSm HNo
    clear hr hrl hmp hpg htr hs0 hdp hD hl
    obtain ⟨b0, o0, A1, n1, c1, A2, n2, c2, A3, n3, c3, hA, hb1, z1, z2, z3, hi⟩ := HP.out (n - 1) (by have := HL.out; omega)
    subst hA
    go_enter Try.func21, Try.ntmps21
    go_upto_region 1 with fail
    rw [← HW0.out]
    go_wp2_with fail
    refine HRt.out.mono ?_
    rintro e w1 ⟨rfl, hb⟩
    have HB1 := Lib.hid (HB0.out.trans (hb.mono HB0.out.size))
    have HY1 := Lib.hid (boxS_below HY.out hb (boxS_lt HY.out))
    have q1 := (HB1.out.cell (p := ⟨b0, o0 + (n - 1) * 3, none⟩) hb1).trans z1
    have q2 := (HB1.out.cell (p := ⟨b0, o0 + (n - 1) * 3 + 1, none⟩) hb1).trans z2
    have q3 := (HB1.out.cell (p := ⟨b0, o0 + (n - 1) * 3 + 2, none⟩) hb1).trans z3
    obtain ⟨W2, hW2⟩ : ∃ x, x = w1.alloc (.cells #[.slice A1 n1 c1, .slice A2 n2 c2, .slice A3 n3 c3] 55) := ⟨_, rfl⟩
    have HB2 : Hid (Below w1.heap.size w1 W2) := by rw [hW2]; exact (Below.refl _ _).alloc (Nat.le_refl _) _
    have HX2 : Hid (BoxN w1.heap.size A1 n1 c1 A2 n2 c2 A3 n3 c3 W2) := by rw [hW2]; exact boxN_new w1 ..
    have HI2 : Hid (∀ (hi : n - 1 < L.length), IsN w w.heap.size L[n - 1] A1 n1 c1 A2 n2 c2 A3 n3 c3) := fun _ => hi
    have HW2 := Lib.hid hW2
    have hin : ((n : Int) - 1) = ((n - 1 : Nat) : Int) := by omega
    have HT0 : Hid (0 ≤ tgt l key ∧ tgt l key < lev0 l.length) := ⟨Nat.zero_le _, tgt_lt l key⟩
    have hyw : w.heap.size < w1.heap.size := boxS_lt HY1.out
    clear hb hW2 z1 z2 z3 hi HRt
    go_upto_block 0 with fail
    rw [← HW2.out]
    clear q1 q2 q3
    go_wp2_with fail
    go_loopw [8] (fun y wr => ∃ (k i d x z : Nat) (A1 : Option Addr) (n1 c1 : Nat) (A2 : Option Addr) (n2 c2 : Nat) (A3 : Option Addr) (n3 c3 : Nat), y = .int .i64 k ∧ k ≤ D ∧ Hid (Spn l L d i x z) ∧ Hid (x ≤ tgt l key ∧ tgt l key < z) ∧ Hid (k + d = D + 1) ∧ Hid (BoxN w1.heap.size A1 n1 c1 A2 n2 c2 A3 n3 c3 wr) ∧ Hid (∀ (hi : i < L.length), IsN w w.heap.size L[i] A1 n1 c1 A2 n2 c2 A3 n3 c3) ∧ Hid (Below w1.heap.size w1 wr)) (fun y _ => D + 1 - (intOf y).toNat)
    case atStart => exact ⟨1, n - 1, D, 0, _, A1, n1, c1, A2, n2, c2, A3, n3, c3, rfl, HS0.out.deep, HS0, HT0, (by show _ = _; omega), HX2, HI2, HB2⟩
    case round =>
      obtain ⟨k, i, d, x, z, A1, n1, c1, A2, n2, c2, A3, n3, c3, rfl, hkD, HS, HT, HK, HX, HI, HB⟩ := hrel
      have hDs := HD9.out
      have hbw : Below w.heap.size w wr := HB1.out.trans (HB.out.mono (by omega))
      have hyr : BoxS w.heap.size (text key) wr := boxS_below HY1.out HB.out hyw
      rcases spn_step HMp.out HS.out key HT.out.1 HT.out.2 with ⟨hd1, hlf⟩ | ⟨nd, cc, i', d', x', z', h1, h2, h3, h4, h5, h6, h7, h8, h9, h10, h11, h12, h13, h14⟩
      · obtain ⟨hil, hlf⟩ := List.getElem?_eq_some_iff.1 hlf
        have hIs := HI.out hil
        rw [hlf] at hIs
        have hn3 : n3 = 0 := by have := hIs.l3; rw [← this]; rfl
        subst hn3
        have hIr := (hIs.below hbw (Nat.le_refl _)).more hbw.size
        have HC := Lib.hid (idx47_any A1 (leafN l (tgt l key)).ps (fun p => p.1 == key) n1 c1 w.heap.size wr hIr.ps hIr.l1 hIr.m1 (fun W p hb => eqkey_any p key w.heap.size W (boxS_below hyr hb (boxS_lt hyr))))
        have HPr := Lib.hid hIr.ps
        have HLn := Lib.hid hIr.l1
        have HFl := Lib.hid (find_leaf HMp.out key)
        have HBw := Lib.hid hbw
        have HKd : Hid (k = D) := by show _ = _; have := HK.out; omega
        obtain ⟨wl, rfl⟩ : ∃ y, y = wr := ⟨wr, rfl⟩
        have hn1 := hIr.m1
        have hfn : ∀ W : World, (Instr.makeFunc (.func 47) #[] #[.pointer (some ⟨w.heap.size, 0, none⟩)]).run Try.prog W = .ok (.func (.func 47) #[] #[.pointer (some ⟨w.heap.size, 0, none⟩)]) W := fun _ => rfl
        clear hbw hyr hd1 hlf hIs hIr
        obtain ⟨k0, k1, k2, k4⟩ := HX.out.cells
        go_wp2_with fail
        refine HC.out.mono ?_
        rintro e w4 hfst
        have HB4 := Lib.hid hfst.2
        rcases first_find hfst with ⟨j, hj, rfl, hf⟩ | ⟨rfl, hf⟩
        · rw [HFl.out] at hf
          obtain ⟨e1, e2⟩ := HSm.out _ hf
          have HO : Hid (∀ w', Below w.heap.size w w' → FOut w L key (.returned (.tuple #[.string (text (leafN l (tgt l key)).ps[j].2), .int .i64 k, .int .i64 0])) w') := fun w' hb => ⟨by rw [e1, e2, HDp.out, HKd.out], hb⟩
          have hjn : j < n1 := by rw [← HLn.out]; exact hj
          obtain ⟨p0, p1, hA, hb5, -, hv0⟩ := HPr.out j hj
          subst hA
          have hv := (HB4.out.cell (p := ⟨p0, p1 + j * 2 + 1, none⟩) hb5).trans hv0
          obtain ⟨t, ht⟩ : ∃ t, t = text (leafN l (tgt l key)).ps[j].2 := ⟨_, rfl⟩
          rw [← ht] at hv HO
          have HX4 := Lib.hid (HX.out.below HB4.out (boxN_lt HX.out))
          have hz := HKd.out
          clear k0 k1 k2 k4 hf e1 e2 ht hv0 hfst hj hz
          obtain ⟨k0, k1, k2, k4⟩ := HX4.out.cells
          go_wp2_with fail
          exact bodyPost_ret (v := .tuple #[.string t, .int .i64 k, .int .i64 0]) (by simp [results, Try.results21, go_sem]) rfl (HO.out _ (HBw.out.trans (HB4.out.mono HBw.out.size)))
        · rw [HFl.out] at hf
          obtain ⟨e1, e2⟩ := HNo.out hf
          have HO : Hid (∀ w', Below w.heap.size w w' → FOut w L key (.returned (.tuple #[.string ⟨#[]⟩, .int .i64 k, .int .i64 7])) w') := fun w' hb => ⟨by rw [e1, e2, HDp.out, HKd.out]; rfl, hb⟩
          clear k0 k1 k2 k4 hf e1 e2 hfst
          go_wp2_with fail
          exact bodyPost_ret (v := .tuple #[.string ⟨#[]⟩, .int .i64 k, .int .i64 7]) (by simp [results, Try.results21, go_sem]) rfl (HO.out _ (HBw.out.trans (HB4.out.mono HBw.out.size)))
      · obtain ⟨hil, hnd⟩ := List.getElem?_eq_some_iff.1 h1
        have hIs := HI.out hil
        rw [hnd] at hIs
        have hIr := (hIs.below hbw (Nat.le_refl _)).more hbw.size
        have hn3 : ¬ n3 = 0 := by have := hIr.l3; omega
        have hn3i : (0 : Int) < n3 := by omega
        have hKo := kidOf_any nd key cc A1 n1 c1 A2 n2 c2 A3 n3 c3 wr hIr (by have := hIr.l2; omega) h5 h8 h14
        have hcc : nd.cs[cc] = (i' : Int) := by
          have := List.getElem?_eq_getElem h5
          rw [h9] at this
          injection this with this
          exact this.symm
        rw [hcc] at hKo
        have HC := Lib.hid hKo
        have hil' : i' < L.length := by omega
        obtain ⟨p0, p1, B1, m1, g1, B2, m2, g2, B3, m3, g3, hA, hb5, y1, y2, y3, hj⟩ := HP.out i' hil'
        injection hA with hA
        injection hA with hA1 hA2
        subst hA1 hA2
        have HI' : Hid (∀ (hi : i' < L.length), IsN w w.heap.size L[i'] B1 m1 g1 B2 m2 g2 B3 m3 g3) := fun _ => hj
        have HS' := Lib.hid h11
        have HT' : Hid (x' ≤ tgt l key ∧ tgt l key < z') := ⟨h12, h13⟩
        have HK' : Hid (k + 1 + d' = D + 1) := by show _ = _; have := HK.out; omega
        have hk' : k + 1 ≤ D := by have := HK'.out; omega
        have hin' : (i' : Int) < n := by have := HL.out; omega
        have HBw := Lib.hid hbw
        have HYr := Lib.hid hyr
        clear hil hnd hIs hIr hKo hcc h1 h2 h3 h4 h5 h6 h7 h8 h9 h10 h11 h12 h13 h14 hbw hyr hj
        obtain ⟨k0, k1, k2, k4⟩ := HX.out.cells
        have hyc := boxS_cell HYr.out
        go_wp2_with fail
        refine HC.out.mono ?_
        rintro e w4 ⟨rfl, hb4⟩
        have HB4 := Lib.hid hb4
        have hb4w : Below w.heap.size w w4 := HBw.out.trans (hb4.mono HBw.out.size)
        have q1 := (hb4w.cell (p := ⟨b0, o0 + i' * 3, none⟩) hb5).trans y1
        have q2 := (hb4w.cell (p := ⟨b0, o0 + i' * 3 + 1, none⟩) hb5).trans y2
        have q3 := (hb4w.cell (p := ⟨b0, o0 + i' * 3 + 2, none⟩) hb5).trans y3
        have hX4 := HX.out.below hb4 (boxN_lt HX.out)
        obtain ⟨W5, hW5⟩ : ∃ y, y = ((w4.setCell ⟨w1.heap.size, 0, none⟩ (.slice B1 m1 g1)).setCell ⟨w1.heap.size, 1, none⟩ (.slice B2 m2 g2)).setCell ⟨w1.heap.size, 2, none⟩ (.slice B3 m3 g3) := ⟨_, rfl⟩
        have HX5 : Hid (BoxN w1.heap.size B1 m1 g1 B2 m2 g2 B3 m3 g3 W5) := by rw [hW5]; exact ((hX4.set0 B1 m1 g1).set1 B2 m2 g2).set2 B3 m3 g3
        have hb14 : Below w1.heap.size w1 w4 := HB.out.trans (hb4.mono HB.out.size)
        have HB5 : Hid (Below w1.heap.size w1 W5) := by
          rw [hW5]; exact ((hb14.setCell (p := ⟨w1.heap.size, 0, none⟩) (Nat.le_refl _) _).setCell (p := ⟨w1.heap.size, 1, none⟩) (Nat.le_refl _) _).setCell (p := ⟨w1.heap.size, 2, none⟩) (Nat.le_refl _) _
        have HX4 := Lib.hid hX4
        have HW5 := Lib.hid hW5
        clear k0 k1 k2 k4 hyc hb4 hb4w hX4 hW5 hb14 y1 y2 y3
        obtain ⟨k0, k1, k2, k4⟩ := HX4.out.cells
        go_upto_region 6 with fail
        rw [← HW5.out]
        clear k0 k1 k2 k4 q1 q2 q3
        go_wp2_with fail
        go_roundw
        case rel => exact ⟨k + 1, i', d', x', z', B1, m1, g1, B2, m2, g2, B3, m3, g3, by go_num, hk', HS', HT', HK', HX5, HI', HB5⟩
        case measure => simp [intOf]; omega
end Go.Proofs.Yteeeomcdknjolaa.Tre
