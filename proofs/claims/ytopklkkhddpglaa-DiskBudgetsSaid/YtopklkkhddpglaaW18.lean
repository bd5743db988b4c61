/- Contracts: DiskBudgets, the walk. -/
import Derived.Test.YtopklkkhddpglaaW17
namespace Go.Proofs.Ytopklkkhddpglaa
open Go.RowKit Dk
def lfG (n D i : Nat) : Left := ⟨Gone n D i, fun _ _ _ hb h => h.below hb⟩
def lfGd (n D i : Nat) : Left := ⟨fun v w => ∃ A c A' m c', v = dv A 4 c A' m c' (lB n D) (oB n D) ∧ Dq A c A' m c' (lB n D) i w, fun _ _ _ hb ⟨A, c, A', m, c', e, h⟩ => ⟨A, c, A', m, c', e, h.below hb⟩⟩
def psiG (ee : Int) (i : Nat) (v : Value) : Prop := (i = 5 ∨ i = 6 → ∃ x, v = .tuple #[x, .int .i64 ee]) ∧ (i = 8 ∨ i = 10 → v = .int .i64 ee)
set_option maxRecDepth 100000 in
set_option maxHeartbeats 16000000 in
theorem budgets_any (k : Nat) (P1 : Option Addr) (l1 : List Bool) (d1 : Nat) (P2 : Option Addr) (l2 : List Bool) (d2 : Nat) (w : World) (hk : k < 256) (h1 : Bools w w.heap.size P1 l1) (h2 : Bools w w.heap.size P2 l2) :
    Calls Try.prog 5 #[.int .u8 k, .slice P1 l1.length d1, .slice P2 l2.length d2] w fun e w' => e = .returned (.bool true) ∧ Below w.heap.size w w' := by
  obtain ⟨n, hn⟩ : ∃ n, n = k % 20 := ⟨_, rfl⟩
  have hn20 : n ≤ 20 := by omega
  have hmod : (k : Int) % 20 = n := by omega
  have hmod2 : Int.tmod (k : Int) 20 = n := by rw [Int.tmod_eq_emod_of_nonneg (by omega)]; exact hmod
  have HNN := Lib.hid hn
  clear hn hmod
  have HNEW : Hid (∀ W : World, Calls Try.prog 15 #[.int .i64 4] W fun e w' => ∃ A c, e = .returned (.tuple #[dv A 4 c none 0 0 (-1) false, .int .i64 0]) ∧ Dsk w' A 4 c none 0 0 four [] ∧ 4 ≤ c ∧ Below W.heap.size W w') := fun W =>
    (new_any 4 W (by decide) (by decide)).mono fun e w' ⟨A, c, he, hc, hp, hb⟩ => ⟨A, c, he, ⟨hp, (fun i hi => by cases hi), rfl, rfl, hc, Nat.le_refl _⟩, hc, hb⟩
  have H1 := Lib.hid h1
  have H2 := Lib.hid h2
  have HK := Lib.hid hk
  obtain ⟨n1, hn1⟩ : ∃ n1, n1 = l1.length := ⟨_, rfl⟩
  obtain ⟨n2, hn2⟩ : ∃ n2, n2 = l2.length := ⟨_, rfl⟩
  have HN1 := Lib.hid hn1
  have HN2 := Lib.hid hn2
  rw [← hn1]
  rw [← hn2]
  clear h1 h2 hk hn1 hn2
  have hq1 : (n : Int) ≤ 20 := by omega
  have hq2 : (k : Int) < 256 := by have := HK.out; omega
  go_enter Try.func5, Try.ntmps5
  go_upto_region 2 with fail
  refine (HNEW.out _).mono ?_
  rintro e w1 ⟨A, c, rfl, hD, hc4, hb1⟩
  have D1 := Lib.hid hD
  have B1 := Lib.hid hb1
  clear hD hb1
  go_upto_region 2 with fail
  have hS1 : Below w1.heap.size w1 (w1.alloc (.cells #[.slice A 4 c, .slice none 0 0, .int .i64 (-1), .bool false] 25)) := (Below.refl _ _).alloc (Nat.le_refl _) _
  have BX1 : Hid ((w1.alloc (.cells #[.slice A 4 c, .slice none 0 0, .int .i64 (-1), .bool false] 25)).heap[w1.heap.size]? = some (.cells #[.slice A 4 c, .slice none 0 0, .int .i64 (-1), .bool false] 25 (0, 0))) := box_new _ _
  obtain ⟨wS, hwS⟩ : ∃ wS, wS = w1.alloc (.cells #[.slice A 4 c, .slice none 0 0, .int .i64 (-1), .bool false] 25) := ⟨_, rfl⟩
  have DS := Lib.hid (D1.out.below hS1)
  rw [← hwS] at hS1 BX1 DS ⊢
  have BS := Lib.hid (B1.out.trans (hS1.mono B1.out.size))
  have hg0 : w.heap.size ≤ w1.heap.size := B1.out.size
  obtain ⟨g, hg⟩ : ∃ g, g = w1.heap.size := ⟨_, rfl⟩
  rw [← hg] at BX1 hg0 ⊢
  have hgS : g < wS.heap.size := by rw [hwS, hg]; simp
  clear hwS hg hS1 D1 B1 HNEW
  obtain ⟨k0, k1, k2, k3, kf⟩ := cells_of4 BX1.out
  go_upto_region 4 with fail
  refine (budget_yes A 4 c none 0 0 four [] (-1) false n _ DS.out (may_four _ (by decide)) (by decide) (by omega)).mono ?_
  rintro e w2 ⟨rfl, hb2⟩
  have BX2 := Lib.hid (box_at BX1.out hb2)
  have D2 := Lib.hid (DS.out.below hb2)
  have B2 := Lib.hid (BS.out.trans (hb2.mono BS.out.size))
  have hgS2 : g < w2.heap.size := Nat.lt_of_lt_of_le hgS hb2.size
  clear k0 k1 k2 k3 kf BX1 DS BS hb2 hgS
  obtain ⟨k0, k1, k2, k3, kf⟩ := cells_of4 BX2.out
  go_upto_region 8 with fail
  change Code.wp _ _ _ _ (st4 w2 g (.slice A 4 c) (.slice none 0 0) (.int .i64 n) (.bool false))
  have HBI : Hid (BI w g n 0 0 (st4 w2 g (.slice A 4 c) (.slice none 0 0) (.int .i64 n) (.bool false))) :=
    ⟨⟨A, c, none, 0, 0, false, by simpa using st4_at BX2.out (.slice A 4 c) (.slice none 0 0) (.int .i64 n) (.bool false), ⟨four, [], D2.out.box2 (sec_of (may_four _ (by decide : (-1 : Int) ≤ -1))) BX2.out (by decide) (by decide) _ _ _ _, may_four _ (by omega), Nat.le_refl _, fun _ => ⟨rfl, rfl⟩⟩, fun h => by cases h⟩, by omega, st4_below B2.out hg0 _ _ _ _⟩
  have hgS3 : g < (st4 w2 g (.slice A 4 c) (.slice none 0 0) (.int .i64 n) (.bool false)).heap.size := by rw [st4_size]; exact hgS2
  generalize (st4 w2 g (.slice A 4 c) (.slice none 0 0) (.int .i64 n) (.bool false)) = w3 at HBI hgS3 ⊢
  clear k0 k1 k2 k3 kf BX2 D2 B2 hgS2 hmod2 hq2
  have HAW := Lib.hid awake_any
  go_loopw [11, 12] (fun s11 s12 wr => ∃ D i : Nat, i ≤ 30 ∧ D ≤ 30 ∧ s11 = .int .i64 D ∧ s12 = .int .i64 i ∧ BI w g n D i wr) (fun _ s12 _ => 30 - (intOf s12).toNat)
  case atStart => exact ⟨0, 0, by decide, by decide, rfl, rfl, HBI.out⟩
  case round =>
    obtain ⟨D, i, hi30, hD30, rfl, rfl, hbi⟩ := hrel
    have HB := Lib.hid hbi
    clear hbi HBI
    by_cases hlt : i < n1
    · by_cases hlt30 : i < 30
      · obtain ⟨⟨A, c, A', m, c', O, hbox, hq, hO⟩, hDn, hbw⟩ := HB.out
        obtain ⟨b1, o1, rfl, hb1, hc1⟩ := H1.out i (by have := HN1.out; omega)
        have hlt' : (i : Int) < n1 := by omega
        have hlt30' : (i : Int) < 30 := by omega
        have BXD := Lib.hid hbox
        have DQ := Lib.hid hq
        have HO := Lib.hid hO
        have BW := Lib.hid hbw
        have HC1 := Lib.hid ((hbw.cell (p := ⟨b1, o1 + i, none⟩) hb1).trans hc1)
        clear hbox hq hO hbw hc1
        go_upto_region 11 with fail
        have hSB : Below wr.heap.size wr (wr.alloc zb) := (Below.refl _ _).alloc (Nat.le_refl _) _
        have BXB : Hid ((wr.alloc zb).heap[wr.heap.size]? = some zb) := box_new _ _
        have BXD2 := Lib.hid (box_at BXD.out hSB)
        have DQ2 := Lib.hid (DQ.out.below hSB)
        have BW2 := Lib.hid (BW.out.trans (hSB.mono BW.out.size))
        have HC2 := Lib.hid ((hSB.cell (p := ⟨b1, o1 + i, none⟩) (Nat.lt_of_lt_of_le hb1 BW.out.size)).trans HC1.out)
        have HSB := Lib.hid hSB
        have hgg : g < wr.heap.size := (Array.getElem?_eq_some_iff.1 BXD.out).1
        obtain ⟨gB, hgB⟩ : ∃ gB, gB = wr.heap.size := ⟨_, rfl⟩
        have HGB := Lib.hid hgB
        rw [← hgB] at BXB hgg ⊢
        change Code.wp _ _ _ _ (wr.alloc zb)
        generalize (wr.alloc zb) = wB at BXB BXD2 DQ2 BW2 HC2 HSB hSB ⊢
        clear hSB hgB DQ HC1
        obtain ⟨T, hT⟩ : ∃ T, T = l2.getD i false := ⟨_, rfl⟩
        have HTT := Lib.hid hT
        clear hT
        go_cut [61] from 41 to 109 (fun s61 wx => s61 = .bool T ∧ wB = wx)
        case first =>
          by_cases h2 : i < n2
          · obtain ⟨b2, o2, rfl, hb2, hc2⟩ := H2.out i (by have := HN2.out; omega)
            have hlt2' : (i : Int) < n2 := by omega
            have hc3 := (BW2.out.cell (p := ⟨b2, o2 + i, none⟩) hb2).trans hc2
            have HT : Hid (T = l2[i]'(by have := HN2.out; omega)) := by show _ = _; rw [HTT.out]; simp [List.getD, show i < l2.length by have := HN2.out; omega]
            rw [← HT.out] at hc3
            clear hc2
            go_wp2_with fail
            go_meet
            exact ⟨rfl, rfl⟩
          · have hlt2' : ¬ (i : Int) < n2 := by omega
            have HT : Hid (T = false) := by show _ = _; rw [HTT.out]; simp [List.getD, show l2.length ≤ i by have := HN2.out; omega]
            go_wp2_with fail
            go_meet
            exact ⟨by rw [HT.out], rfl⟩
        case rest =>
          obtain ⟨rfl, rfl⟩ := hcut
          go_upto_if 61 with fail
          go_cut [14] from 41 to 109 (fun s14 wx => s14 = .int .i64 (eeB n D) ∧ BxQ wr gB n D (i + 1) wx)
          case first =>
            cases T with
            | true =>
              obtain ⟨k0, k1, k2, k3, kf⟩ := cells_of4 BXD2.out
              go_wp2_with fail
              clear k0 k1 k2 k3 kf
              refine (flush_gone (n := n) (D := D) (i := i) _ hDn hn20 HO.out (by omega) DQ2.out).mono ?_
              rintro e w4 ⟨v, rfl, ⟨A2, c2, A2', m2, c2', rfl, hq2⟩, hb4⟩
              have BXB4 := Lib.hid (box_at BXB.out hb4)
              have HQ2 := Lib.hid hq2
              have HB4 := Lib.hid (HSB.out.trans (hb4.mono HSB.out.size))
              clear hq2 hb4
              obtain ⟨k0, k1, k2, k3, kf⟩ := cells_of4 BXB4.out
              go_wp2_with fail
              go_meet
              exact ⟨rfl, _, _, _, _, _, st4_at BXB4.out _ _ _ _, HQ2.out.box BXB4.out (by decide) (by decide) _ _ _ _, st4_below HB4.out (by rw [HGB.out]; exact Nat.le_refl _) _ _ _ _⟩
            | false =>
              obtain ⟨T1, hT1⟩ : ∃ T1, T1 = l1[i]'(by have := HN1.out; omega) := ⟨_, rfl⟩
              have HC3 := Lib.hid HC2.out
              rw [← hT1] at HC3
              have HT1 := Lib.hid hT1
              clear hT1
              have kc := HC3.out
              go_upto_if 70 with fail
              go_cut [15] from 41 to 109 (fun s15 wx => s15 = .int .i64 (if T1 then 3 else 0) ∧ wB = wx)
              case first =>
                cases T1 with
                | true =>
                  go_wp2_with fail
                  go_meet
                  exact ⟨rfl, rfl⟩
                | false =>
                  go_wp2_with fail
                  go_meet
                  exact ⟨rfl, rfl⟩
              case rest =>
                obtain ⟨rfl, rfl⟩ := hcut
                obtain ⟨s, hs⟩ : ∃ s : Int, s = (if T1 then 3 else 0) := ⟨_, rfl⟩
                have hs0 : 0 ≤ s := by rw [hs]; split <;> omega
                have hs4 : s < 4 := by rw [hs]; split <;> omega
                rw [← hs]
                clear kc hs HC3
                go_wp2_with fail
                have hq8 : ((UInt8.ofNat i).toNat : Int) = i := by simp; omega
                obtain ⟨q, hqq⟩ : ∃ q, q = UInt8.ofNat i := ⟨_, rfl⟩
                rw [← hqq] at hq8
                have HF : Hid (∀ W : World, Calls Try.prog 19 #[.int .u8 i, .int .i64 1] W fun e w' => e = .returned (.slice (some ⟨W.heap.size, 0, none⟩) 64 64) ∧ Octs w' (W.heap.size + 1) (some ⟨W.heap.size, 0, none⟩) (List.replicate 64 q) ∧ W.heap.size < w'.heap.size ∧ Below W.heap.size W w') := fun W => by
                  have := fill_any q 1 W (by decide)
                  rwa [hq8] at this
                clear hqq hq8
                refine wp_region_store (S := 9) (X := 13) (by kernel_rfl) (Phi [.val (dv A 4 c A' m c' ((n : Int) - D) O), .val (.int .i64 s), .val (.int .i64 i), .val (.int .u8 i), lfF q 64, lfG n D (i + 1), lfG n D (i + 1), lfGd n D (i + 1), .val (.int .i64 (eeB n D)), ⟨fun _ _ => True, fun _ _ _ _ _ => trivial⟩, .val (.int .i64 (eeB n D))]) (phi_stab _) (psiG (eeB n D)) ?hpsiu (fun _ wx => BxQ wr gB n D (i + 1) wx) (by kernel_rfl) (backsB_spec (by kernel_rfl)) ?stepu ?storeu ?behindu ?finu (by decide)
                case hpsiu =>
                  intro i v wx h
                  refine ⟨?_, ?_⟩
                  · rintro (rfl | rfl)
                    · obtain ⟨A1, c1, A1', m1, c1', e, _⟩ := h
                      exact ⟨_, e⟩
                    · obtain ⟨A1, c1, A1', m1, c1', e, _⟩ := h
                      exact ⟨_, e⟩
                  · rintro (rfl | rfl) <;> exact h
                case stepu =>
                  intro j o listed a1 w2 hi9 ho hbl hk hdep
                  have hi : j < 11 := (Array.getElem?_eq_some_iff.1 ho).1
                  have e7 := ev (show a1.eval (.tmp 7) = .pointer (some ⟨g, 0, none⟩) from hk.frame 7 (frame_of (by kernel_rfl)))
                  have e15 := ev (show a1.eval (.tmp 15) = .int .i64 s from hk.frame 15 (frame_of (by kernel_rfl)))
                  have e12 := ev (show a1.eval (.tmp 12) = .int .i64 i from hk.frame 12 (frame_of (by kernel_rfl)))
                  obtain ⟨k0, k1, k2, k3, kf⟩ := cells_of4 (box_at BXD2.out hbl)
                  have hii : j = 0 ∨ j = 1 ∨ j = 2 ∨ j = 3 ∨ j = 4 ∨ j = 5 ∨ j = 6 ∨ j = 7 ∨ j = 8 ∨ j = 10 := by omega
                  rcases hii with rfl | rfl | rfl | rfl | rfl | rfl | rfl | rfl | rfl | rfl
                  · cases ho
                    refine ⟨rfl, wp_value (v := dv A 4 c A' m c' ((n : Int) - D) O) ?_ rfl⟩
                    go_simp
                  · cases ho
                    refine ⟨rfl, wp_value (v := .int .i64 s) ?_ rfl⟩
                    simp [execOp, e15, Act.eval]
                  · cases ho
                    refine ⟨rfl, wp_value (v := .int .i64 i) ?_ rfl⟩
                    simp [execOp, e12, Act.eval]
                  · cases ho
                    have d2 := ev (show a1.eval (.tmp 74) = .int .i64 i from hk.done 2 _ 74 rfl rfl (hdep ⟨2, .data⟩ (by simp) rfl))
                    refine ⟨rfl, wp_value (v := .int .u8 i) ?_ rfl⟩
                    go_simp
                    simp [IntKind.wrap, IntKind.bits, IntKind.signed]
                    omega
                  · cases ho
                    have d3 := ev (show a1.eval (.tmp 75) = .int .u8 i from hk.done 3 _ 75 rfl rfl (hdep ⟨3, .data⟩ (by simp) rfl))
                    refine ⟨rfl, ?_⟩
                    go_simp
                    refine (HF.out w2).mono ?_
                    rintro e w3 ⟨rfl, hoc, hsz, hb2⟩
                    exact ⟨_, rfl, ⟨_, rfl, hoc.more (by omega)⟩, hb2⟩
                  · cases ho
                    have d0 := ev (show a1.eval (.tmp 72) = dv A 4 c A' m c' ((n : Int) - D) O from hk.done 0 _ 72 rfl rfl (hdep ⟨0, .data⟩ (by simp) rfl))
                    have d1 := ev (show a1.eval (.tmp 73) = .int .i64 s from hk.done 1 _ 73 rfl rfl (hdep ⟨1, .data⟩ (by simp) rfl))
                    obtain ⟨gf, hg, hoc⟩ := hk.done 4 _ 76 rfl rfl (hdep ⟨4, .data⟩ (by simp) rfl)
                    have d4 := ev hg
                    refine ⟨rfl, ?_⟩
                    go_simp
                    refine (write_gone (n := n) (D := D) (i := i) s q gf w2 hDn hn20 HO.out (by omega) (DQ2.out.below hbl) hs0 hs4 hoc).mono ?_
                    rintro e w3 ⟨v, rfl, hG, hb2⟩
                    exact ⟨_, rfl, hG, hb2⟩
                  · cases ho
                    obtain ⟨A1, c1, A1', m1, c1', hv, hD⟩ := hk.done 5 _ 77 rfl rfl (hdep ⟨5, .data⟩ (by simp) rfl)
                    have d5 := ev hv
                    refine ⟨rfl, wp_value ?_ ⟨A1, c1, A1', m1, c1', rfl, hD⟩⟩
                    simp [execOp, d5, Act.eval]
                  · cases ho
                    obtain ⟨A1, c1, A1', m1, c1', hv, hD⟩ := hk.done 6 _ 71 rfl rfl (hdep ⟨6, .data⟩ (by simp) rfl)
                    have d6 := ev hv
                    refine ⟨rfl, wp_value ?_ ⟨A1, c1, A1', m1, c1', rfl, hD⟩⟩
                    go_simp
                  · cases ho
                    obtain ⟨A1, c1, A1', m1, c1', hv, hD⟩ := hk.done 6 _ 71 rfl rfl (hdep ⟨6, .data⟩ (by simp) rfl)
                    have d6 := ev hv
                    refine ⟨rfl, wp_value (v := .int .i64 (eeB n D)) ?_ rfl⟩
                    go_simp
                  · cases ho
                    have d8 := ev (show a1.eval (.tmp 79) = .int .i64 (eeB n D) from hk.done 8 _ 79 rfl rfl (hdep ⟨8, .data⟩ (by simp) rfl))
                    refine ⟨rfl, wp_value (v := .int .i64 (eeB n D)) ?_ rfl⟩
                    simp [execOp, d8, Act.eval]
                case storeu =>
                  intro o listed a1 w2 ho hc hbl hk hdep
                  cases ho
                  have e13 := ev (show a1.eval (.tmp 13) = .pointer (some ⟨gB, 0, none⟩) from hk.frame 13 (frame_of (by kernel_rfl)))
                  obtain ⟨A1, c1, A1', m1, c1', hv, hD⟩ := hk.done 7 _ 78 rfl rfl (hdep ⟨7, .data⟩ (by simp) rfl)
                  have d7 := ev hv
                  have hgz := box_at BXB.out hbl
                  have HD1 := Lib.hid hD
                  obtain ⟨k0, k1, k2, k3, kf⟩ := cells_of4 hgz
                  have HGZ := Lib.hid hgz
                  clear hgz hD
                  refine ⟨rfl, ?_, fun j o' hj hd => ?_⟩
                  · go_simp
                    exact ⟨A1, c1, A1', m1, c1', st4_at HGZ.out _ _ _ _, HD1.out.box HGZ.out (by decide) (by decide) _ _ _ _, st4_below (HSB.out.trans (hbl.mono HSB.out.size)) (by rw [HGB.out]; exact Nat.le_refl _) _ _ _ _⟩
                  · have hj9 : j < 11 := (Array.getElem?_eq_some_iff.1 hj).1
                    have hjj : j = 0 ∨ j = 1 ∨ j = 2 ∨ j = 3 ∨ j = 4 ∨ j = 5 ∨ j = 6 ∨ j = 7 ∨ j = 8 ∨ j = 9 ∨ j = 10 := by omega
                    rcases hjj with rfl | rfl | rfl | rfl | rfl | rfl | rfl | rfl | rfl | rfl | rfl <;> (cases hj; exact absurd hd (by decide))
                case behindu =>
                  intro j o listed a1 w2 hi9 ho h0 h9 hc hwf hk hdep
                  have hi : j < 11 := (Array.getElem?_eq_some_iff.1 ho).1
                  have l7 := hc.2 9 _ rfl h9 ⟨7, .data⟩ (by simp) rfl
                  have l6 := hc.2 7 _ rfl l7 ⟨6, .data⟩ (by simp) rfl
                  have l5 := hc.2 6 _ rfl l6 ⟨5, .data⟩ (by simp) rfl
                  have l4 := hc.2 5 _ rfl l5 ⟨4, .data⟩ (by simp) rfl
                  have l3 := hc.2 4 _ rfl l4 ⟨3, .data⟩ (by simp) rfl
                  have l2 := hc.2 3 _ rfl l3 ⟨2, .data⟩ (by simp) rfl
                  have l1 := hc.2 5 _ rfl l5 ⟨1, .data⟩ (by simp) rfl
                  have l0 := hc.2 5 _ rfl l5 ⟨0, .data⟩ (by simp) rfl
                  have hn := getD_tf h0
                  have hii : j = 0 ∨ j = 1 ∨ j = 2 ∨ j = 3 ∨ j = 4 ∨ j = 5 ∨ j = 6 ∨ j = 7 ∨ j = 8 ∨ j = 10 := by omega
                  rcases hii with rfl | rfl | rfl | rfl | rfl | rfl | rfl | rfl | rfl | rfl
                  · rw [l0] at hn; cases hn
                  · rw [l1] at hn; cases hn
                  · rw [l2] at hn; cases hn
                  · rw [l3] at hn; cases hn
                  · rw [l4] at hn; cases hn
                  · rw [l5] at hn; cases hn
                  · rw [l6] at hn; cases hn
                  · rw [l7] at hn; cases hn
                  · cases ho
                    obtain ⟨x, hx⟩ := (hk.done 6 _ 71 rfl rfl l6).1 (.inr rfl)
                    have d6 := ev hx
                    refine ⟨rfl, .int .i64 (eeB n D), ?_, (fun h => by rcases h with h | h <;> cases h), fun _ => rfl⟩
                    go_simp
                  · cases ho
                    have l8 := hdep ⟨8, .data⟩ (by simp) rfl
                    have d8 := ev ((hk.done 8 _ 79 rfl rfl l8).2 (.inl rfl))
                    refine ⟨rfl, .int .i64 (eeB n D), ?_, (fun h => by rcases h with h | h <;> cases h), fun _ => rfl⟩
                    simp [execOp, d8, Act.eval]
                case finu =>
                  intro listed a2 w2 hall hwf hk
                  have h10 : a2.eval (.tmp 14) = .int .i64 (eeB n D) := (hk.done 10 _ 14 rfl rfl (hall 10 (by decide))).2 (.inr rfl)
                  have hact := fr_all [72, 73, 74, 75, 76, 77, 71, 78, 79, 14] hk (by kernel_rfl)
                  simp only [List.foldl_cons, List.foldl_nil, List.setIfInBounds_toArray, List.set_cons_succ, List.set_cons_zero] at hact
                  generalize a2.eval (.tmp 72) = u72 at hact
                  generalize a2.eval (.tmp 73) = u73 at hact
                  generalize a2.eval (.tmp 74) = u74 at hact
                  generalize a2.eval (.tmp 75) = u75 at hact
                  generalize a2.eval (.tmp 76) = u76 at hact
                  generalize a2.eval (.tmp 77) = u77 at hact
                  generalize a2.eval (.tmp 71) = u71 at hact
                  generalize a2.eval (.tmp 78) = u78 at hact
                  generalize a2.eval (.tmp 79) = u79 at hact
                  generalize a2.eval (.tmp 14) = u14 at hact h10
                  rw [hact]
                  clear hact
                  go_wp2
                  go_meet
                  exact ⟨h10, hwf⟩
          case rest =>
            obtain ⟨rfl, A2, c2, A2', m2, c2', hbox2, hq2, hb4⟩ := hcut
            have BXO := Lib.hid (box_at BXD.out hb4)
            have hmi : m ≤ i := by obtain ⟨_, _, _, _, hm, _⟩ := DQ2.out; exact hm
            have hBW := Lib.hid (BW.out.trans (hb4.mono BW.out.size))
            have HB4 := Lib.hid hb4
            clear hb4
            by_cases hDl : D < n
            · rw [show eeB n D = 0 from if_pos hDl]
              rw [show lB n D = (n : Int) - ((D : Int) + 1) from if_pos hDl] at hbox2 hq2
              rw [show oB n D = false by simp [oB, hDl]] at hbox2
              have HBX := Lib.hid hbox2
              have HQ2 := Lib.hid hq2
              have hDl' : (D : Int) < n := by omega
              obtain ⟨k0, k1, k2, k3, kf⟩ := cells_of4 hbox2
              obtain ⟨r0, r1, r2, r3, rf⟩ := cells_of4 BXO.out
              clear hbox2 hq2
              go_wp2_with fail
              go_roundw
              case rel =>
                have e : ((D + 1 : Nat) : Int) = (D : Int) + 1 := by omega
                refine ⟨D + 1, i + 1, by omega, by omega, by go_num, by go_num, ⟨⟨A2, c2, A2', m2, c2', false, ?_, ?_, fun h => by cases h⟩, by omega, st4_below hBW.out hg0 _ _ _ _⟩⟩
                · rw [e]; exact st4_at BXO.out _ _ _ _
                · rw [e]; exact HQ2.out.box BXO.out (by decide) (by omega) _ _ _ _
              case measure => simp [intOf]; omega
            · have hDe : D = n := by omega
              rw [show eeB n D = 10 from if_neg hDl]
              rw [show lB n D = (n : Int) - D from if_neg hDl] at hbox2 hq2
              rw [show oB n D = true by simp [oB, hDl]] at hbox2
              have HBX := Lib.hid hbox2
              have HQ2 := Lib.hid hq2
              have HDE := Lib.hid hDe
              have hDl' : ¬ (D : Int) < n := by omega
              obtain ⟨k0, k1, k2, k3, kf⟩ := cells_of4 hbox2
              obtain ⟨r0, r1, r2, r3, rf⟩ := cells_of4 BXO.out
              clear hbox2 hq2 hDe
              go_wp2_with fail
              go_roundw
              case rel =>
                exact ⟨D, i + 1, by omega, by omega, rfl, by go_num, ⟨⟨A2, c2, A2', m2, c2', true, st4_at BXO.out _ _ _ _, HQ2.out.box BXO.out (by decide) (by omega) _ _ _ _, fun _ => HDE.out⟩, by omega, st4_below hBW.out hg0 _ _ _ _⟩⟩
              case measure => simp [intOf]; omega
      · have hlt' : (i : Int) < n1 := by omega
        have hlt30' : ¬ (i : Int) < 30 := by omega
        go_wp2_with fail
        refine (HAW.out _).mono ?_
        rintro e w9 ⟨rfl, hb9⟩
        go_wp2_with fail
        go_ret
        exact ⟨rfl, HB.out.b.trans (hb9.mono HB.out.b.size)⟩
    · have hlt' : ¬ (i : Int) < n1 := by omega
      go_wp2_with fail
      refine (HAW.out _).mono ?_
      rintro e w9 ⟨rfl, hb9⟩
      go_wp2_with fail
      go_ret
      exact ⟨rfl, HB.out.b.trans (hb9.mono HB.out.b.size)⟩
end Go.Proofs.Ytopklkkhddpglaa
