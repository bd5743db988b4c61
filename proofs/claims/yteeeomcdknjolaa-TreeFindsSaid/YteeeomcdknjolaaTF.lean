/- Text, few, many: the law's own; Clone. -/
import Derived.Test.YteeeomcdknjolaaTX
namespace Go.Proofs.Yteeeomcdknjolaa.Tre
open Go.RowKit Crc Chk Frm Fra Nod

theorem text_any (s : T) (w : World) : Calls Try.prog 18 #[.string (text s)] w fun e w' => e = .returned (.string (text (s.take 70))) ∧ w = w' := by
  have hz := text_size s
  have HX : Hid ((text s).extract 0 70 = text (s.take 70)) := by show _ = _; rw [text_ext]; rfl
  have HY : Hid (¬ 70 < (text s).size → text s = text (s.take 70)) := fun h => by rw [List.take_of_length_le (by omega)]
  obtain ⟨t, ht⟩ : ∃ t, t = text s := ⟨_, rfl⟩
  obtain ⟨u, hu⟩ : ∃ t, t = text (s.take 70) := ⟨_, rfl⟩
  rw [← ht, ← hu] at HX HY
  rw [← ht, ← hu]
  rw [← ht] at hz
  clear ht hu hz
  by_cases h : 70 < t.size
  · go_enter Try.func18, Try.ntmps18
    go_wp2_with fail
    go_ret
    exact ⟨by rw [← HX.out]; rfl, rfl⟩
  · have HE := Lib.hid (HY.out h)
    go_enter Try.func18, Try.ntmps18
    go_wp2_with fail
    go_ret
    exact ⟨by rw [HE.out]; rfl, rfl⟩
def cutP (p : P) : P := (p.1.take 70, p.2.take 70)
def fewL (l : List P) : List P := (l.take 120).map cutP
theorem fewL_len (l : List P) : (fewL l).length ≤ 120 := by unfold fewL; rw [List.length_map, List.length_take]; omega
theorem below_drewN (w : World) (k : Nat) : Below w.heap.size w (w.drewN k) := ⟨rfl, rfl, rfl, Nat.le_refl _, fun _ _ => rfl⟩
set_option maxHeartbeats 3200000 in
theorem few_any (A : Option Addr) (l : List P) (n c : Nat) (w : World) (h : Prs w w.heap.size A l) (hl : l.length = n) (hc : n ≤ c) (hn : n ≤ 9223372036854775807) :
    Calls Try.prog 8 #[.slice A n c] w fun e w' => ∃ v, e = .returned v ∧ OwnP w' w.heap.size v (fewL l) ∧ Below w.heap.size w w' := by
  have HP := Lib.hid h
  have HL := Lib.hid hl
  obtain ⟨m, hm⟩ : ∃ m, m = min n 120 := ⟨_, rfl⟩
  have HM := Lib.hid hm
  have hm' : m ≤ 120 := by omega
  have hmn : m ≤ n := by omega
  have HC := Lib.hid hc
  clear h hl hm hc
  go_enter Try.func8, Try.ntmps8
  go_upto_if 7 with fail
  go_cut [0] (fun s0 wx => s0 = .slice A m c ∧ w = wx)
  case first =>
    have hcc := HC.out
    by_cases hlt : 120 < n
    · have HE : Hid (m = 120) := by show _ = _; rw [HM.out]; omega
      go_wp2_with fail
      go_meet
      exact ⟨by rw [HE.out], by first | trivial | rfl⟩
    · have HE : Hid (m = n) := by show _ = _; rw [HM.out]; omega
      go_wp2_with fail
      go_meet
      exact ⟨by rw [HE.out], by first | trivial | rfl⟩
  case rest =>
  obtain ⟨rfl, rfl⟩ := hcut
  go_wp2_with fail
  go_loopw [3, 4] (fun y i wr => ∃ (k : Nat) (v : Value), k ≤ m ∧ i = .int .i64 k ∧ v = y ∧ Hid (OwnP wr w.heap.size v ((l.take k).map cutP)) ∧ Hid (Below w.heap.size w wr)) (fun _ i _ => m - (intOf i).toNat)
  case atStart => exact ⟨0, .slice none 0 0, Nat.zero_le _, rfl, rfl, World.ownsRow_nil _ _ _ _, Below.refl _ _⟩
  case round =>
    obtain ⟨k, v, hk, rfl, rfl, HO, HB⟩ := hrel
    by_cases hlt : k < m
    · have hlt' : k < l.length := by rw [HL.out]; omega
      obtain ⟨b0, o0, rfl, hb1, hc0, hd0⟩ := HP.out k hlt'
      have hc := (HB.out.cell (p := ⟨b0, o0 + k * 2, none⟩) hb1).trans hc0
      have hd := (HB.out.cell (p := ⟨b0, o0 + k * 2 + 1, none⟩) hb1).trans hd0
      have HS : Hid ((l.take (k + 1)).map cutP = (l.take k).map cutP ++ [(l[k].1.take 70, l[k].2.take 70)]) := by
        show _ = _
        rw [List.take_succ_eq_append_getElem hlt', List.map_append]; rfl
      have hll : ((l.take k).map cutP).length ≤ 1000000 := by rw [List.length_map, List.length_take]; omega
      have HT1 := Lib.hid (text_any l[k].1)
      have HT2 := Lib.hid (text_any l[k].2)
      obtain ⟨v2, w2, hrun2, hown2, hb2, hz2⟩ := run_appP (wr.drewN 1) w.heap.size v _ HO.out (l[k].1.take 70) (l[k].2.take 70) hll HB.out.size
      have HO2 : Hid (OwnP w2 w.heap.size v2 ((l.take (k + 1)).map cutP)) := by show World.ownsRow _ _ _ _ _ _ _; rw [HS.out]; exact hown2
      have hbw : Below w.heap.size wr w2 := ((below_drewN wr 1).mono HB.out.size).trans hb2
      have HB2 : Hid (Below w.heap.size w w2) := HB.out.trans hbw
      obtain ⟨t, ht⟩ : ∃ t, t = text l[k].1 := ⟨_, rfl⟩
      obtain ⟨u, hu⟩ : ∃ t, t = text l[k].2 := ⟨_, rfl⟩
      obtain ⟨ta, hta⟩ : ∃ t, t = text (l[k].1.take 70) := ⟨_, rfl⟩
      obtain ⟨ub, hub⟩ : ∃ t, t = text (l[k].2.take 70) := ⟨_, rfl⟩
      rw [← ht] at hc HT1
      rw [← hu] at hd HT2
      rw [← hta] at HT1 hrun2
      rw [← hub] at HT2 hrun2
      have HK2 : Hid (w2.cell? ⟨b0, o0 + k * 2, none⟩ = some (.string t) ∧ w2.cell? ⟨b0, o0 + k * 2 + 1, none⟩ = some (.string u)) :=
        ⟨(hbw.cell (p := ⟨b0, o0 + k * 2, none⟩) hb1).trans hc, (hbw.cell (p := ⟨b0, o0 + k * 2 + 1, none⟩) hb1).trans hd⟩
      have hbl : b0 < (wr.drewN 1).heap.size := by have := HB.out.size; show _ < wr.heap.size; omega
      have HR2 := Lib.hid hrun2
      clear hc0 hd0 hlt' hll hrun2 hown2 hb2 hz2 hbw ht hu hta hub HS
      go_upto_region 7 with fail
      refine wp_region_chain (by kernel_rfl) (fun q9 => [(v), (.slice (some ⟨b0, o0, none⟩) m c), (.int .i64 k), (.pointer (some ⟨b0, o0 + k * 2, none⟩)), (.pointer (some ⟨b0, o0 + k * 2, none⟩)), (.string t), (.string ta), (.slice (some ⟨b0, o0, none⟩) m c), (.int .i64 k), (.pointer (some ⟨b0, o0 + k * 2, none⟩)), (.pointer (some ⟨b0, o0 + k * 2 + 1, none⟩)), (.string u), (.string ub), (.agg #[.string ta, .string ub]), (.slice (some ⟨wr.heap.size, 0, none⟩) 1 1), (v2), (v2)].getD q9 undef) [6, 12, 13, 14, 15, 16] []
        (fun x => x.cell? ⟨b0, o0 + k * 2, none⟩ = some (.string t) ∧ x.cell? ⟨b0, o0 + k * 2 + 1, none⟩ = some (.string u))
        (fun j _ x => match j with | 0 => x = wr.drewN 1 | 1 => x = wr.drewN 1 | 2 => x = wr.drewN 1 | 3 => x = wr.drewN 1 | 4 => x = (wr.drewN 1).alloc (.cells #[.string ta, .string ub] 49) | 5 => x = w2 | _ => x = w2)
        ⟨hc, hd⟩ rfl (by kernel_rfl) (backsB_spec (by kernel_rfl)) (by kernel_rfl) (by decide) (by decide) ?pure7 ?acts7 ?fin7
      case pure7 =>
        intro i o listed a1 x hic ho hF hk hund hdep
        obtain ⟨z1, z2⟩ := hF
        have hi : i < 17 := (Array.getElem?_eq_some_iff.1 ho).1
        have hii : i = 0 ∨ i = 1 ∨ i = 2 ∨ i = 3 ∨ i = 4 ∨ i = 5 ∨ i = 7 ∨ i = 8 ∨ i = 9 ∨ i = 10 ∨ i = 11 := by simp at hic; omega
        rcases hii with rfl | rfl | rfl | rfl | rfl | rfl | rfl | rfl | rfl | rfl | rfl
        · cases ho
          have e3 := ev (show a1.eval (.tmp 3) = v from hund 16 _ 3 rfl rfl (by kernel_rfl))
          exact ⟨rfl, by simp [execOp, e3, Act.eval]⟩
        · cases ho
          have e0 := ev (show a1.eval (.tmp 0) = .slice (some ⟨b0, o0, none⟩) m c from hk.frame 0 (frame_of (by kernel_rfl)))
          exact ⟨rfl, by simp [execOp, e0, Act.eval]⟩
        · cases ho
          have e4 := ev (show a1.eval (.tmp 4) = .int .i64 k from hk.frame 4 (frame_of (by kernel_rfl)))
          exact ⟨rfl, by simp [execOp, e4, Act.eval]⟩
        · cases ho
          have d1 := ev (show a1.eval (.tmp 17) = .slice (some ⟨b0, o0, none⟩) m c from hk.done 1 _ 17 rfl rfl (hdep ⟨1, .data⟩ (by simp) rfl) (by decide))
          have d2 := ev (show a1.eval (.tmp 18) = .int .i64 k from hk.done 2 _ 18 rfl rfl (hdep ⟨2, .data⟩ (by simp) rfl) (by decide))
          exact ⟨rfl, by go_simp⟩
        · cases ho
          have d3 := ev (show a1.eval (.tmp 19) = .pointer (some ⟨b0, o0 + k * 2, none⟩) from hk.done 3 _ 19 rfl rfl (hdep ⟨3, .data⟩ (by simp) rfl) (by decide))
          exact ⟨rfl, by go_simp⟩
        · cases ho
          have d4 := ev (show a1.eval (.tmp 20) = .pointer (some ⟨b0, o0 + k * 2, none⟩) from hk.done 4 _ 20 rfl rfl (hdep ⟨4, .data⟩ (by simp) rfl) (by decide))
          exact ⟨rfl, by go_simp⟩
        · cases ho
          have e0 := ev (show a1.eval (.tmp 0) = .slice (some ⟨b0, o0, none⟩) m c from hk.frame 0 (frame_of (by kernel_rfl)))
          exact ⟨rfl, by simp [execOp, e0, Act.eval]⟩
        · cases ho
          have e4 := ev (show a1.eval (.tmp 4) = .int .i64 k from hk.frame 4 (frame_of (by kernel_rfl)))
          exact ⟨rfl, by simp [execOp, e4, Act.eval]⟩
        · cases ho
          have d7 := ev (show a1.eval (.tmp 23) = .slice (some ⟨b0, o0, none⟩) m c from hk.done 7 _ 23 rfl rfl (hdep ⟨7, .data⟩ (by simp) rfl) (by decide))
          have d8 := ev (show a1.eval (.tmp 24) = .int .i64 k from hk.done 8 _ 24 rfl rfl (hdep ⟨8, .data⟩ (by simp) rfl) (by decide))
          exact ⟨rfl, by go_simp⟩
        · cases ho
          have d9 := ev (show a1.eval (.tmp 25) = .pointer (some ⟨b0, o0 + k * 2, none⟩) from hk.done 9 _ 25 rfl rfl (hdep ⟨9, .data⟩ (by simp) rfl) (by decide))
          exact ⟨rfl, by go_simp⟩
        · cases ho
          have d10 := ev (show a1.eval (.tmp 26) = .pointer (some ⟨b0, o0 + k * 2 + 1, none⟩) from hk.done 10 _ 26 rfl rfl (hdep ⟨10, .data⟩ (by simp) rfl) (by decide))
          exact ⟨rfl, by go_simp⟩
      case acts7 =>
        intro i j o listed a1 x hj ho hF hst hk hund hdep
        have hjj : j = 0 ∨ j = 1 ∨ j = 2 ∨ j = 3 ∨ j = 4 ∨ j = 5 := by
          have := (List.getElem?_eq_some_iff.1 hj).1
          simp at this; omega
        rcases hjj with rfl | rfl | rfl | rfl | rfl | rfl
        · cases hj
          cases ho
          have hR : x = wr.drewN 1 := hst.1 rfl
          have d5 := ev (show a1.eval (.tmp 21) = .string t from hk.done 5 _ 21 rfl rfl (hdep ⟨5, .data⟩ (by simp) rfl) (by decide))
          subst hR
          refine ⟨rfl, ?_⟩
          go_simp
          refine (HT1.out _).mono ?_
          rintro e x' ⟨rfl, rfl⟩
          exact ⟨_, rfl, rfl, hF, rfl⟩
        · cases hj
          cases ho
          have hR : x = wr.drewN 1 := hst.2 0 6 _ 22 rfl rfl rfl rfl
          have d11 := ev (show a1.eval (.tmp 27) = .string u from hk.done 11 _ 27 rfl rfl (hdep ⟨11, .data⟩ (by simp) rfl) (by decide))
          subst hR
          refine ⟨rfl, ?_⟩
          go_simp
          refine (HT2.out _).mono ?_
          rintro e x' ⟨rfl, rfl⟩
          exact ⟨_, rfl, rfl, hF, rfl⟩
        · cases hj
          cases ho
          have hR : x = wr.drewN 1 := hst.2 1 12 _ 28 rfl rfl rfl rfl
          have d6 := ev (show a1.eval (.tmp 22) = .string ta from hk.done 6 _ 22 rfl rfl (hdep ⟨6, .data⟩ (by simp) rfl) (by decide))
          have d12 := ev (show a1.eval (.tmp 28) = .string ub from hk.done 12 _ 28 rfl rfl (hdep ⟨12, .data⟩ (by simp) rfl) (by decide))
          refine ⟨rfl, Oper.wp_mono (fun a' w' hl => ?_) (wp_value (v := .agg #[.string ta, .string ub]) (φ := fun v w' => v = .agg #[.string ta, .string ub] ∧ w' = x) (by go_simp) ⟨rfl, rfl⟩)⟩
          obtain ⟨v', rfl, ⟨rfl, rfl⟩, -⟩ := hl
          exact ⟨_, rfl, (fun _ => rfl), hF, hR⟩
        · cases hj
          cases ho
          have hR : x = wr.drewN 1 := hst.2 2 13 _ 29 rfl rfl rfl rfl
          have d13 := ev (show a1.eval (.tmp 29) = .agg #[.string ta, .string ub] from hk.done 13 _ 29 rfl rfl (hdep ⟨13, .data⟩ (by simp) rfl) (by decide))
          subst hR
          refine ⟨rfl, wp_exact4 (v := .slice (some ⟨wr.heap.size, 0, none⟩) 1 1) (w' := (wr.drewN 1).alloc (.cells #[.string ta, .string ub] 49)) (by go_simp) ?_⟩
          exact ⟨_, rfl, (fun _ => rfl), ⟨(World.cell?_alloc_lt _ _ ⟨b0, _, none⟩ hbl).trans hF.1, (World.cell?_alloc_lt _ _ ⟨b0, _, none⟩ hbl).trans hF.2⟩, rfl⟩
        · cases hj
          cases ho
          have hR : x = (wr.drewN 1).alloc (.cells #[.string ta, .string ub] 49) := hst.2 3 14 _ 30 rfl rfl rfl rfl
          have d0 := ev (show a1.eval (.tmp 16) = v from hk.done 0 _ 16 rfl rfl (hdep ⟨0, .data⟩ (by simp) rfl) (by decide))
          have d14 := ev (show a1.eval (.tmp 30) = .slice (some ⟨wr.heap.size, 0, none⟩) 1 1 from hk.done 14 _ 30 rfl rfl (hdep ⟨14, .data⟩ (by simp) rfl) (by decide))
          subst hR
          have D0 : a1.eval (.tmp 16) = v := hk.done 0 _ 16 rfl rfl (hdep ⟨0, .data⟩ (by simp) rfl) (by decide)
          have D14 : a1.eval (.tmp 30) = .slice (some ⟨wr.heap.size, 0, none⟩) 1 1 := hk.done 14 _ 30 rfl rfl (hdep ⟨14, .data⟩ (by simp) rfl) (by decide)
          refine ⟨rfl, Go.Lib.wp_append_run _ (.tmp 16) (.tmp 30) 22 22 rfl _ _ D0 D14 v2 w2 HR2.out ?_⟩
          exact ⟨_, rfl, (fun _ => rfl), HK2.out, rfl⟩
        · cases hj
          cases ho
          have hR : x = w2 := hst.2 4 15 _ 31 rfl rfl rfl rfl
          have d15 := ev (show a1.eval (.tmp 31) = v2 from hk.done 15 _ 31 rfl rfl (hdep ⟨15, .data⟩ (by simp) rfl) (by decide))
          refine ⟨rfl, Oper.wp_mono (fun a' w' hl => ?_) (wp_value (v := v2) (φ := fun v w' => v = v2 ∧ w' = x) (by simp [execOp, d15, Act.eval]) ⟨rfl, rfl⟩)⟩
          obtain ⟨v', rfl, ⟨rfl, rfl⟩, -⟩ := hl
          exact ⟨_, rfl, (fun _ => rfl), hF, hR⟩
      case fin7 =>
        intro listed a2 x hall hF hst hk
        have hR : x = w2 := hst.2 5 16 _ 3 rfl rfl rfl rfl
        subst hR
        have h3 : a2.eval (.tmp 3) = v2 := hk.done 16 _ 3 rfl rfl (hall 16 (by decide)) (by decide)
        have hact := fr_all [16, 17, 18, 19, 20, 21, 22, 23, 24, 25, 26, 27, 28, 29, 30, 31, 3] hk (by kernel_rfl)
        simp only [List.foldl_cons, List.foldl_nil, List.setIfInBounds_toArray, List.set_cons_succ, List.set_cons_zero] at hact
        rw [h3] at hact
        generalize a2.eval (.tmp 16) = u16 at hact
        generalize a2.eval (.tmp 17) = u17 at hact
        generalize a2.eval (.tmp 18) = u18 at hact
        generalize a2.eval (.tmp 19) = u19 at hact
        generalize a2.eval (.tmp 20) = u20 at hact
        generalize a2.eval (.tmp 21) = u21 at hact
        generalize a2.eval (.tmp 22) = u22 at hact
        generalize a2.eval (.tmp 23) = u23 at hact
        generalize a2.eval (.tmp 24) = u24 at hact
        generalize a2.eval (.tmp 25) = u25 at hact
        generalize a2.eval (.tmp 26) = u26 at hact
        generalize a2.eval (.tmp 27) = u27 at hact
        generalize a2.eval (.tmp 28) = u28 at hact
        generalize a2.eval (.tmp 29) = u29 at hact
        generalize a2.eval (.tmp 30) = u30 at hact
        generalize a2.eval (.tmp 31) = u31 at hact
        rw [hact]
        clear hact h3 hst hF hk
        go_wp2_with fail
        go_roundw
        case rel => exact ⟨k + 1, _, by omega, by go_num, rfl, HO2.out, HB2.out⟩
        case measure => simp [intOf]; omega
    · obtain rfl : k = m := by omega
      have HX : Hid ((l.take k).map cutP = fewL l) := by
        show _ = _
        unfold fewL
        have h1 := HL.out
        have h2 := HM.out
        congr 1
        rw [h2, ← h1, Nat.min_comm, ← List.take_take, List.take_length]
      rw [HX.out] at HO
      go_wp2_with fail
      go_ret
      exact ⟨_, rfl, HO.out, HB.out⟩
end Go.Proofs.Yteeeomcdknjolaa.Tre
