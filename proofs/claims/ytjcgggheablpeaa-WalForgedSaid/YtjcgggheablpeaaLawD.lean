/- The walk of the law WalForged. -/
import Derived.Test.YtjcgggheablpeaaW20
import Derived.Test.YtjcgggheablpeaaFrameD
import Derived.Test.YtjcgggheablpeaaGF
import Derived.LoopTactic
namespace Go.Proofs.Ytjcgggheablpeaa.Wal
open Go.RowKit Dis Dis.Dk

set_option maxRecDepth 100000 in
set_option maxHeartbeats 2000000 in
theorem forged_any (A : Option Addr) (V : Ws) (c : Nat) (AK : Option Addr) (K : List UInt8) (ck : Nat) (w : World) (h : FramesN w w.heap.size A V) (hK : Octs w w.heap.size AK K ∧ K.length ≤ ck) :
    Calls Try.prog 7 #[.slice A V.length c, .slice AK K.length ck] w fun e w' => e = .returned (.bool true) ∧ Below w.heap.size w w' := by
  have HP := Lib.hid h
  obtain ⟨n, hn⟩ : ∃ n, n = V.length := ⟨_, rfl⟩
  have HN := Lib.hid hn
  obtain ⟨nk, hnk⟩ : ∃ nk, nk = K.length := ⟨_, rfl⟩
  rw [← hn, ← hnk]
  have HNK := Lib.hid hnk
  have HK := Lib.hid hK
  clear h hn hnk hK
  go_enter Try.func7, Try.ntmps7
  go_wp2_with fail
  refine (some_fresh 20 w (by decide) (by decide) (by decide)).mono ?_
  rintro e w1 ⟨g, rfl, hgw', hfz, hok, hb1'⟩
  obtain ⟨W2, hW2⟩ : ∃ W2, W2 = w1.alloc (qo (some ⟨g, 0, none⟩) 20) := ⟨_, rfl⟩
  obtain ⟨W3, hW3⟩ : ∃ W3, W3 = W2.alloc (lgo 2 16 0 1) := ⟨_, rfl⟩
  have hb12 : Below w1.heap.size w1 W2 := by rw [hW2]; exact (Below.refl _ _).alloc (Nat.le_refl _) _
  have hb23 : Below W2.heap.size W2 W3 := by rw [hW3]; exact (Below.refl _ _).alloc (Nat.le_refl _) _
  have hs2 : W2.heap.size = w1.heap.size + 1 := by rw [hW2]; simp
  have hx5 : W2.heap[w1.heap.size]? = some (qo (some ⟨g, 0, none⟩) 20) := by rw [hW2]; exact heap_alloc_new _ _
  have hx6 : W3.heap[w1.heap.size + 1]? = some (lgo 2 16 0 1) := by rw [hW3, ← hs2]; exact heap_alloc_new _ _
  have hb13 := hb12.trans (hb23.mono hb12.size)
  have hgl : g < w1.heap.size := by
    obtain ⟨A9, c9, A9', c9', e9, hd9, _⟩ := hok
    have hs : 0 < (newD 20).S.length := by rw [newD_len]; decide
    obtain ⟨b8, o8, _, _, e8, h8, _⟩ := hd9.s 0 hs
    injection e9 with e9
    injection e9 with e9
    injection e9 with e0 _
    injection e0 with e1
    rw [e8] at e1
    cases e1
    exact h8
  have HI0 : Hid (FI w w1.heap.size g (newD 20).S W3) := ⟨box_at hx5 hb23, hok.below hb13, fun j => (hb13.frozen (p := ⟨g, j, none⟩) hgl).trans (hfz j), hx6, hb1'.trans (hb13.mono hb1'.size), q20_new, rfl⟩
  have HW2 := Lib.hid hW2
  have HW3 := Lib.hid hW3
  have HX5 := Lib.hid hx5
  have hg5 : w.heap.size ≤ w1.heap.size := hb1'.size
  obtain ⟨g5, hg5e⟩ : ∃ g5, g5 = w1.heap.size := ⟨_, rfl⟩
  rw [← hg5e] at HI0 HX5 hs2
  have hgw : w.heap.size ≤ g5 := by omega
  have hg5g : g < g5 := by omega
  have HS2 := Lib.hid hs2
  have HG5E := Lib.hid hg5e
  have HGW := Lib.hid hgw'
  clear hok hfz hb1' hb12 hb23 hs2 hx5 hx6 hb13 hW2 hW3 hg5 hg5e hgl hgw'
  go_upto_region 2 with fail
  rw [← HW2.out, ← HG5E.out]
  obtain ⟨k0, k1, k2, k3, kf⟩ := cells_of4 HX5.out
  go_upto_region 5 with fail
  rw [← HW3.out, HS2.out]
  clear HW2 HW3 HS2 HX5 HG5E k0 k1 k2 k3 kf
  go_wp2_with fail
  go_loopw [7] (fun s7 wr => ∃ (i : Nat) (S : List (List UInt8)), i ≤ 14 ∧ s7 = .int .i64 i ∧ Hid (FI w g5 g S wr)) (fun s7 _ => 14 - (intOf s7).toNat)
  case atStart => exact ⟨0, _, by decide, rfl, HI0⟩
  case round =>
    obtain ⟨i, S, hi14, rfl, HI⟩ := hrel
    clear HI0
    go_upto_region 6 with fail
    go_cut [33] from 26 to 61 (fun s33 wx => s33 = .bool (decide (i < n ∧ i < 14)) ∧ wr = wx)
    case first =>
      by_cases ha1 : (i : Int) < n
      · by_cases ha2 : (i : Int) < 14
        · go_wp2_with fail
          go_meet
          exact ⟨by rw [decide_eq_true (by omega)], rfl⟩
        · go_wp2_with fail
          go_meet
          exact ⟨by rw [decide_eq_false (by omega)], rfl⟩
      · go_wp2_with fail
        go_meet
        exact ⟨by rw [decide_eq_false (by omega)], rfl⟩
    case rest =>
    obtain ⟨hs33, rfl⟩ := hcut
    by_cases hlt : i < n ∧ i < 14
    · rw [decide_eq_true hlt] at hs33
      subst hs33
      obtain ⟨hlt1, hlt2⟩ := hlt
      obtain ⟨b, o, A1, c1, rfl, hbl, q0, q1, hoct, hlc, hcm, hz1, hz2⟩ := HP.out i (by have := HN.out; omega)
      obtain ⟨l, hl⟩ : ∃ l, l = (V[i]'(by have := HN.out; omega)).2 := ⟨_, rfl⟩
      obtain ⟨z, hz⟩ : ∃ z, z = (V[i]'(by have := HN.out; omega)).1 := ⟨_, rfl⟩
      rw [← hl] at q1 hoct hlc hcm
      rw [← hz] at q0 hz1 hz2
      obtain ⟨ll, hll⟩ : ∃ ll, ll = l.length := ⟨_, rfl⟩
      have q0' := (HI.out.b.cell (p := ⟨b, o + i * 2, none⟩) hbl).trans q0
      have q1' : wr.cell? ⟨b, o + i * 2 + 1, none⟩ = some (.slice A1 ll c1) := by rw [hll]; exact (HI.out.b.cell (p := ⟨b, o + i * 2 + 1, none⟩) hbl).trans q1
      have hli : (i : Int) < n := by omega
      obtain ⟨d, hd⟩ : ∃ d, d = fw6 l := ⟨_, rfl⟩
      obtain ⟨dm, hdm⟩ : ∃ dm, d.length = dm := ⟨_, rfl⟩
      have hd6 : dm ≤ 6001 := by rw [← hdm, hd]; exact fw6_len l
      have hdc1 : dm ≤ c1 := by rw [← hdm, hd]; exact Nat.le_trans (fw6_le l) hlc
      have HFEW : Hid (∀ W, Calls Try.prog 11 #[.slice A1 ll c1] W fun e w' => e = .returned (.slice A1 dm c1) ∧ W = w') := fun W => by
        rw [hll, ← hdm, hd]
        exact few6_any A1 l c1 W hlc (by omega)
      obtain ⟨em, hem⟩ : ∃ em, em = min dm 44 := ⟨_, rfl⟩
      have HO0 : Hid (Octs w w.heap.size A1 (d.take 44)) := by
        have h1 : Octs w w.heap.size A1 d := by rw [hd]; exact fw6_octs hoct
        exact h1.take 44
      have HEM : Hid ((d.take 44).length = em) := by show _ = _; rw [List.length_take, hdm, hem]; omega
      have HEMD := Lib.hid hem
      have hem44 : em ≤ 44 := by omega
      obtain ⟨W8, hW8⟩ : ∃ W8, W8 = wr.alloc (.cells #[.int .i64 z, .slice A1 em c1] 58) := ⟨_, rfl⟩
      have hb8 : Below wr.heap.size wr W8 := by rw [hW8]; exact (Below.refl _ _).alloc (Nat.le_refl _) _
      have hx8 : W8.heap[wr.heap.size]? = some (.cells #[.int .i64 z, .slice A1 em c1] 58 (0, 0)) := by rw [hW8]; exact heap_alloc_new _ _
      have HB8 := Lib.hid hb8
      have HX8 := Lib.hid hx8
      have HW8 := Lib.hid hW8
      have HI8 := Lib.hid (HI.out.below HI.out.lt hb8)
      clear hbl q0 q1 hlc hcm hl hz hll hoct hd hdm hem hb8 hx8 hW8
      go_upto_region 9 with fail
      clear q0' q1'
      go_wp2_with fail
      refine (HFEW.out _).mono ?_
      rintro e w3 ⟨rfl, rfl⟩
      go_upto_if 47 with fail
      go_cut [8] from 48 to 51 (fun s8 wx => s8 = .pointer (some ⟨wr.heap.size, 0, none⟩) ∧ W8 = wx)
      case first =>
        by_cases h44 : (44 : Int) < dm
        · have he : em = 44 := by have := HEMD.out; omega
          have hdc44 : 44 ≤ c1 := by omega
          go_wp2_with fail
          go_meet
          exact ⟨rfl, by rw [HW8.out, he]⟩
        · have he : em = dm := by have := HEMD.out; omega
          go_wp2_with fail
          go_meet
          exact ⟨rfl, by rw [HW8.out, he]⟩
      case rest =>
      obtain ⟨hs8, rfl⟩ := hcut
      subst hs8
      obtain ⟨f0, f1, ff⟩ : W8.cell? ⟨wr.heap.size, 0, none⟩ = some (.int .i64 z) ∧ W8.cell? ⟨wr.heap.size, 1, none⟩ = some (.slice A1 em c1) ∧ True := by
        refine ⟨?_, ?_, trivial⟩
        · rw [cell_of_row W8 _ 0 _ _ _ HX8.out]; rfl
        · rw [cell_of_row W8 _ 1 _ _ _ HX8.out]; rfl
      clear ff HW8
      go_wp2_with fail
      refine (Fra.rmay_any z A1 em c1 W8 (by omega)).mono ?_
      rintro e w9 ⟨rfl, hb9⟩
      have HI9 := Lib.hid (HI8.out.below HI8.out.lt hb9)
      have HB89 := Lib.hid hb9
      have g0 : w9.cell? ⟨wr.heap.size, 0, none⟩ = some (.int .i64 z) := by rw [cell_of_row w9 _ 0 _ _ _ (box_at HX8.out hb9)]; rfl
      have g1 : w9.cell? ⟨wr.heap.size, 1, none⟩ = some (.slice A1 em c1) := by rw [cell_of_row w9 _ 1 _ _ _ (box_at HX8.out hb9)]; rfl
      have HF9 : Hid (wr.heap.size < w9.heap.size ∧ w9.cell? ⟨wr.heap.size, 0, none⟩ = some (.int .i64 z) ∧ w9.cell? ⟨wr.heap.size, 1, none⟩ = some (.slice A1 em c1)) := ⟨lt_of_at (box_at HX8.out hb9), g0, g1⟩
      clear hb9 f0 f1 g0 g1
      cases hm : Fra.mayB z em with
      | false =>
        go_wp2_with fail
        go_roundw
        case rel => exact ⟨i + 1, S, by omega, by go_num, HI9⟩
        case measure => simp [intOf]; omega
      | true =>
        obtain ⟨hm1, hm2, hm3⟩ := Fra.mayB_iff.1 hm
        obtain ⟨s, rfl⟩ : ∃ s : Nat, z = (s : Int) := ⟨z.toNat, by omega⟩
        obtain ⟨ly, hly⟩ : ∃ ly, ly = Frm.lay s (d.take 44) := ⟨_, rfl⟩
        have hlyl : ly.length = 64 := by rw [hly, Frm.lay_len, HEM.out]; unfold Frm.size Frm.sect; omega
        have HLAY : Hid (∀ W, Below w.heap.size w W → Calls Try.prog 31 #[.agg #[.int .i64 s, .slice A1 em c1]] W fun e w' => e = .returned (.string (Chk.text ly)) ∧ Below W.heap.size W w') := fun W hb => by
          rw [hly]
          exact Fra.rlay_at s A1 (d.take 44) em c1 w.heap.size W HEM.out (octs_chk (HO0.out.below hb (Nat.le_refl _))) hb.size (by omega) (by omega)
        have HCV := Lib.hid (fun W : World => Fra.conv_str W ly 64 hlyl)
        have HLY := Lib.hid hlyl
        clear hm hm1 hm2 hm3 hly hlyl
        go_upto_region 13 with fail
        have HD := Lib.hid HI9.out.ok
        refine wp_region_store (S := 8) (X := 61) (by kernel_rfl) (Phi [.val (.pointer (some ⟨g5, 0, none⟩)), .val (.slice (some ⟨g, 0, none⟩) 20 20), .val (.int .i64 (i : Int)), .val (.int .i64 (3 + (i : Int))), .val (.agg #[.int .i64 (s : Int), .slice A1 em c1]), .val (.string (Chk.text ly)), ⟨fun v wx => ∃ A' c', v = .slice A' 64 c' ∧ Octs wx wx.heap.size A' ly ∧ 64 ≤ c', fun _ _ _ hb ⟨A', c', e, ho, hc⟩ => ⟨A', c', e, (ho.below hb (Nat.le_refl _)).more hb.size, hc⟩⟩, .val (.pointer (some ⟨g, 3 + i, none⟩))]) (phi_stab _) (fun _ _ => True) ?hpsi (fun v wx => v = .pointer (some ⟨g, 3 + i, none⟩) ∧ FI w g5 g (S.set (3 + i) ly) wx) (by kernel_rfl) (backsB_spec (by kernel_rfl)) ?step ?store ?behind ?fin (by decide)
        case hpsi => intro _ _ _ _; trivial
        case step =>
          intro z9 p9 listed a1 w2 hz8 ho hbl hk hdep
          have hz9 : z9 < 9 := (Array.getElem?_eq_some_iff.1 ho).1
          have e5 := ev (show a1.eval (.tmp 5) = .pointer (some ⟨g5, 0, none⟩) from hk.frame 5 (frame_of (by kernel_rfl)))
          have e7 := ev (show a1.eval (.tmp 7) = .int .i64 (i : Int) from hk.frame 7 (frame_of (by kernel_rfl)))
          have e8 := ev (show a1.eval (.tmp 8) = .pointer (some ⟨wr.heap.size, 0, none⟩) from hk.frame 8 (frame_of (by kernel_rfl)))
          have hii : z9 = 0 ∨ z9 = 1 ∨ z9 = 2 ∨ z9 = 3 ∨ z9 = 4 ∨ z9 = 5 ∨ z9 = 6 ∨ z9 = 7 := by omega
          rcases hii with rfl | rfl | rfl | rfl | rfl | rfl | rfl | rfl
          · cases ho
            refine ⟨rfl, wp_value (v := .pointer (some ⟨g5, 0, none⟩)) ?_ rfl⟩
            go_simp
          · cases ho
            have d0 := ev (show a1.eval (.tmp 54) = .pointer (some ⟨g5, 0, none⟩) from hk.done 0 _ 54 rfl rfl (hdep ⟨0, .data⟩ (by simp) rfl))
            obtain ⟨k0, k1, k2, k3, kf⟩ := cells_of4 (box_at HI9.out.box hbl)
            refine ⟨rfl, wp_value (v := .slice (some ⟨g, 0, none⟩) 20 20) ?_ rfl⟩
            go_simp
          · cases ho
            refine ⟨rfl, wp_value (v := .int .i64 (i : Int)) ?_ rfl⟩
            simp [execOp, e7, Act.eval]
          · cases ho
            have d2 := ev (show a1.eval (.tmp 56) = .int .i64 (i : Int) from hk.done 2 _ 56 rfl rfl (hdep ⟨2, .data⟩ (by simp) rfl))
            refine ⟨rfl, wp_value (v := .int .i64 (3 + (i : Int))) ?_ rfl⟩
            go_simp
            simp only [IntKind.wrap, IntKind.bits, IntKind.signed]
            simp
            omega
          · cases ho
            obtain ⟨t0, t1, t2⟩ := HF9.out
            have y0 := (hbl.cell (p := ⟨wr.heap.size, 0, none⟩) t0).trans t1
            have y1 := (hbl.cell (p := ⟨wr.heap.size, 1, none⟩) t0).trans t2
            clear t0 t1 t2
            refine ⟨rfl, wp_value (v := .agg #[.int .i64 (s : Int), .slice A1 em c1]) ?_ rfl⟩
            go_simp
          · cases ho
            have d4 := ev (show a1.eval (.tmp 58) = .agg #[.int .i64 (s : Int), .slice A1 em c1] from hk.done 4 _ 58 rfl rfl (hdep ⟨4, .data⟩ (by simp) rfl))
            refine ⟨rfl, ?_⟩
            go_simp
            refine (HLAY.out w2 (HI9.out.b.trans (hbl.mono HI9.out.b.size))).mono ?_
            rintro e w3 ⟨rfl, hb3⟩
            exact ⟨_, rfl, rfl, hb3⟩
          · cases ho
            have d5 := ev (show a1.eval (.tmp 59) = .string (Chk.text ly) from hk.done 5 _ 59 rfl rfl (hdep ⟨5, .data⟩ (by simp) rfl))
            obtain ⟨cap, w3, hr, hb3, hoc, _, hcc⟩ := HCV.out w2
            have HR := Lib.hid hr
            clear hr
            refine ⟨rfl, ?_⟩
            go_simp
            simp only [HR.out]
            exact ⟨_, rfl, ⟨_, _, rfl, fun k hk => by obtain ⟨ad, e, h1, h2⟩ := hoc k hk; cases e; rw [Addr.add_lit] at h2; exact ⟨_, 0, rfl, h1, h2⟩, hcc⟩, hb3⟩
          · cases ho
            have d1 := ev (show a1.eval (.tmp 55) = .slice (some ⟨g, 0, none⟩) 20 20 from hk.done 1 _ 55 rfl rfl (hdep ⟨1, .data⟩ (by simp) rfl))
            have d3 := ev (show a1.eval (.tmp 57) = .int .i64 (3 + (i : Int)) from hk.done 3 _ 57 rfl rfl (hdep ⟨3, .data⟩ (by simp) rfl))
            have hx3 : (3 + (i : Int)) < 20 := by omega
            refine ⟨rfl, wp_value (v := .pointer (some ⟨g, 3 + i, none⟩)) ?_ rfl⟩
            go_simp
            rw [if_pos (by omega), show (3 + (i : Int)).toNat = 3 + i by omega]
        case store =>
          intro p9 listed a1 w2 ho hc hbl hk hdep
          cases ho
          have l7 := hdep ⟨7, .data⟩ (by simp) rfl
          have d7 := ev (show a1.eval (.tmp 61) = .pointer (some ⟨g, 3 + i, none⟩) from hk.done 7 _ 61 rfl rfl l7)
          obtain ⟨A', c', hv, hoc, hcc⟩ := hk.done 6 _ 60 rfl rfl (hdep ⟨6, .data⟩ (by simp) rfl)
          have d6 := ev hv
          have HF := Lib.hid (HI9.out.below HI9.out.lt hbl)
          have HPUT := Lib.hid (HF.out.put hg5g HGW.out hlt2 hoc hcc HLY.out)
          have hfz := HF.out.fz (3 + i)
          obtain ⟨u, hu⟩ := HF.out.cell (3 + i) (by omega)
          clear hoc hcc
          refine ⟨rfl, ?_, fun j o' hj hd => ?_⟩
          · go_simp
            first | exact HPUT.out | exact ⟨rfl, HPUT.out⟩
          · have hj9 : j < 9 := (Array.getElem?_eq_some_iff.1 hj).1
            have hjj : j = 0 ∨ j = 1 ∨ j = 2 ∨ j = 3 ∨ j = 4 ∨ j = 5 ∨ j = 6 ∨ j = 7 ∨ j = 8 := by omega
            rcases hjj with rfl | rfl | rfl | rfl | rfl | rfl | rfl | rfl | rfl <;> first | exact l7 | (cases hj; exact absurd hd (by decide))
        case behind =>
          intro z9 p9 listed a1 w2 hi8 ho h0 h8 hc hwf hk hdep
          have hz9 : z9 < 9 := (Array.getElem?_eq_some_iff.1 ho).1
          have hn := getD_tf h0
          have l7 := hc.2 8 _ rfl h8 ⟨7, .data⟩ (by simp) rfl
          have hl6 : ∀ k, k < 7 → listed.getD k false = true := fun k hk => by
            have hkk : k = 0 ∨ k = 1 ∨ k = 2 ∨ k = 3 ∨ k = 4 ∨ k = 5 ∨ k = 6 := by omega
            rcases hkk with rfl | rfl | rfl | rfl | rfl | rfl | rfl
            · exact hc.2 8 _ rfl h8 ⟨0, .phase⟩ (by simp) rfl
            · exact hc.2 8 _ rfl h8 ⟨1, .phase⟩ (by simp) rfl
            · exact hc.2 8 _ rfl h8 ⟨2, .phase⟩ (by simp) rfl
            · exact hc.2 8 _ rfl h8 ⟨3, .phase⟩ (by simp) rfl
            · exact hc.2 8 _ rfl h8 ⟨4, .phase⟩ (by simp) rfl
            · exact hc.2 8 _ rfl h8 ⟨5, .phase⟩ (by simp) rfl
            · exact hc.2 8 _ rfl h8 ⟨6, .phase⟩ (by simp) rfl
          exfalso
          by_cases h7 : z9 = 7
          · subst h7
            rw [l7] at hn
            cases hn
          · rw [hl6 z9 (by omega)] at hn
            cases hn
        case fin =>
          intro listed a2 w2 hall hwf hk
          have hact := fr_all [54, 55, 56, 57, 58, 59, 60, 61] hk (by kernel_rfl)
          simp only [List.foldl_cons, List.foldl_nil, List.setIfInBounds_toArray, List.set_cons_succ, List.set_cons_zero] at hact
          have HI10 := Lib.hid hwf.2
          clear hwf
          generalize a2.eval (.tmp 54) = u54 at hact
          generalize a2.eval (.tmp 55) = u55 at hact
          generalize a2.eval (.tmp 56) = u56 at hact
          generalize a2.eval (.tmp 57) = u57 at hact
          generalize a2.eval (.tmp 58) = u58 at hact
          generalize a2.eval (.tmp 59) = u59 at hact
          generalize a2.eval (.tmp 60) = u60 at hact
          generalize a2.eval (.tmp 61) = u61 at hact
          rw [hact]
          clear hact hk
          obtain ⟨w10, rfl⟩ : ∃ x, x = w2 := ⟨w2, rfl⟩
          go_wp2_with fail
          go_roundw
          case rel => exact ⟨i + 1, S.set (3 + i) ly, by omega, by go_num, HI10⟩
          case measure => simp [intOf]; omega
    · rw [decide_eq_false hlt] at hs33
      subst hs33
      obtain ⟨g9, hg9⟩ : ∃ g9, g9 = wr.heap.size := ⟨_, rfl⟩
      obtain ⟨W9, hW9⟩ : ∃ W9, W9 = wr.alloc (lgo 2 16 0 1) := ⟨_, rfl⟩
      obtain ⟨base, hbase⟩ : ∃ base, base = W9.heap.size := ⟨_, rfl⟩
      have hb9 : Below wr.heap.size wr W9 := by rw [hW9]; exact (Below.refl _ _).alloc (Nat.le_refl _) _
      have hs9 : W9.heap.size = wr.heap.size + 1 := by rw [hW9]; simp
      have hl9 : W9.heap[g9]? = some (lgo 2 16 0 1) := by rw [hW9, hg9]; exact heap_alloc_new _ _
      have HF0 : Hid (FO w g5 g9 base ⟨S, [], -1, false⟩ [] [] 0 1 (.slice none 0 0) W9) := ⟨led_forged HI.out.q HI.out.top, ⟨_, _, box_at HI.out.box hb9, HI.out.ok.below hb9⟩, box_at HI.out.lb hb9, hl9, faRow_nil _ _ _, HI.out.b.trans (hb9.mono HI.out.b.size), by rw [hbase]; exact Nat.le_refl _⟩
      have hgb : g9 + 1 = base := by omega
      have hg59 : g5 + 1 < g9 := by have := lt_of_at HI.out.lb; omega
      have HLBI := Lib.hid HI.out.lb
      have HW9 := Lib.hid hW9
      have HG9 := Lib.hid hg9
      obtain ⟨k0, k1, k2, k3, kf⟩ := cells_log HI.out.lb
      clear hW9 hb9 hs9 hl9 hbase HI hlt hg9
      go_upto_region 15 with fail
      rw [← HW9.out, ← HG9.out]
      clear k0 k1 k2 k3 kf HLBI HW9 HG9
      go_wp2_with fail
      go_loopw [10, 11] (fun s10 s11 wr => ∃ (i : Nat) (D : DD) (fs : Ws) (ats : Ats) (a x : Nat), i ≤ 6 ∧ s11 = .int .i64 i ∧ Hid (FO w g5 g9 base D fs ats a x s10 wr)) (fun _ s11 _ => 6 - (intOf s11).toNat)
      case atStart => exact ⟨0, _, [], [], 0, 1, by decide, rfl, HF0⟩
      case round =>
        obtain ⟨j, D, fs, ats, a, x, hj6, rfl, HJ⟩ := hrel
        clear HF0
        go_upto_region 17 with fail
        go_cut [70] from 63 to 115 (fun s70 wx => s70 = .bool (decide (j < nk ∧ j < 6)) ∧ wr = wx)
        case first =>
          by_cases ha1 : (j : Int) < nk
          · by_cases ha2 : (j : Int) < 6
            · go_wp2_with fail
              go_meet
              exact ⟨by rw [decide_eq_true (by omega)], rfl⟩
            · go_wp2_with fail
              go_meet
              exact ⟨by rw [decide_eq_false (by omega)], rfl⟩
          · go_wp2_with fail
            go_meet
            exact ⟨by rw [decide_eq_false (by omega)], rfl⟩
        case rest =>
        obtain ⟨hs70, rfl⟩ := hcut
        obtain ⟨A10, c10, rfl, hc10, hc10b⟩ := HJ.out.row.form
        have hbnd := HJ.out.led.bounds
        obtain ⟨m8, hm8⟩ : ∃ m8, m8 = fs.length := ⟨_, rfl⟩
        have ha16 : a < 16 := hbnd.1
        have hx1 : x = 1 + m8 := by rw [hm8]; exact hbnd.2.1
        have hm16 : m8 ≤ 15 := by omega
        have HM8 := Lib.hid hm8
        have HX1 := Lib.hid hx1
        have hx20 : x ≤ 20 := by omega
        have hx0 : 1 ≤ x := by omega
        rw [← hm8] at hc10 ⊢
        have HFAL : Hid (FaRow wr base w.heap.size (.slice A10 m8 c10) fs) := by show FaRow _ _ _ _ _; rw [hm8]; exact HJ.out.row
        clear hm8 hbnd hx1
        by_cases hlt : j < nk ∧ j < 6
        · rw [decide_eq_true hlt] at hs70
          subst hs70
          obtain ⟨hlt1, hlt2⟩ := hlt
          obtain ⟨b, o, rfl, hbl, hoct⟩ := HK.out.1 j (by have := HNK.out; omega)
          obtain ⟨ub, hub⟩ : ∃ ub, ub = (K[j]'(by have := HNK.out; omega)).toNat := ⟨_, rfl⟩
          rw [← hub] at hoct
          have hub2 : ub < 256 := by rw [hub]; exact UInt8.toNat_lt _
          obtain ⟨q, hq⟩ : ∃ q, q = ub % 3 := ⟨_, rfl⟩
          have hq2 : q ≤ 2 := by omega
          have hqi : (ub : Int) % 3 = q := by omega
          obtain ⟨wo, rfl⟩ : ∃ y, y = wr := ⟨wr, rfl⟩
          have q0 := (HJ.out.b.cell (p := ⟨b, o + j, none⟩) hbl).trans hoct
          have HQ0 := Lib.hid q0
          have HBL : Hid (b < wo.heap.size) := by have := HJ.out.b.size; show _ < _; omega
          have hli : (j : Int) < nk := by omega
          have hmk : (Instr.makeSlice 28 (.int .i64 48) (.int .i64 48)).run Try.prog wo = .ok (.slice (some ⟨wo.heap.size, 0, none⟩) 48 48) (wo.alloc (.cells (made5 48) 5)) := make5 48 (by decide) wo
          obtain ⟨W1, hW1⟩ : ∃ W1, W1 = wo.alloc (.cells (made5 48) 5) := ⟨_, rfl⟩
          have HOW : Hid (Chk.Own W1 wo.heap.size (.slice (some ⟨wo.heap.size, 0, none⟩) 48 48) (dk x 0)) := by rw [hW1, dk_zero]; exact own48 wo
          have HB1 : Hid (Below wo.heap.size wo W1) := by rw [hW1]; exact (Below.refl _ _).alloc (Nat.le_refl _) _
          have HW1 := Lib.hid hW1
          clear hW1 hub hq hbl hoct q0
          go_upto_region 20 with fail
          rw [← HW1.out]
          clear hmk HW1
          go_wp2_with fail
          go_loopw [12, 13] (fun s12 s13 w9 => ∃ k : Nat, k ≤ q ∧ s13 = .int .i64 k ∧ Hid (Chk.Own w9 wo.heap.size s12 (dk x k)) ∧ Hid (Below wo.heap.size wo w9)) (fun _ s13 _ => q - (intOf s13).toNat)
          case atStart => exact ⟨0, Nat.zero_le _, rfl, HOW, HB1⟩
          case round =>
            obtain ⟨k, hkq, rfl, HOK, HX⟩ := hrel
            have q0 := (HX.out.cell (p := ⟨b, o + j, none⟩) HBL.out).trans HQ0.out
            by_cases hkl : k < q
            · have hkl' : (k : Int) < q := by omega
              obtain ⟨k0, k1, k2, k3, kf⟩ := cells_log (box_at HJ.out.lb HX.out)
              have HLAY : Hid (∀ (z : Int) (B : Nat) (W : World), z = ((x + 1 + k : Nat) : Int) → Chk.Octs W B (some ⟨wr.heap.size, 0, none⟩) [7] → B ≤ W.heap.size → Calls Try.prog 31 #[.agg #[.int .i64 z, .slice (some ⟨wr.heap.size, 0, none⟩) 1 1]] W fun e w' => e = .returned (.string (Chk.text (Frm.lay (x + 1 + k) [7]))) ∧ Below W.heap.size W w') := fun z B W hz ho hB => by
                rw [hz]; exact Fra.rlay_at (x + 1 + k) _ [7] 1 1 B W rfl ho hB (by omega) (by decide)
              have HN7 : Hid (Chk.Octs (wr.alloc (.cells #[.int .u8 7] 5)) (wr.heap.size + 1) (some ⟨wr.heap.size, 0, none⟩) [7]) := Chk.octs_new wr [7] (0, 0)
              have hsz7 : (wr.alloc (.cells #[.int .u8 7] 5)).heap.size = wr.heap.size + 1 := Array.size_push _
              have HB7 : Hid (Below wr.heap.size wr (wr.alloc (.cells #[.int .u8 7] 5))) := (Below.refl _ _).alloc (Nat.le_refl _) _
              have HSZ7 := Lib.hid hsz7
              clear hsz7
              go_wp2_with fail
              refine (HLAY.out _ (wr.heap.size + 1) _ (by omega) HN7.out (by rw [HSZ7.out]; exact Nat.le_refl _)).mono ?_
              rintro e w5 ⟨rfl, hb5⟩
              have hb95 : Below wr.heap.size wr w5 := HB7.out.trans (hb5.mono (by rw [HSZ7.out]; omega))
              obtain ⟨cap, w6, hr6, hb6, ho6, hs6, hc6⟩ := Fra.conv_str w5 (Frm.lay (x + 1 + k) [7]) 64 (lay7_len _)
              have hb96 := hb95.trans (hb6.mono hb95.size)
              have hown6 : Chk.Own w6 wo.heap.size u12 (dk x k) := Fra.own_kept HOK.out hb96 (Nat.le_refl _)
              have hx6 := HX.out.trans (hb96.mono HX.out.size)
              obtain ⟨v7, w7, hr7, hown7, hg7, _⟩ := Chk.run_app w6 wo.heap.size w6.heap.size u12 (dk x k) hown6 (some ⟨w5.heap.size, 0, none⟩) (Frm.lay (x + 1 + k) [7]) cap ho6 (by rw [dk_len, lay7_len]; omega) hx6.size
              rw [lay7_len] at hr7
              rw [← dk_next] at hown7
              have HX7 : Hid (Below wo.heap.size wo w7) := hx6.grown hg7 hx6.size (fun k h => (hown6.lt k h).1)
              have HO7 := Lib.hid hown7
              have HR7 := Lib.hid hr7
              clear hb5 hb95 hb6 ho6 hs6 hb96 hown6 hx6 hown7 hg7 hr7 k0 k1 k2 k3 kf q0
              go_wp2_with (at_builtin; refine Go.Lib.wpList_append_run _ rfl (.tmp 84) (.tmp 93) 28 28 rfl _ _ rfl rfl v7 w7 HR7.out ?_)
              go_roundw
              case rel => exact ⟨k + 1, by omega, by go_num, HO7, HX7⟩
              case measure => simp [intOf]; omega
            · obtain rfl : k = q := by omega

              obtain ⟨A1, c1, rfl, ho1, hc1⟩ := Fra.own_sl HOK.out
              obtain ⟨d, hd⟩ : ∃ d, d = dk x k := ⟨_, rfl⟩
              obtain ⟨dm, hdm⟩ : ∃ dm, d.length = dm := ⟨_, rfl⟩
              have hd176 : dm ≤ 176 := by rw [← hdm, hd, dk_len]; omega
              have hown9 : Chk.Own wr wo.heap.size (.slice A1 dm c1) d := by
                have h1 := HOK.out
                rw [← hd, hdm] at h1
                exact h1
              rw [← hd, hdm] at hc1 ⊢
              have HOW : Hid (OctsW wr w.heap.size A1 d) := own_toW hdm hown9
              have HOD : Hid (Octs wr wr.heap.size A1 d) := HOW.out.octs
              have HJ9 := Lib.hid (HJ.out.below HX.out)
              have HFAL9 := Lib.hid (HFAL.out.below HX.out)
              obtain ⟨Aq, cq, hbq, hokq⟩ := HJ9.out.box
              have HBQ := Lib.hid hbq
              have HOKQ := Lib.hid hokq
              have HLB := Lib.hid HJ9.out.lb
              have hfD : Fit D 0 := HJ9.out.led.q.f
              have hgwr : g9 < wr.heap.size := lt_of_at HJ9.out.l9
              clear ho1 hd hbq hokq hown9 HOK
              rcases hRRb : appR D 2 16 (a : Int) (x : Int) d with ⟨Eb, ⟨g0b, g1b, g2b, g3b⟩, eb⟩
              have hfEb : Fit Eb (0 + 500) := by have := (appR_fit 2 16 (a : Int) (x : Int) d hfD).1; rw [hRRb] at this; exact this
              have hsEb : Eb.S.length = (D).S.length := by have := (appR_fit 2 16 (a : Int) (x : Int) d hfD).2; rw [hRRb] at this; exact this
              have HAPb : Hid (∀ (W : World) (v : Value) (A : Option Addr) (c : Nat), Okd W v D → Octs W W.heap.size A d → Calls Try.prog 13 #[v, lgv 2 16 (a : Int) (x : Int), .slice A dm c] W fun e w' => ∃ v', e = .returned (.tuple #[v', lgv g0b g1b g2b g3b, .int .i64 eb]) ∧ OkE w' v' Eb eb ∧ Below W.heap.size W w') := fun W v A c h1 h2 => by
                have := append_at W v D 0 2 16 (a : Int) (x : Int) A d dm c hdm h1 hfD (by decide) (by rw [HJ9.out.led.q.s]; decide) (by decide) (by decide) (by omega) (by omega) (by omega) (by omega) (by decide) (by decide) h2 (by omega)
                unfold AppP at this
                rw [hRRb] at this
                exact this
              have HRRb := Lib.hid hRRb
              have HSEb := Lib.hid hsEb
              clear hRRb hsEb
              have HAC := Lib.hid (HJ9.out.led.app (by decide) (by decide) d HRRb.out)
              obtain ⟨k0, k1, k2, k3, kf⟩ := cells_of4 HBQ.out
              obtain ⟨r0, r1, r2, r3, rf⟩ := cells_log HLB.out
              go_wp2_with fail
              refine (HAPb.out wr (qv Aq cq) A1 c1 HOKQ.out HOD.out).mono ?_
              rintro e w3 ⟨v', rfl, ⟨⟨Ax, nx, cx, Ax', mx, cx', Lx, Ox, rfl, hnx⟩, hx2⟩, hb3⟩
              have HX2 := Lib.hid hx2
              have HB3 := Lib.hid hb3
              clear hx2 hb3 k0 k1 k2 k3 kf r0 r1 r2 r3 rf q0
              go_upto_region 25 with fail
              obtain ⟨w4, hw4⟩ : ∃ w4, w4 = (w3.alloc (.cells #[.slice Ax nx cx, .slice Ax' mx cx', .int .i64 Lx, .bool Ox] 25)).alloc (lgo g0b g1b g2b g3b) := ⟨_, rfl⟩
              rw [← hw4]
              have hb34 : Below w3.heap.size w3 w4 := by rw [hw4]; exact ((Below.refl _ _).alloc (Nat.le_refl _) _).alloc (by simp) _
              have hd12 : DBox w4 w3.heap.size Eb eb := ⟨Ax, nx, cx, Ax', mx, cx', Lx, Ox, by rw [hw4, Below.heap_alloc _ _ _ (by simp)]; exact heap_alloc_new _ _, hnx, OkE.below ⟨⟨_, _, _, _, _, _, _, _, rfl, hnx⟩, HX2.out⟩ hb34⟩
              have hl13 : w4.heap[w3.heap.size + 1]? = some (lgo g0b g1b g2b g3b) := by
                have h1 := heap_alloc_new (w3.alloc (.cells #[.slice Ax nx cx, .slice Ax' mx cx', .int .i64 Lx, .bool Ox] 25)) (lgo g0b g1b g2b g3b)
                rw [hw4]
                simpa using h1
              have HB : Hid (Below wr.heap.size wr w4) := HB3.out.trans (hb34.mono HB3.out.size)
              obtain ⟨g14, hg14e⟩ : ∃ g, g = w3.heap.size := ⟨_, rfl⟩
              rw [← hg14e] at hd12 hl13 ⊢
              have hg14 : wr.heap.size ≤ g14 := by rw [hg14e]; exact HB3.out.size
              clear hw4 hb34 hg14e
              obtain ⟨g15, hg15e⟩ : ∃ g, g = g14 + 1 := ⟨_, rfl⟩
              rw [← hg15e] at hl13 ⊢
              have hg15 : wr.heap.size ≤ g15 := by omega
              clear hg15e
              have HJ4 := Lib.hid (HJ9.out.below HB.out)
              have HFAL4 := Lib.hid (HFAL9.out.below HB.out)
              have hs4 := HB.out.size
              have HD12 := Lib.hid hd12
              have HL13 := Lib.hid hl13
              have hg14l : g14 < w4.heap.size := by obtain ⟨_, _, _, _, _, _, _, _, h1, _⟩ := hd12; exact lt_of_at h1
              have hg15l := lt_of_at hl13
              have HJ4' : Hid (FO w g5 g9 base D fs ats a x (.slice A10 m8 c10) w4) := by
                have h1 := HJ4.out
                rw [← HM8.out] at h1
                exact h1
              clear hd12 hl13
              rcases HAC.out with ⟨rfl, hbad⟩ | ⟨rfl, hle6, hroom⟩ | ⟨rfl, a', rfl, rfl, rfl, rfl, hled⟩
              · exfalso
                rw [hdm] at hbad
                omega
              · go_wp2_with fail
                go_roundw
                case rel => exact ⟨j + 1, D, fs, ats, a, x, by omega, by go_num, HJ4'⟩
                case measure => simp [intOf]; omega
              · have HLED := Lib.hid hled
                have HQB := Lib.hid (qbox_of HD12.out hled.q)
                have hbas4 := HJ4.out.hi
                obtain ⟨X, hX⟩ : ∃ X, X = w4.alloc (.cells #[.int .i64 (x : Int), .slice A1 dm c1] 58) := ⟨_, rfl⟩
                have hbX : Below w4.heap.size w4 X := by rw [hX]; exact (Below.refl _ _).alloc (Nat.le_refl _) _
                have hxX : X.heap[w4.heap.size]? = some (.cells #[.int .i64 (x : Int), .slice A1 dm c1] 58 (0, 0)) := by rw [hX]; exact heap_alloc_new _ _
                have y0 : X.cell? ⟨w4.heap.size, 0, none⟩ = some (.int .i64 (x : Int)) := by rw [cell_of_row X _ 0 _ _ _ hxX]; rfl
                have y1 : X.cell? ⟨w4.heap.size, 1, none⟩ = some (.slice A1 d.length c1) := by rw [cell_of_row X _ 1 _ _ _ hxX, hdm]; rfl
                have hfalX := HFAL4.out.below hbX
                have hXs := hbX.size
                have howX : OctsW X w.heap.size A1 d := HOW.out.keep ⟨Nat.le_trans HB.out.size hXs, fun b hb _ => (hbX.block b (by omega)).trans (HB.out.block b hb)⟩
                obtain ⟨v10', w7, hr7, hfal7, hkw7, hb7, hg7⟩ := hfalX.snoc w4.heap.size (x : Int) A1 d c1 y0 y1 howX (by rw [hdm]; exact hc1) (by rw [hdm]; omega) (by omega) (by omega) (by have := HM8.out; omega) (by omega) (by have := HJ4.out.b.size; omega)
                have n7 : ∀ g', wr.heap.size ≤ g' → (Value.slice A10 m8 c10).ownBlock ≠ some g' := fun g' h2 e => by have := HFAL9.out.lt e; omega
                have HQB7 : Hid (QBox w7 g14 Eb) := (HQB.out.below hbX).grown hled.q hg7 hfalX.mute (n7 _ hg14)
                have HL7 : Hid (w7.heap[g15]? = some (lgo 2 16 (a' : Int) ((x + 1 : Nat) : Int))) := (hg7.block g15 (by omega) (fun e => n7 _ hg15 e.symm)).trans (box_at HL13.out hbX)
                have H57 : Hid (∃ o, w7.heap[g5]? = some o ∧ Shp 0 o) := by
                  obtain ⟨A5, c5, h1, _⟩ := HJ4.out.box.below hbX
                  exact ⟨_, (hb7.block g5 (by omega)).trans h1, shp0 _ _ _ _ _ _ _ _ (by decide)⟩
                have H77 : Hid (∃ o, w7.heap[g5 + 1]? = some o ∧ Shp 1 o) := ⟨_, (hb7.block (g5 + 1) (by omega)).trans (box_at HJ4.out.lb hbX), shp1 _ _ _ _⟩
                have H97 : Hid (w7.heap[g9]? = some (lgo 2 16 0 1)) := (hb7.block g9 (by omega)).trans (box_at HJ4.out.l9 hbX)
                have HB07 : Hid (Below w.heap.size w w7) := (HJ4.out.b.trans (hbX.mono HJ4.out.b.size)).trans (hb7.mono (by have := HJ4.out.b.size; omega))
                have HFAL7 := Lib.hid hfal7
                have HR7 := Lib.hid hr7
                rw [hX] at HR7
                have HLB4 := Lib.hid HJ4.out.lb
                have hs47 : w4.heap.size ≤ w7.heap.size := by have := hb7.size; have := hg7.size; omega
                have hbw : w.heap.size ≤ g5 := hgw
                clear hled hX hbX hxX y0 y1 hfalX hr7 hfal7 hkw7 hb7 hg7 n7 hXs howX HD12
                obtain ⟨k0, k1, k2, k3, kf⟩ := cells_log HLB4.out
                go_upto_region 29 with (first
                  | (at_builtin; refine Go.Lib.wpList_append_run _ rfl (.tmp 107) (.tmp 112) 43 43 rfl _ _ rfl rfl v10' w7 HR7.out ?_))
                clear k0 k1 k2 k3 kf
                obtain ⟨A5, c5, hq5, hok5⟩ := HQB7.out
                have HQ5 := Lib.hid hq5
                have HOK5 := Lib.hid hok5
                have hfE : Fit Eb 0 := HLED.out.q.f
                clear hq5 hok5
                refine wp_region_acts (by kernel_rfl) (g5) (by omega) [kv (qv A5 c5), kv (lgv 2 16 (a' : Int) ((x + 1 : Nat) : Int)), lfDAt g5 Eb 0 hfE 0, lfLAt (g5 + 1) 2 16 (a' : Int) ((x + 1 : Nat) : Int)] [114, 115, 5, 6] [none, none, some 0, some 1] rfl (fun (_ : Array Bool) (w' : World) => w'.heap[g14]? = some (qo A5 c5) ∧ Okd w' (qv A5 c5) Eb ∧ w'.heap[g15]? = some (lgo 2 16 (a' : Int) ((x + 1 : Nat) : Int)) ∧ FaRow w' base w.heap.size v10' (fs ++ [((x : Int), d)]) ∧ (∃ o, w'.heap[g5]? = some o ∧ Shp 0 o) ∧ (∃ o, w'.heap[g5 + 1]? = some o ∧ Shp 1 o) ∧ w'.heap[g9]? = some (lgo 2 16 0 1)) ?hgam29 (by kernel_rfl) (backsB_spec (by kernel_rfl)) ?start29 ?step29  ?store29 ?fin29
                case hgam29 =>
                  intro listed z9 w2 w3 hki hlo2 hb2 hg2
                  obtain ⟨m1, m2, m3, m4, ⟨o5, m5, m5s⟩, ⟨o6, m6, m6s⟩, m7⟩ := hg2
                  exact ⟨box_at m1 hb2, m2.below hb2, box_at m3 hb2, m4.below hb2, ⟨o5, box_at m5 hb2, m5s⟩, ⟨o6, box_at m6 hb2, m6s⟩, box_at m7 hb2⟩
                case start29 => exact ⟨HQ5.out, HOK5.out.below (below_dr0 _), HL7.out, HFAL7.out.below (below_dr0 _), H57.out, H77.out, H97.out⟩
                case step29 =>
                  intro z9 p9 listed a1 w2 hki ho h0 hclo hk hdep
                  have hz9 : z9 < 4 := (Array.getElem?_eq_some_iff.1 ho).1
                  have e5 := ev (show a1.eval (.tmp 5) = .pointer (some ⟨g5, 0, none⟩) from hk.frame 5 (frame_of (by kernel_rfl)))
                  have e6 := ev (show a1.eval (.tmp 6) = .pointer (some ⟨g5 + 1, 0, none⟩) from hk.frame 6 (frame_of (by kernel_rfl)))
                  have e14 := ev (show a1.eval (.tmp 14) = .pointer (some ⟨g14, 0, none⟩) from hk.frame 14 (frame_of (by kernel_rfl)))
                  have e15 := ev (show a1.eval (.tmp 15) = .pointer (some ⟨g15, 0, none⟩) from hk.frame 15 (frame_of (by kernel_rfl)))
                  have hii : z9 = 0 ∨ z9 = 1 ∨ z9 = 2 ∨ z9 = 3 := by omega
                  rcases hii with rfl | rfl | rfl | rfl
                  · cases ho
                    obtain ⟨k0, k1, k2, k3, kf⟩ := cells_of4 hk.gam.1
                    refine wpOp_of rfl rfl (wp_value (v := qv A5 c5) ?_ rfl)
                    go_simp
                  · cases ho
                    obtain ⟨k0, k1, k2, k3, kf⟩ := cells_log hk.gam.2.2.1
                    refine wpOp_of rfl rfl (wp_value (v := lgv 2 16 (a' : Int) ((x + 1 : Nat) : Int)) ?_ rfl)
                    go_simp
                  · exact absurd hki (by simp)
                  · exact absurd hki (by simp)
                case store29 =>
                  intro z9 K9 p9 listed a1 w2 hki ho h0 hclo hk hdep
                  have hz9 : z9 < 4 := (Array.getElem?_eq_some_iff.1 ho).1
                  have e5 := ev (show a1.eval (.tmp 5) = .pointer (some ⟨g5, 0, none⟩) from hk.frame 5 (frame_of (by kernel_rfl)))
                  have e6 := ev (show a1.eval (.tmp 6) = .pointer (some ⟨g5 + 1, 0, none⟩) from hk.frame 6 (frame_of (by kernel_rfl)))
                  have e14 := ev (show a1.eval (.tmp 14) = .pointer (some ⟨g14, 0, none⟩) from hk.frame 14 (frame_of (by kernel_rfl)))
                  have e15 := ev (show a1.eval (.tmp 15) = .pointer (some ⟨g15, 0, none⟩) from hk.frame 15 (frame_of (by kernel_rfl)))
                  have hii : z9 = 0 ∨ z9 = 1 ∨ z9 = 2 ∨ z9 = 3 := by omega
                  rcases hii with rfl | rfl | rfl | rfl
                  · exact absurd hki (by simp)
                  · exact absurd hki (by simp)
                  · cases hki
                    cases ho
                    have d0 := ev (show a1.eval (.tmp 114) = qv A5 c5 from hk.done 0 _ 114 rfl rfl (hdep ⟨0, .data⟩ (by simp) rfl))
                    obtain ⟨m1, m2, m3, m4, ⟨o5, m5, m5s⟩, ⟨o6, m6, m6s⟩, m7⟩ := hk.gam
                    have M1 := Lib.hid m1
                    have M2 := Lib.hid m2
                    have M3 := Lib.hid m3
                    have M4 := Lib.hid m4
                    have M5 := Lib.hid m5
                    have M5s := Lib.hid m5s
                    have M6 := Lib.hid m6
                    have M6s := Lib.hid m6s
                    have M7 := Lib.hid m7
                    obtain ⟨y0, y1, y2, y3, j0, j1, j2, j3, jf⟩ := cells_any0 m5 m5s
                    clear m1 m2 m3 m4 m5 m5s m6 m6s m7
                    refine wpOp_of rfl rfl ?_
                    go_simp
                    have hrk := rk_disk M5.out M5s.out A5 20 c5 none 0 0 (-1) false (by decide)
                    exact ⟨rfl, dbox_st M5.out M5s.out hfE (by decide) (OkE.of 0 M2.out (by rw [HLED.out.q.s]; decide)), st4_below (Below.refl _ _) (Nat.le_refl _) _ _ _ _, hrk, (st4_far _ _ _ _ _ (by omega)).trans M1.out, M2.out.rk hfE hrk, (st4_far _ _ _ _ _ (by omega)).trans M3.out, faRow_stS M4.out _ _ _ _ M5.out (.inl M5s.out) (by omega) (by omega), ⟨_, disk_at M5.out M5s.out _ _ _ _ _ _ _ _, shp0 _ _ _ _ _ _ _ _ (by decide)⟩, ⟨_, (st4_far _ _ _ _ _ (by omega)).trans M6.out, M6s.out⟩, (st4_far _ _ _ _ _ (by omega)).trans M7.out⟩
                  · cases hki
                    cases ho
                    have d1 := ev (show a1.eval (.tmp 115) = lgv 2 16 (a' : Int) ((x + 1 : Nat) : Int) from hk.done 1 _ 115 rfl rfl (hdep ⟨1, .data⟩ (by simp) rfl))
                    obtain ⟨m1, m2, m3, m4, ⟨o5, m5, m5s⟩, ⟨o6, m6, m6s⟩, m7⟩ := hk.gam
                    have M1 := Lib.hid m1
                    have M2 := Lib.hid m2
                    have M3 := Lib.hid m3
                    have M4 := Lib.hid m4
                    have M5 := Lib.hid m5
                    have M5s := Lib.hid m5s
                    have M6 := Lib.hid m6
                    have M6s := Lib.hid m6s
                    have M7 := Lib.hid m7
                    obtain ⟨y0, y1, y2, y3, j0, j1, j2, j3, jf⟩ := cells_any1 m6 m6s
                    clear m1 m2 m3 m4 m5 m5s m6 m6s m7
                    refine wpOp_of rfl rfl ?_
                    go_simp
                    have hrk := rk_log M6.out M6s.out 2 16 (a' : Int) ((x + 1 : Nat) : Int)
                    exact ⟨rfl, log_at M6.out M6s.out _ _ _ _, st4_below (Below.refl _ _) (by omega) _ _ _ _, hrk, (st4_far _ _ _ _ _ (by omega)).trans M1.out, M2.out.rk hfE hrk, (st4_far _ _ _ _ _ (by omega)).trans M3.out, faRow_stS M4.out _ _ _ _ M6.out (.inr M6s.out) (by omega) (by omega), ⟨_, (st4_far _ _ _ _ _ (by omega)).trans M5.out, M5s.out⟩, ⟨_, log_at M6.out M6s.out _ _ _ _, shp1 _ _ _ _⟩, (st4_far _ _ _ _ _ (by omega)).trans M7.out⟩
                case fin29 =>
                  intro listed a2 w2 hall hk
                  have hact := keptA_all [114, 115] hk (by kernel_rfl)
                  have h114 := hk.done 0 _ 114 rfl rfl (hall 0 (by decide))
                  have h115 := hk.done 1 _ 115 rfl rfl (hall 1 (by decide))
                  have s2 := hk.acts 2 _ rfl rfl (hall 2 (by decide))
                  change PhK _ 2 (a2.eval (.tmp 5)) w2 at s2
                  have s3 := hk.acts 3 _ rfl rfl (hall 3 (by decide))
                  change PhK _ 3 (a2.eval (.tmp 6)) w2 at s3
                  have HB := Lib.hid hk.below
                  simp only [List.foldl_cons, List.foldl_nil, List.setIfInBounds_toArray, List.set_cons_succ, List.set_cons_zero] at hact
                  generalize a2.eval (.tmp 114) = u114 at hact h114
                  generalize a2.eval (.tmp 115) = u115 at hact h115
                  rw [hact]
                  clear hact
                  have HI6 : Hid (FO w g5 g9 base Eb (fs ++ [((x : Int), d)]) (ats ++ [(a, x)]) a' (x + 1) v10' w2) := ⟨HLED.out, qbox_of s2 HLED.out.q, s3, hk.gam.2.2.2.2.2.2, hk.gam.2.2.2.1, HB07.out.trans (HB.out.mono hgw), by have := HB.out.size; omega⟩
                  obtain ⟨w6, rfl⟩ : ∃ x, x = w2 := ⟨w2, rfl⟩
                  clear s2 s3 hk h114 h115
                  go_wp2_with fail
                  go_roundw
                  case rel => exact ⟨j + 1, Eb, _, _, a', x + 1, by omega, by go_num, HI6⟩
                  case measure => simp [intOf]; omega
        · rw [decide_eq_false hlt] at hs70
          subst hs70
          clear hlt
          by_cases h0 : m8 = 0
          · subst h0
            go_wp2_with fail
            refine (awake_any wr).mono ?_
            rintro e w12 ⟨rfl, hb12⟩
            have HB12 := Lib.hid (HJ.out.b.trans (hb12.mono HJ.out.b.size))
            clear hb12
            go_wp2_with fail
            go_ret
            exact ⟨rfl, HB12.out⟩
          · have h0' : ((m8 : Int) == 0) = false := by simp; omega
            obtain ⟨Aq, cq, hbq, hokq⟩ := HJ.out.box
            have HBQ := Lib.hid hbq
            have HOKQ := Lib.hid hokq
            have HLB := Lib.hid HJ.out.lb
            have HSC : Hid (Calls Try.prog 21 #[qv Aq cq, lgv 2 16 0 1] wr (ScanP wr fs 2 16 a x)) := scan_any wr (qv Aq cq) D 0 2 16 0 1 fs a x hokq HJ.out.led.q.f (by decide) HJ.out.led.q.q.1 HJ.out.led.q.q.2 (by decide) (by decide) (by decide) (by decide) (by rw [HJ.out.led.q.s]; decide) (HJ.out.led.h.scan (fit_sec HJ.out.led.q.f))
            have HPD : Hid (Pend wr wr.heap.size A10 fs) := HFAL.out.pend
            clear hbq hokq
            obtain ⟨p0, p1, p2, p3, pf⟩ := cells_of4 HBQ.out
            obtain ⟨k0, k1, k2, k3, kf⟩ := cells_log HJ.out.l9
            go_wp2_with fail
            refine HSC.out.mono ?_
            rintro e w22 ⟨AG, cG, rfl, hpG, -, hcG, hb22⟩
            rw [← HM8.out]
            clear p0 p1 p2 p3 pf k0 k1 k2 k3 kf
            obtain ⟨w23, hw23⟩ : ∃ w23, w23 = w22.alloc (lgo 2 16 (a : Int) (x : Int)) := ⟨_, rfl⟩
            have hb23 : Below w22.heap.size w22 w23 := by rw [hw23]; exact (Below.refl _ _).alloc (Nat.le_refl _) _
            have hl20 : w23.heap[w22.heap.size]? = some (lgo 2 16 (a : Int) (x : Int)) := by rw [hw23]; exact heap_alloc_new _ _
            have HW23 := Lib.hid hw23
            have HL20 := Lib.hid hl20
            have HX23 : Hid (Below wr.heap.size wr w23) := hb22.trans (hb23.mono hb22.size)
            have HSM : Hid (Calls Try.prog 23 #[.slice AG m8 cG, .slice A10 m8 c10] w23 fun e w' => e = .returned (.bool true) ∧ Below w23.heap.size w23 w') := by
              have h2 := (HPD.out.below HX23.out (Nat.le_refl _)).more HX23.out.size
              have h3 := (hpG.below hb23 (Nat.le_refl _)).more hb23.size
              have := same6_any AG A10 cG c10 fs w23 h3 h2 (by have := HM8.out; omega)
              rw [← HM8.out] at this
              exact this
            clear hw23 hl20 hb22 hb23 hpG
            go_upto_region 33 with fail
            rw [← HW23.out]
            go_wp2_with fail
            refine HSM.out.mono ?_
            rintro e w24 ⟨rfl, hb24⟩
            have HX24 := Lib.hid (HX23.out.trans (hb24.mono HX23.out.size))
            obtain ⟨k0, k1, k2, k3, kf⟩ := cells_log (box_at HL20.out hb24)
            obtain ⟨r0, r1, r2, r3, rf⟩ := cells_log (box_at HLB.out HX24.out)
            clear hb24
            go_wp2_with fail
            refine (awake_any w24).mono ?_
            rintro e w25 ⟨rfl, hb25⟩
            have HB25 : Hid (Below w.heap.size w w25) := (HJ.out.b.trans (HX24.out.mono HJ.out.b.size)).trans (hb25.mono (by have := HX24.out.size; have := HJ.out.b.size; omega))
            clear hb25 k0 k1 k2 k3 kf r0 r1 r2 r3 rf
            go_wp2_with fail
            go_ret
            exact ⟨rfl, HB25.out⟩
end Go.Proofs.Ytjcgggheablpeaa.Wal
