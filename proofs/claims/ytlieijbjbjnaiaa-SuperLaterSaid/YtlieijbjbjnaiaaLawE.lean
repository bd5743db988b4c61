/- The walk of SuperLater. -/
import Derived.Test.YtlieijbjbjnaiaaS12
namespace Go.Proofs.Ytlieijbjbjnaiaa.Sup
open Go.RowKit Crc Chk Frm Fra

def lfZ : Fra.Left := ⟨fun v W => Sl64 v zer W, fun _ _ _ hb h => h.below hb⟩
def lfZ2 : Fra.Left := ⟨fun v W => ∃ a b, v = .agg #[a, b] ∧ Sl64 a zer W ∧ Sl64 b zer W, fun _ _ _ hb ⟨a, b, e, h1, h2⟩ => ⟨a, b, e, h1.below hb, h2.below hb⟩⟩
def lfA (lo : Nat) : Fra.Left := ⟨fun v W => ∃ g, v = .pointer (some ⟨g, 0, none⟩) ∧ lo ≤ g ∧ BoxA g (.slice none 0 0) (.slice none 0 0) W, fun _ _ _ hb ⟨g, e, h1, h2⟩ => ⟨g, e, h1, h2.below hb h2.lt⟩⟩
theorem boxA_new (W : World) : BoxA W.heap.size (.slice none 0 0) (.slice none 0 0) (W.alloc (.cells #[.slice none 0 0, .slice none 0 0] 51)) := heap_alloc_new W _
theorem wp_exactW {P : Program} {o : Oper} {a : Act} {w w2 : World} {Q : Exit → Act → World → Prop} {v : Value} (h : (execOp a.eval o).run P w = .ok (.value v) w2) : o.wp P a w (fun a' w' => a' = a.put o.dst v ∧ w' = w2) Q := by
  unfold Oper.wp
  rw [h]
  exact ⟨rfl, rfl⟩
set_option maxHeartbeats 6400000 in
theorem later_any (s : Sp) (m : Nat) (w : World) (sg1 : -9223372036854775808 ≤ s.g) (sg2 : s.g ≤ 9223372036854775807) (sh1 : -9223372036854775808 ≤ s.h) (sh2 : s.h ≤ 9223372036854775807) (hm : m < 256) :
    Calls Try.prog 7 #[.agg #[.int .i64 s.g, .int .i64 s.h, .int .i64 s.n, .int .i64 s.p], .int .u8 (m : Int)] w fun e w' => e = .returned (.bool true) ∧ Below w.heap.size w w' := by
  obtain ⟨W0, hW0⟩ : ∃ W0, W0 = w.alloc (.cells #[.int .i64 s.g, .int .i64 s.h, .int .i64 s.n, .int .i64 s.p] 23) := ⟨_, rfl⟩
  have HS0 : Hid (BoxH w.heap.size s W0) := by rw [hW0]; exact boxH_new w s
  have HZ0 : Hid (Below w.heap.size w W0) := by rw [hW0]; exact (Below.refl _ _).alloc (Nat.le_refl _) _
  have hz0 : w.heap.size < W0.heap.size := by rw [hW0, alloc_size]; omega
  have HW0 := Lib.hid hW0
  clear hW0
  go_enter Try.func7, Try.ntmps7
  go_wp2_with fail
  rw [← HW0.out]
  go_cut [5] from 5 to 16 (fun s5 wx => ∃ (g : Nat) (a b : Value), s5 = .pointer (some ⟨g, 0, none⟩) ∧ Hid (LaI w g s a b zer zer wx))
  case first =>
    refine wp_region_store (S := 4) (X := 5) (by kernel_rfl) (Phi [lfZ, lfZ, lfZ2, lfA W0.heap.size]) (phi_stab _) (fun _ _ => True) (fun _ _ _ _ => trivial) (fun v wx => ∃ (g : Nat) (a b : Value), v = .pointer (some ⟨g, 0, none⟩) ∧ LaI w g s a b zer zer wx) (by kernel_rfl) (backsB_spec (by kernel_rfl)) ?step ?store ?behind ?fin (by decide)
    case step =>
      intro i o listed a1 w2 hi4 ho hbl hk hdep
      have hi : i < 5 := (Array.getElem?_eq_some_iff.1 ho).1
      have hii : i = 0 ∨ i = 1 ∨ i = 2 ∨ i = 3 := by omega
      rcases hii with rfl | rfl | rfl | rfl
      · cases ho
        refine ⟨rfl, wp_leaves (v := .slice (some ⟨w2.heap.size, 0, none⟩) 64 64) (w' := w2.alloc (.cells (zer.map b8).toArray 5)) ?_ (zer64 w2) ((Below.refl _ _).alloc (Nat.le_refl _) _)⟩
        have h64 := make64 w2
        simp [execOp, Act.eval, h64]
      · cases ho
        refine ⟨rfl, wp_leaves (v := .slice (some ⟨w2.heap.size, 0, none⟩) 64 64) (w' := w2.alloc (.cells (zer.map b8).toArray 5)) ?_ (zer64 w2) ((Below.refl _ _).alloc (Nat.le_refl _) _)⟩
        have h64 := make64 w2
        simp [execOp, Act.eval, h64]
      · cases ho
        obtain ⟨ad, c, hv, h1, h2, h3⟩ := hk.done 0 _ 14 rfl rfl (hdep ⟨0, .data⟩ (by simp) rfl)
        obtain ⟨ad', c', hv', h1', h2', h3'⟩ := hk.done 1 _ 15 rfl rfl (hdep ⟨1, .data⟩ (by simp) rfl)
        have d0 := ev hv
        have d1 := ev hv'
        refine ⟨rfl, wp_value (v := .agg #[.slice (some ad) 64 c, .slice (some ad') 64 c']) ?_ ⟨_, _, rfl, ⟨ad, c, rfl, h1, h2, h3⟩, ⟨ad', c', rfl, h1', h2', h3'⟩⟩⟩
        go_simp
      · cases ho
        refine ⟨rfl, ?_⟩
        go_simp
        exact ⟨_, rfl, ⟨_, rfl, hbl.size, boxA_new _⟩, (Below.refl _ _).alloc (Nat.le_refl _) _⟩
    case store =>
      intro o listed a1 w2 ho hc hbl hk hdep
      cases ho
      have l3 := hdep ⟨3, .data⟩ (by simp) rfl
      obtain ⟨g, hg, hlo, hbx⟩ := hk.done 3 _ 5 rfl rfl l3
      obtain ⟨a, b, hv, h1, h2⟩ := hk.done 2 _ 16 rfl rfl (hdep ⟨2, .data⟩ (by simp) rfl)
      have g1 := h1
      have g2 := h2
      obtain ⟨ad, c, rfl, -⟩ := g1
      obtain ⟨ad', c', rfl, -⟩ := g2
      have d3 := ev hg
      have d2 := ev hv
      obtain ⟨k0, k1, k2⟩ := hbx.cells
      have hb0 := hbx.set0 (.slice (some ad) 64 c)
      have hb1 := hb0.set1 (.slice (some ad') 64 c')
      have hx1 := (h1.set (.slice (some ad) 64 c) k0 (nusl _ _ _)).set (.slice (some ad') 64 c') hb0.cells.2.1 (nusl _ _ _)
      have hx2 := (h2.set (.slice (some ad) 64 c) k0 (nusl _ _ _)).set (.slice (some ad') 64 c') hb0.cells.2.1 (nusl _ _ _)
      have hs := ((HS0.out.below hbl hz0).far ⟨g, 0, none⟩ (.slice (some ad) 64 c) (show g ≠ _ by omega)).far ⟨g, 1, none⟩ (.slice (some ad') 64 c') (show g ≠ _ by omega)
      have hbb := ((step' HZ0.out hbl HZ0.out.size).setCell (p := ⟨g, 0, none⟩) (show _ ≤ g by omega) (.slice (some ad) 64 c)).setCell (p := ⟨g, 1, none⟩) (show _ ≤ g by omega) (.slice (some ad') 64 c')
      refine ⟨rfl, ?_, fun j o' hj hd => ?_⟩
      · go_simp
        exact ⟨_, _, ⟨hs, hb1, hx1, hx2, hbb, by omega⟩⟩
      · have hj3 : j = 3 := by
          have hjl : j < 5 := (Array.getElem?_eq_some_iff.1 hj).1
          have hjj : j = 0 ∨ j = 1 ∨ j = 2 ∨ j = 3 ∨ j = 4 := by omega
          rcases hjj with rfl | rfl | rfl | rfl | rfl <;> first | rfl | (cases hj; cases hd)
        subst hj3
        exact l3
    case behind =>
      intro i o listed a1 w2 hi4 ho h0 hS hc hwf hk hdep
      exfalso
      have hi : i < 5 := (Array.getElem?_eq_some_iff.1 ho).1
      have := closed_of hc (covers_at (ops := _) (S := 4) (by kernel_rfl) hi hi4) hS
      rw [getD_tf h0] at this
      cases this
    case fin =>
      intro listed a2 w2 hall hwf hk
      obtain ⟨g, a, b, hg, hL⟩ := hwf
      have HL := Lib.hid hL
      have hact := fr_all [14, 15, 16, 5] hk (by kernel_rfl)
      simp only [List.foldl_cons, List.foldl_nil, List.setIfInBounds_toArray, List.set_cons_succ, List.set_cons_zero] at hact
      rw [hg] at hact
      generalize a2.eval (.tmp 14) = u14 at hact
      generalize a2.eval (.tmp 15) = u15 at hact
      generalize a2.eval (.tmp 16) = u16 at hact
      rw [hact]
      clear hact hk hall hg
      go_wp2
      go_meet
      exact ⟨g, a, b, rfl, HL⟩
  case rest =>
  obtain ⟨g, a, b, rfl, HI⟩ := hcut
  clear HS0 HZ0 HW0
  obtain ⟨w1, rfl⟩ : ∃ x, x = wc := ⟨wc, rfl⟩
  obtain ⟨n, hn⟩ : ∃ n : Nat, n = 1 + m % 6 := ⟨_, rfl⟩
  have hn1 : 1 + (m : Int) % 6 = (n : Int) := by omega
  have hn6 : n ≤ 6 := by omega
  have hn0 : 1 ≤ n := by omega
  clear hn
  obtain ⟨s', hs'⟩ : ∃ s', s' = if 1099511627776 < s.g then (⟨1, s.h, s.n, s.p⟩ : Sp) else s := ⟨_, rfl⟩
  have hgb : s'.g ≤ 1099511627776 ∧ -9223372036854775808 ≤ s'.g := by
    rw [hs']; split
    · dsimp only; omega
    · omega
  have hhb : -9223372036854775808 ≤ s'.h ∧ s'.h ≤ 9223372036854775807 := by
    rw [hs']; split
    · exact ⟨sh1, sh2⟩
    · exact ⟨sh1, sh2⟩
  have HSE := Lib.hid hs'
  clear hs'
  obtain ⟨c0, c1, c2, c3, c4⟩ := HI.out.s_.cells
  go_upto_if 23 with fail
  go_cut [24] from 23 to 24 (fun s24 wx => Hid (LaI w g s' a b zer zer wx))
  case first =>
    by_cases hgt : 1099511627776 < s.g
    · have HE : Hid (s' = ⟨1, s.h, s.n, s.p⟩) := by show _ = _; rw [HSE.out, if_pos hgt]
      go_wp2_with fail
      go_meet
      rw [HE.out]
      exact HI.out.setg 1
    · have HE : Hid (s' = s) := by show _ = _; rw [HSE.out, if_neg hgt]
      have hgt' : decide (1099511627776 < s.g) = false := by simpa using hgt
      go_wp2_with fail
      go_meet
      rw [HE.out]
      exact HI
  case rest =>
  clear c0 c1 c2 c3 c4 HI HSE sg1 sg2 sh1 sh2
  have HI := hcut
  clear hcut
  obtain ⟨w2, rfl⟩ : ∃ x, x = wc := ⟨wc, rfl⟩
  obtain ⟨g2', g1'⟩ := hgb
  obtain ⟨h1, h2⟩ := hhb
  clear hn1
  cases hmay : mayB s' with
  | false =>
    have HMY := Lib.hid hmay
    clear hmay
    go_wp2_with fail
    go_loopw [7] (fun i wr => i = .int .i64 0 ∧ Hid (LaI w g s' a b zer zer wr)) (fun _ _ => 0)
    case atStart => exact ⟨rfl, HI⟩
    case round =>
      obtain ⟨rfl, HI2⟩ := hrel
      obtain ⟨c0, c1, c2, c3, c4⟩ := HI2.out.s_.cells
      go_wp2_with fail
      refine (enc_no s'.g s'.h s'.n s'.p _ HMY.out).mono ?_
      rintro e w3 ⟨rfl, hb3⟩
      have HI3 := Lib.hid (HI2.out.next hb3)
      clear hb3 c0 c1 c2 c3 c4
      obtain ⟨c0, c1, c2, c3, c4⟩ := HI3.out.s_.cells
      go_wp2_with fail
      refine (rmay_at s'.g s'.h s'.n s'.p false _ HMY.out).mono ?_
      rintro e w4 ⟨rfl, hb4⟩
      have HI4 := Lib.hid (HI3.out.next hb4)
      clear hb4 c0 c1 c2 c3 c4
      go_wp2_with fail
      refine (awake_any _).mono ?_
      rintro e w5 ⟨rfl, hb5⟩
      have HI5 := Lib.hid (HI4.out.next hb5)
      clear hb5
      go_wp2_with fail
      go_ret
      exact ⟨rfl, HI5.out.bl⟩
  | true =>
    have HMY := Lib.hid hmay
    clear hmay
    go_wp2_with fail
    go_loopw [7] (fun i wr => ∃ (k : Nat) (a b : Value) (L0 L1 : List UInt8), k ≤ n ∧ i = .int .i64 k ∧ Hid (LaI w g (sAt s' k) a b L0 L1 wr) ∧ Hid (Cont s' k L0 L1)) (fun i _ => n - (intOf i).toNat)
    case atStart => exact ⟨0, a, b, zer, zer, Nat.zero_le _, rfl, by rw [sAt_zero]; exact HI, cont_start s'⟩
    case round =>
      obtain ⟨k, a, b, L0, L1, hk, rfl, HI2, HC⟩ := hrel
      obtain ⟨S, hS⟩ : ∃ S, S = sAt s' k := ⟨_, rfl⟩
      have hSm : mayB S = true := by rw [hS]; exact sAt_may HMY.out g2' (by omega)
      have hSx := may_iff.1 hSm
      have hSg : S.g = s'.g + k := by rw [hS]; rfl
      have hs'g : 1 ≤ s'.g := (may_iff.1 HMY.out).1.1
      obtain ⟨sg1, sg2⟩ := hSx.1
      obtain ⟨sh1, sh2⟩ := hSx.2.1
      rw [← hS] at HI2
      have HS := Lib.hid hS
      have HSM := Lib.hid hSm
      have HSG := Lib.hid hSg
      clear hS hSm hSx hSg
      by_cases hlt : k < n
      · obtain ⟨c0, c1, c2, c3, c4⟩ := HI2.out.s_.cells
        go_wp2_with fail
        refine (enc64 S _ HSM.out).mono ?_
        rintro e w3 ⟨v3, rfl, hv3, hb3⟩
        have HI3 := Lib.hid (HI2.out.next hb3)
        have HV3 := Lib.hid hv3
        obtain ⟨ad, cc, rfl, -⟩ := hv3
        clear hb3 c0 c1 c2 c3 c4
        obtain ⟨c0, c1, c2, c3, c4⟩ := HI3.out.s_.cells
        obtain ⟨a0, a1, a2⟩ := HI3.out.a_.cells
        have hpar : S.g % 2 = 0 ∨ S.g % 2 = 1 := by omega
        rcases hpar with hp | hp
        · obtain ⟨w4, hw4⟩ : ∃ w4, w4 = w3.setCell ⟨g, 0, none⟩ (.slice (some ad) 64 cc) := ⟨_, rfl⟩
          have HI4 : Hid (LaI w g S (.slice (some ad) 64 cc) b (encS S) L1 w4) := by rw [hw4]; exact HI3.out.put0 HV3.out
          have hce := cont_even HMY.out g2' (k := k) (by omega) HC.out (by have := HSG.out; omega)
          rw [← HS.out] at hce
          have HCE := Lib.hid hce
          have HW4 := Lib.hid hw4
          clear hw4 hce
          go_upto_region 12 with fail
          rw [← HW4.out]
          clear c0 c1 c2 c3 c4 a0 a1 a2
          obtain ⟨a0, a1, a2⟩ := HI4.out.a_.cells
          go_wp2_with fail
          refine (choose64 HI4.out.l0 HI4.out.l1 S true HCE.out.2 0 rfl).mono ?_
          rintro e w5 ⟨rfl, hb5⟩
          have HI5 := Lib.hid (HI4.out.next hb5)
          clear hb5 a0 a1 a2
          obtain ⟨w6, hw6⟩ : ∃ w6, w6 = w5.alloc (.cells #[.int .i64 S.g, .int .i64 S.h, .int .i64 S.n, .int .i64 S.p] 23) := ⟨_, rfl⟩
          have HX6 : Hid (BoxH w5.heap.size S w6) := by rw [hw6]; exact boxH_new w5 S
          have HI6 : Hid (LaI w g S (.slice (some ad) 64 cc) b (encS S) L1 w6) := by rw [hw6]; exact HI5.out.next ((Below.refl _ _).alloc (Nat.le_refl _) _)
          have HW6 := Lib.hid hw6
          clear hw6
          go_upto_region 13 with fail
          rw [← HW6.out]
          obtain ⟨c0, c1, c2, c3, c4⟩ := HI6.out.s_.cells
          obtain ⟨x0, x1, x2, x3, x4⟩ := HX6.out.cells
          go_wp2_with fail
          go_roundw
          case rel => exact ⟨k + 1, (.slice (some ad) 64 cc), b, (encS S), L1, by omega, by go_num, by rw [sAt_next, ← HS.out]; exact (HI6.out.setg (S.g + 1)).seth (1 - S.h), HCE.out.1⟩
          case measure => simp [intOf]; omega
        · obtain ⟨w4, hw4⟩ : ∃ w4, w4 = w3.setCell ⟨g, 1, none⟩ (.slice (some ad) 64 cc) := ⟨_, rfl⟩
          have HI4 : Hid (LaI w g S a (.slice (some ad) 64 cc) L0 (encS S) w4) := by rw [hw4]; exact HI3.out.put1 HV3.out
          have hce := cont_odd HMY.out g2' (k := k) (by omega) HC.out (by have := HSG.out; omega)
          rw [← HS.out] at hce
          have HCE := Lib.hid hce
          have HW4 := Lib.hid hw4
          clear hw4 hce
          go_upto_region 12 with fail
          rw [← HW4.out]
          clear c0 c1 c2 c3 c4 a0 a1 a2
          obtain ⟨a0, a1, a2⟩ := HI4.out.a_.cells
          go_wp2_with fail
          refine (choose64 HI4.out.l0 HI4.out.l1 S true HCE.out.2 0 rfl).mono ?_
          rintro e w5 ⟨rfl, hb5⟩
          have HI5 := Lib.hid (HI4.out.next hb5)
          clear hb5 a0 a1 a2
          obtain ⟨w6, hw6⟩ : ∃ w6, w6 = w5.alloc (.cells #[.int .i64 S.g, .int .i64 S.h, .int .i64 S.n, .int .i64 S.p] 23) := ⟨_, rfl⟩
          have HX6 : Hid (BoxH w5.heap.size S w6) := by rw [hw6]; exact boxH_new w5 S
          have HI6 : Hid (LaI w g S a (.slice (some ad) 64 cc) L0 (encS S) w6) := by rw [hw6]; exact HI5.out.next ((Below.refl _ _).alloc (Nat.le_refl _) _)
          have HW6 := Lib.hid hw6
          clear hw6
          go_upto_region 13 with fail
          rw [← HW6.out]
          obtain ⟨c0, c1, c2, c3, c4⟩ := HI6.out.s_.cells
          obtain ⟨x0, x1, x2, x3, x4⟩ := HX6.out.cells
          go_wp2_with fail
          go_roundw
          case rel => exact ⟨k + 1, a, (.slice (some ad) 64 cc), L0, (encS S), by omega, by go_num, by rw [sAt_next, ← HS.out]; exact (HI6.out.setg (S.g + 1)).seth (1 - S.h), HCE.out.1⟩
          case measure => simp [intOf]; omega
      · obtain rfl : k = n := by omega
        obtain ⟨c0, c1, c2, c3, c4⟩ := HI2.out.s_.cells
        obtain ⟨a0, a1, a2⟩ := HI2.out.a_.cells
        have hpar : S.g % 2 = 0 ∨ S.g % 2 = 1 := by omega
        have hge : 2 ≤ S.g := by have := HSG.out; omega
        rcases hpar with hp | hp
        · have hq : (S.g - 1) % 2 = 1 := by omega
          have hq1 : 1 ≤ S.g - 1 := by omega
          obtain ⟨X, hX0, hX1, hX2⟩ : ∃ X : Nat → World, X 0 = { wr with drawn := wr.drawn + 1 } ∧ X 1 = ({ wr with drawn := wr.drawn + 1 } : World).alloc (.cells (zer.map b8).toArray 5) ∧ X 2 = (({ wr with drawn := wr.drawn + 1 } : World).alloc (.cells (zer.map b8).toArray 5)).setCell ⟨g, 1, none⟩ (.slice (some ⟨wr.heap.size, 0, none⟩) 64 64) := ⟨fun k => match k with | 0 => { wr with drawn := wr.drawn + 1 } | 1 => ({ wr with drawn := wr.drawn + 1 } : World).alloc (.cells (zer.map b8).toArray 5) | _ => (({ wr with drawn := wr.drawn + 1 } : World).alloc (.cells (zer.map b8).toArray 5)).setCell ⟨g, 1, none⟩ (.slice (some ⟨wr.heap.size, 0, none⟩) 64 64), rfl, rfl, rfl⟩
          have HX0 := Lib.hid hX0
          have HI0 : Hid (LaI w g S a b L0 L1 (X 0)) := by rw [hX0]; exact HI2.out.next ⟨rfl, rfl, rfl, Nat.le_refl _, fun _ _ => rfl⟩
          have hz0 : (X 0).heap.size = wr.heap.size := by rw [hX0]
          have hX1' : X 1 = (X 0).alloc (.cells (zer.map b8).toArray 5) := by rw [hX1, hX0]
          have HI1 : Hid (LaI w g S a b L0 L1 (X 1)) := by rw [hX1']; exact HI0.out.next ((Below.refl _ _).alloc (Nat.le_refl _) _)
          have HV1 : Hid (Sl64 (.slice (some ⟨wr.heap.size, 0, none⟩) 64 64) zer (X 1)) := by rw [hX1', ← hz0]; exact zer64 (X 0)
          have hX2' : X 2 = (X 1).setCell ⟨g, 1, none⟩ (.slice (some ⟨wr.heap.size, 0, none⟩) 64 64) := by rw [hX2, hX1]
          have HI3 : Hid (LaI w g S a (.slice (some ⟨wr.heap.size, 0, none⟩) 64 64) L0 zer (X 2)) := by rw [hX2']; exact HI1.out.put1 HV1.out
          have HX1 := Lib.hid hX1'
          have HX2 := Lib.hid hX2'
          clear hX0 hX1 hX2 hX1' hX2'
          have HM64 := Lib.hid (make64 (X 0))
          rw [hz0] at HM64
          have hcells : ∀ k9, k9 < 2 → (X k9).cell? ⟨w.heap.size, 0, none⟩ = some (.int .i64 S.g) := fun k9 h => by
            rcases (show k9 = 0 ∨ k9 = 1 by omega) with rfl | rfl
            · exact HI0.out.s_.cells.1
            · exact HI1.out.s_.cells.1
          have hwr : IntKind.i64.wrap (S.g - 1) = S.g - 1 := IntWalk.i64_in _ (by omega)
          have htm : (S.g - 1).tmod 2 = 1 := by rw [Int.tmod_eq_emod_of_nonneg (by omega)]; exact hq
          go_wp2_with fail
          refine wp_region_exact2 (S := 6) (by kernel_rfl) (fun i => ([.pointer (some ⟨w.heap.size, 0, none⟩), .int .i64 S.g, .int .i64 (S.g - 1), .int .i64 1, .slice (some ⟨wr.heap.size, 0, none⟩) 64 64, .pointer (some ⟨g, 1, none⟩), .bool false] : List Value).getD i (.bool false)) [4, 6] X HX0.out (by kernel_rfl) (backsB_spec (by kernel_rfl)) (by kernel_rfl) (by kernel_rfl) (by decide) rfl (by decide) ?purea ?actsa ?fina
          case purea =>
            intro i k9 o listed a1 hic hk9 ho hk hdep
            have hi : i < 7 := (Array.getElem?_eq_some_iff.1 ho).1
            have e2 := ev (show a1.eval (.tmp 2) = .pointer (some ⟨w.heap.size, 0, none⟩) from hk.frame 2 (frame_of (by kernel_rfl)))
            have e5 := ev (show a1.eval (.tmp 5) = .pointer (some ⟨g, 0, none⟩) from hk.frame 5 (frame_of (by kernel_rfl)))
            have hk92 : k9 < 2 := by first | exact hk9 | exact (List.getElem?_eq_some_iff.1 hcs).1
            have kc := hcells k9 hk92
            have hii : i = 0 ∨ i = 1 ∨ i = 2 ∨ i = 3 ∨ i = 4 ∨ i = 5 ∨ i = 6 := by omega
            rcases hii with rfl | rfl | rfl | rfl | rfl | rfl | rfl
            · cases ho
              refine ⟨rfl, wp_exact ?_⟩
              go_simp
            · cases ho
              have d0 := ev (show a1.eval (.tmp 71) = .pointer (some ⟨w.heap.size, 0, none⟩) from hk.done 0 _ 71 rfl rfl (hdep ⟨0, .data⟩ (by simp) rfl))
              refine ⟨rfl, wp_exact ?_⟩
              go_simp
            · cases ho
              have d1 := ev (show a1.eval (.tmp 72) = .int .i64 S.g from hk.done 1 _ 72 rfl rfl (hdep ⟨1, .data⟩ (by simp) rfl))
              refine ⟨rfl, wp_exact ?_⟩
              go_simp
            · cases ho
              have d2 := ev (show a1.eval (.tmp 73) = .int .i64 (S.g - 1) from hk.done 2 _ 73 rfl rfl (hdep ⟨2, .data⟩ (by simp) rfl))
              refine ⟨rfl, wp_exact ?_⟩
              go_simp
            · exact absurd (by simp) hic
            · cases ho
              have d3 := ev (show a1.eval (.tmp 74) = .int .i64 1 from hk.done 3 _ 74 rfl rfl (hdep ⟨3, .data⟩ (by simp) rfl))
              refine ⟨rfl, wp_exact ?_⟩
              go_simp
            · exact absurd (by simp) hic
          case actsa =>
            intro i k9 o listed a1 hcs ho hk hdep
            have e2 := ev (show a1.eval (.tmp 2) = .pointer (some ⟨w.heap.size, 0, none⟩) from hk.frame 2 (frame_of (by kernel_rfl)))
            have e5 := ev (show a1.eval (.tmp 5) = .pointer (some ⟨g, 0, none⟩) from hk.frame 5 (frame_of (by kernel_rfl)))
            have hk92 : k9 < 2 := by first | exact hk9 | exact (List.getElem?_eq_some_iff.1 hcs).1
            have kc := hcells k9 hk92
            have hk9 : k9 < 2 := (List.getElem?_eq_some_iff.1 hcs).1
            have hkk : k9 = 0 ∨ k9 = 1 := by omega
            rcases hkk with rfl | rfl <;> cases hcs
            · cases ho
              refine ⟨rfl, ?_⟩
              refine wp_exactW ?_
              have h64 := HM64.out
              simp [execOp, Act.eval, h64, HX1.out]
            · cases ho
              have d5 := ev (show a1.eval (.tmp 76) = .pointer (some ⟨g, 1, none⟩) from hk.done 5 _ 76 rfl rfl (hdep ⟨5, .data⟩ (by simp) rfl))
              have d4 := ev (show a1.eval (.tmp 75) = .slice (some ⟨wr.heap.size, 0, none⟩) 64 64 from hk.done 4 _ 75 rfl rfl (hdep ⟨4, .data⟩ (by simp) rfl))
              obtain ⟨a0, a1, a2⟩ := HI1.out.a_.cells
              refine ⟨rfl, ?_⟩
              go_simp
              rw [HX2.out]
          case fina =>
            intro listed a2 hall hk
            have h71 : a2.eval (.tmp 71) = .pointer (some ⟨w.heap.size, 0, none⟩) := hk.done 0 _ 71 rfl rfl (hall 0 (by decide))
            have h72 : a2.eval (.tmp 72) = .int .i64 S.g := hk.done 1 _ 72 rfl rfl (hall 1 (by decide))
            have h73 : a2.eval (.tmp 73) = .int .i64 (S.g - 1) := hk.done 2 _ 73 rfl rfl (hall 2 (by decide))
            have h74 : a2.eval (.tmp 74) = .int .i64 1 := hk.done 3 _ 74 rfl rfl (hall 3 (by decide))
            have h75 : a2.eval (.tmp 75) = .slice (some ⟨wr.heap.size, 0, none⟩) 64 64 := hk.done 4 _ 75 rfl rfl (hall 4 (by decide))
            have h76 : a2.eval (.tmp 76) = .pointer (some ⟨g, 1, none⟩) := hk.done 5 _ 76 rfl rfl (hall 5 (by decide))
            have hact := fr_all [71, 72, 73, 74, 75, 76] hk (by kernel_rfl)
            simp only [List.foldl_cons, List.foldl_nil, List.setIfInBounds_toArray, List.set_cons_succ, List.set_cons_zero] at hact
            rw [h71] at hact
            rw [h72] at hact
            rw [h73] at hact
            rw [h74] at hact
            rw [h75] at hact
            rw [h76] at hact
            rw [hact]
            clear hact hk hall h71 h72 h73 h74 h75 h76
            have hXl : X [4, 6].length = X 2 := rfl
            rw [hXl]
            clear hXl HX0 HX1 HX2 HI0 HI1 HV1 HM64 hcells hz0
            obtain ⟨w8, hw8⟩ : ∃ w8, w8 = X 2 := ⟨_, rfl⟩
            rw [← hw8] at HI3 ⊢
            clear hw8
            obtain ⟨a0, a1, a2⟩ := HI3.out.a_.cells
            have hce := cont_end HMY.out g2' hn6 hn0 HC.out L0 zer (by have := HSG.out; exact .inr ⟨by omega, rfl, rfl⟩)
            have HCE := Lib.hid hce
            clear hce
            by_cases h1 : k = 1
            · subst h1
              go_wp2_with fail
              refine (choose64 HI3.out.l0 HI3.out.l1 Sp.nil false (HCE.out.1 (by first | trivial | rfl)) 7 rfl).mono ?_
              rintro e w9 ⟨rfl, hb9⟩
              have HI9 := Lib.hid (HI3.out.next hb9)
              clear hb9
              have HI10 := Lib.hid (HI9.out.next (W' := w9.alloc (.cells #[.int .i64 0, .int .i64 0, .int .i64 0, .int .i64 0] 23)) ((Below.refl _ _).alloc (Nat.le_refl _) _))
              dsimp only [Sp.nil]
              go_wp2_with fail
              refine (awake_any _).mono ?_
              rintro e w11 ⟨rfl, hb11⟩
              have HI11 := Lib.hid (HI10.out.next hb11)
              clear hb11
              go_wp2_with fail
              go_ret
              exact ⟨rfl, HI11.out.bl⟩
            · obtain ⟨j, hj⟩ : ∃ j, k = j + 2 := ⟨k - 2, by omega⟩
              have hch := HCE.out.2 j hj
              obtain ⟨Y, hY⟩ : ∃ Y, Y = sAt s' j := ⟨_, rfl⟩
              rw [← hY] at hch
              have HCH := Lib.hid hch
              have hxg : (Y.g == S.g - 2) = true := by
                rw [hY, HSG.out]
                show (s'.g + (j : Int) == s'.g + (k : Int) - 2) = true
                simp; omega
              have hxh : (Y.h == S.h) = true := by
                rw [hY, HS.out]
                unfold sAt
                dsimp only
                rcases Nat.mod_two_eq_zero_or_one j with h | h
                · rw [if_pos h, if_pos (by omega)]; simp
                · rw [if_neg (by omega), if_neg (by omega)]; simp
              have hk1 : ((k : Int) == 1) = false := by simp; omega
              clear hch hY hj
              go_wp2_with fail
              refine (choose64 HI3.out.l0 HI3.out.l1 Y true HCH.out 0 rfl).mono ?_
              rintro e w9 ⟨rfl, hb9⟩
              have HI9 := Lib.hid (HI3.out.next hb9)
              clear hb9 a0 a1 a2
              obtain ⟨w10, hw10⟩ : ∃ w6, w6 = w9.alloc (.cells #[.int .i64 Y.g, .int .i64 Y.h, .int .i64 Y.n, .int .i64 Y.p] 23) := ⟨_, rfl⟩
              have HX10 : Hid (BoxH w9.heap.size Y w10) := by rw [hw10]; exact boxH_new w9 Y
              have HI10 : Hid (LaI w g S a (.slice (some ⟨wr.heap.size, 0, none⟩) 64 64) L0 zer w10) := by rw [hw10]; exact HI9.out.next ((Below.refl _ _).alloc (Nat.le_refl _) _)
              have HW10 := Lib.hid hw10
              clear hw10
              go_upto_region 19 with fail
              rw [← HW10.out]
              clear c0 c1 c2 c3 c4
              obtain ⟨c0, c1, c2, c3, c4⟩ := HI10.out.s_.cells
              obtain ⟨x0, x1, x2, x3, x4⟩ := HX10.out.cells
              go_wp2_with fail
              refine (awake_any _).mono ?_
              rintro e w11 ⟨rfl, hb11⟩
              have HI11 := Lib.hid (HI10.out.next hb11)
              clear hb11
              go_wp2_with fail
              go_ret
              exact ⟨rfl, HI11.out.bl⟩
        · have hq : (S.g - 1) % 2 = 0 := by omega
          have hq1 : 1 ≤ S.g - 1 := by omega
          obtain ⟨X, hX0, hX1, hX2⟩ : ∃ X : Nat → World, X 0 = { wr with drawn := wr.drawn + 1 } ∧ X 1 = ({ wr with drawn := wr.drawn + 1 } : World).alloc (.cells (zer.map b8).toArray 5) ∧ X 2 = (({ wr with drawn := wr.drawn + 1 } : World).alloc (.cells (zer.map b8).toArray 5)).setCell ⟨g, 0, none⟩ (.slice (some ⟨wr.heap.size, 0, none⟩) 64 64) := ⟨fun k => match k with | 0 => { wr with drawn := wr.drawn + 1 } | 1 => ({ wr with drawn := wr.drawn + 1 } : World).alloc (.cells (zer.map b8).toArray 5) | _ => (({ wr with drawn := wr.drawn + 1 } : World).alloc (.cells (zer.map b8).toArray 5)).setCell ⟨g, 0, none⟩ (.slice (some ⟨wr.heap.size, 0, none⟩) 64 64), rfl, rfl, rfl⟩
          have HX0 := Lib.hid hX0
          have HI0 : Hid (LaI w g S a b L0 L1 (X 0)) := by rw [hX0]; exact HI2.out.next ⟨rfl, rfl, rfl, Nat.le_refl _, fun _ _ => rfl⟩
          have hz0 : (X 0).heap.size = wr.heap.size := by rw [hX0]
          have hX1' : X 1 = (X 0).alloc (.cells (zer.map b8).toArray 5) := by rw [hX1, hX0]
          have HI1 : Hid (LaI w g S a b L0 L1 (X 1)) := by rw [hX1']; exact HI0.out.next ((Below.refl _ _).alloc (Nat.le_refl _) _)
          have HV1 : Hid (Sl64 (.slice (some ⟨wr.heap.size, 0, none⟩) 64 64) zer (X 1)) := by rw [hX1', ← hz0]; exact zer64 (X 0)
          have hX2' : X 2 = (X 1).setCell ⟨g, 0, none⟩ (.slice (some ⟨wr.heap.size, 0, none⟩) 64 64) := by rw [hX2, hX1]
          have HI3 : Hid (LaI w g S (.slice (some ⟨wr.heap.size, 0, none⟩) 64 64) b zer L1 (X 2)) := by rw [hX2']; exact HI1.out.put0 HV1.out
          have HX1 := Lib.hid hX1'
          have HX2 := Lib.hid hX2'
          clear hX0 hX1 hX2 hX1' hX2'
          have HM64 := Lib.hid (make64 (X 0))
          rw [hz0] at HM64
          have hcells : ∀ k9, k9 < 2 → (X k9).cell? ⟨w.heap.size, 0, none⟩ = some (.int .i64 S.g) := fun k9 h => by
            rcases (show k9 = 0 ∨ k9 = 1 by omega) with rfl | rfl
            · exact HI0.out.s_.cells.1
            · exact HI1.out.s_.cells.1
          have hwr : IntKind.i64.wrap (S.g - 1) = S.g - 1 := IntWalk.i64_in _ (by omega)
          have htm : (S.g - 1).tmod 2 = 0 := by rw [Int.tmod_eq_emod_of_nonneg (by omega)]; exact hq
          go_wp2_with fail
          refine wp_region_exact2 (S := 6) (by kernel_rfl) (fun i => ([.pointer (some ⟨w.heap.size, 0, none⟩), .int .i64 S.g, .int .i64 (S.g - 1), .int .i64 0, .slice (some ⟨wr.heap.size, 0, none⟩) 64 64, .pointer (some ⟨g, 0, none⟩), .bool false] : List Value).getD i (.bool false)) [4, 6] X HX0.out (by kernel_rfl) (backsB_spec (by kernel_rfl)) (by kernel_rfl) (by kernel_rfl) (by decide) rfl (by decide) ?purea ?actsa ?fina
          case purea =>
            intro i k9 o listed a1 hic hk9 ho hk hdep
            have hi : i < 7 := (Array.getElem?_eq_some_iff.1 ho).1
            have e2 := ev (show a1.eval (.tmp 2) = .pointer (some ⟨w.heap.size, 0, none⟩) from hk.frame 2 (frame_of (by kernel_rfl)))
            have e5 := ev (show a1.eval (.tmp 5) = .pointer (some ⟨g, 0, none⟩) from hk.frame 5 (frame_of (by kernel_rfl)))
            have hk92 : k9 < 2 := by first | exact hk9 | exact (List.getElem?_eq_some_iff.1 hcs).1
            have kc := hcells k9 hk92
            have hii : i = 0 ∨ i = 1 ∨ i = 2 ∨ i = 3 ∨ i = 4 ∨ i = 5 ∨ i = 6 := by omega
            rcases hii with rfl | rfl | rfl | rfl | rfl | rfl | rfl
            · cases ho
              refine ⟨rfl, wp_exact ?_⟩
              go_simp
            · cases ho
              have d0 := ev (show a1.eval (.tmp 71) = .pointer (some ⟨w.heap.size, 0, none⟩) from hk.done 0 _ 71 rfl rfl (hdep ⟨0, .data⟩ (by simp) rfl))
              refine ⟨rfl, wp_exact ?_⟩
              go_simp
            · cases ho
              have d1 := ev (show a1.eval (.tmp 72) = .int .i64 S.g from hk.done 1 _ 72 rfl rfl (hdep ⟨1, .data⟩ (by simp) rfl))
              refine ⟨rfl, wp_exact ?_⟩
              go_simp
            · cases ho
              have d2 := ev (show a1.eval (.tmp 73) = .int .i64 (S.g - 1) from hk.done 2 _ 73 rfl rfl (hdep ⟨2, .data⟩ (by simp) rfl))
              refine ⟨rfl, wp_exact ?_⟩
              go_simp
            · exact absurd (by simp) hic
            · cases ho
              have d3 := ev (show a1.eval (.tmp 74) = .int .i64 0 from hk.done 3 _ 74 rfl rfl (hdep ⟨3, .data⟩ (by simp) rfl))
              refine ⟨rfl, wp_exact ?_⟩
              go_simp
            · exact absurd (by simp) hic
          case actsa =>
            intro i k9 o listed a1 hcs ho hk hdep
            have e2 := ev (show a1.eval (.tmp 2) = .pointer (some ⟨w.heap.size, 0, none⟩) from hk.frame 2 (frame_of (by kernel_rfl)))
            have e5 := ev (show a1.eval (.tmp 5) = .pointer (some ⟨g, 0, none⟩) from hk.frame 5 (frame_of (by kernel_rfl)))
            have hk92 : k9 < 2 := by first | exact hk9 | exact (List.getElem?_eq_some_iff.1 hcs).1
            have kc := hcells k9 hk92
            have hk9 : k9 < 2 := (List.getElem?_eq_some_iff.1 hcs).1
            have hkk : k9 = 0 ∨ k9 = 1 := by omega
            rcases hkk with rfl | rfl <;> cases hcs
            · cases ho
              refine ⟨rfl, ?_⟩
              refine wp_exactW ?_
              have h64 := HM64.out
              simp [execOp, Act.eval, h64, HX1.out]
            · cases ho
              have d5 := ev (show a1.eval (.tmp 76) = .pointer (some ⟨g, 0, none⟩) from hk.done 5 _ 76 rfl rfl (hdep ⟨5, .data⟩ (by simp) rfl))
              have d4 := ev (show a1.eval (.tmp 75) = .slice (some ⟨wr.heap.size, 0, none⟩) 64 64 from hk.done 4 _ 75 rfl rfl (hdep ⟨4, .data⟩ (by simp) rfl))
              obtain ⟨a0, a1, a2⟩ := HI1.out.a_.cells
              refine ⟨rfl, ?_⟩
              go_simp
              rw [HX2.out]
          case fina =>
            intro listed a2 hall hk
            have h71 : a2.eval (.tmp 71) = .pointer (some ⟨w.heap.size, 0, none⟩) := hk.done 0 _ 71 rfl rfl (hall 0 (by decide))
            have h72 : a2.eval (.tmp 72) = .int .i64 S.g := hk.done 1 _ 72 rfl rfl (hall 1 (by decide))
            have h73 : a2.eval (.tmp 73) = .int .i64 (S.g - 1) := hk.done 2 _ 73 rfl rfl (hall 2 (by decide))
            have h74 : a2.eval (.tmp 74) = .int .i64 0 := hk.done 3 _ 74 rfl rfl (hall 3 (by decide))
            have h75 : a2.eval (.tmp 75) = .slice (some ⟨wr.heap.size, 0, none⟩) 64 64 := hk.done 4 _ 75 rfl rfl (hall 4 (by decide))
            have h76 : a2.eval (.tmp 76) = .pointer (some ⟨g, 0, none⟩) := hk.done 5 _ 76 rfl rfl (hall 5 (by decide))
            have hact := fr_all [71, 72, 73, 74, 75, 76] hk (by kernel_rfl)
            simp only [List.foldl_cons, List.foldl_nil, List.setIfInBounds_toArray, List.set_cons_succ, List.set_cons_zero] at hact
            rw [h71] at hact
            rw [h72] at hact
            rw [h73] at hact
            rw [h74] at hact
            rw [h75] at hact
            rw [h76] at hact
            rw [hact]
            clear hact hk hall h71 h72 h73 h74 h75 h76
            have hXl : X [4, 6].length = X 2 := rfl
            rw [hXl]
            clear hXl HX0 HX1 HX2 HI0 HI1 HV1 HM64 hcells hz0
            obtain ⟨w8, hw8⟩ : ∃ w8, w8 = X 2 := ⟨_, rfl⟩
            rw [← hw8] at HI3 ⊢
            clear hw8
            obtain ⟨a0, a1, a2⟩ := HI3.out.a_.cells
            have hce := cont_end HMY.out g2' hn6 hn0 HC.out zer L1 (by have := HSG.out; exact .inl ⟨by omega, rfl, rfl⟩)
            have HCE := Lib.hid hce
            clear hce
            by_cases h1 : k = 1
            · subst h1
              go_wp2_with fail
              refine (choose64 HI3.out.l0 HI3.out.l1 Sp.nil false (HCE.out.1 (by first | trivial | rfl)) 7 rfl).mono ?_
              rintro e w9 ⟨rfl, hb9⟩
              have HI9 := Lib.hid (HI3.out.next hb9)
              clear hb9
              have HI10 := Lib.hid (HI9.out.next (W' := w9.alloc (.cells #[.int .i64 0, .int .i64 0, .int .i64 0, .int .i64 0] 23)) ((Below.refl _ _).alloc (Nat.le_refl _) _))
              dsimp only [Sp.nil]
              go_wp2_with fail
              refine (awake_any _).mono ?_
              rintro e w11 ⟨rfl, hb11⟩
              have HI11 := Lib.hid (HI10.out.next hb11)
              clear hb11
              go_wp2_with fail
              go_ret
              exact ⟨rfl, HI11.out.bl⟩
            · obtain ⟨j, hj⟩ : ∃ j, k = j + 2 := ⟨k - 2, by omega⟩
              have hch := HCE.out.2 j hj
              obtain ⟨Y, hY⟩ : ∃ Y, Y = sAt s' j := ⟨_, rfl⟩
              rw [← hY] at hch
              have HCH := Lib.hid hch
              have hxg : (Y.g == S.g - 2) = true := by
                rw [hY, HSG.out]
                show (s'.g + (j : Int) == s'.g + (k : Int) - 2) = true
                simp; omega
              have hxh : (Y.h == S.h) = true := by
                rw [hY, HS.out]
                unfold sAt
                dsimp only
                rcases Nat.mod_two_eq_zero_or_one j with h | h
                · rw [if_pos h, if_pos (by omega)]; simp
                · rw [if_neg (by omega), if_neg (by omega)]; simp
              have hk1 : ((k : Int) == 1) = false := by simp; omega
              clear hch hY hj
              go_wp2_with fail
              refine (choose64 HI3.out.l0 HI3.out.l1 Y true HCH.out 0 rfl).mono ?_
              rintro e w9 ⟨rfl, hb9⟩
              have HI9 := Lib.hid (HI3.out.next hb9)
              clear hb9 a0 a1 a2
              obtain ⟨w10, hw10⟩ : ∃ w6, w6 = w9.alloc (.cells #[.int .i64 Y.g, .int .i64 Y.h, .int .i64 Y.n, .int .i64 Y.p] 23) := ⟨_, rfl⟩
              have HX10 : Hid (BoxH w9.heap.size Y w10) := by rw [hw10]; exact boxH_new w9 Y
              have HI10 : Hid (LaI w g S (.slice (some ⟨wr.heap.size, 0, none⟩) 64 64) b zer L1 w10) := by rw [hw10]; exact HI9.out.next ((Below.refl _ _).alloc (Nat.le_refl _) _)
              have HW10 := Lib.hid hw10
              clear hw10
              go_upto_region 19 with fail
              rw [← HW10.out]
              clear c0 c1 c2 c3 c4
              obtain ⟨c0, c1, c2, c3, c4⟩ := HI10.out.s_.cells
              obtain ⟨x0, x1, x2, x3, x4⟩ := HX10.out.cells
              go_wp2_with fail
              refine (awake_any _).mono ?_
              rintro e w11 ⟨rfl, hb11⟩
              have HI11 := Lib.hid (HI10.out.next hb11)
              clear hb11
              go_wp2_with fail
              go_ret
              exact ⟨rfl, HI11.out.bl⟩
end Go.Proofs.Ytlieijbjbjnaiaa.Sup
