/- The walk of the law WalCuts. -/
import Derived.Test.YtjcgggheablpeaaW22
import Derived.Test.YtjcgggheablpeaaFrameD
import Derived.Test.YtjcgggheablpeaaW13
import Derived.Deep.RegionHeld3
import Derived.LoopTactic
namespace Go.Proofs.Ytjcgggheablpeaa.Wal
open Go.RowKit Dis Dis.Dk

/-- A slice of slices of truth values. -/
def KeepsN (w : World) (B : Nat) (A : Option Addr) (F : List (List Bool)) : Prop := ∀ i, (h : i < F.length) → ∃ b o A1 c1, A = some ⟨b, o, none⟩ ∧ b < B ∧ w.cell? ⟨b, o + i, none⟩ = some (.slice A1 F[i].length c1) ∧ Bools w B A1 F[i]
set_option maxRecDepth 100000 in
set_option maxHeartbeats 4000000 in
theorem cuts_any (A : Option Addr) (V : List (List UInt8)) (c : Nat) (AK : Option Addr) (K : List UInt8) (ck : Nat) (AF : Option Addr) (F : List (List Bool)) (cf : Nat) (w : World) (h : RowsN w w.heap.size A V) (hK : Octs w w.heap.size AK K ∧ K.length ≤ ck) (hF : KeepsN w w.heap.size AF F) :
    Calls Try.prog 6 #[.slice A V.length c, .slice AK K.length ck, .slice AF F.length cf] w fun e w' => e = .returned (.bool true) ∧ Below w.heap.size w w' := by
  have HP := Lib.hid h
  have HK := Lib.hid hK
  have HFF := Lib.hid hF
  obtain ⟨n, hn⟩ : ∃ n, n = V.length := ⟨_, rfl⟩
  have HN := Lib.hid hn
  obtain ⟨nk, hnk⟩ : ∃ nk, nk = K.length := ⟨_, rfl⟩
  obtain ⟨nf, hnf⟩ : ∃ nf, nf = F.length := ⟨_, rfl⟩
  rw [← hn, ← hnk, ← hnf]
  have HNK := Lib.hid hnk
  have HNF := Lib.hid hnf
  clear h hn hnk hK hF hnf
  go_enter Try.func6, Try.ntmps6
  go_wp2_with fail
  refine (some_any 20 w (by decide) (by decide) (by decide)).mono ?_
  rintro e w1 ⟨v, rfl, ⟨⟨A0, n0, c0, A0', m0, c0', L0, O0, rfl, hn0⟩, hok2⟩, hb1'⟩
  have hk := hok2 (.inl rfl)
  obtain ⟨W2, hW2⟩ : ∃ W2, W2 = w1.alloc (.cells #[.slice A0 n0 c0, .slice A0' m0 c0', .int .i64 L0, .bool O0] 25) := ⟨_, rfl⟩
  obtain ⟨W3, hW3⟩ : ∃ W3, W3 = W2.alloc (lgo 2 16 0 1) := ⟨_, rfl⟩
  obtain ⟨W4, hW4⟩ : ∃ W4, W4 = W3.alloc (lgo 2 16 0 1) := ⟨_, rfl⟩
  have hb12 : Below w1.heap.size w1 W2 := by rw [hW2]; exact (Below.refl _ _).alloc (Nat.le_refl _) _
  have hb23 : Below W2.heap.size W2 W3 := by rw [hW3]; exact (Below.refl _ _).alloc (Nat.le_refl _) _
  have hb34 : Below W3.heap.size W3 W4 := by rw [hW4]; exact (Below.refl _ _).alloc (Nat.le_refl _) _
  have hs2 : W2.heap.size = w1.heap.size + 1 := by rw [hW2]; simp
  have hs3 : W3.heap.size = w1.heap.size + 2 := by rw [hW3]; simp; exact hs2
  have hs4 : W4.heap.size = w1.heap.size + 3 := by rw [hW4]; simp; exact hs3
  have hx5 : W2.heap[w1.heap.size]? = some (.cells #[.slice A0 n0 c0, .slice A0' m0 c0', .int .i64 L0, .bool O0] 25 (0, 0)) := by rw [hW2]; exact heap_alloc_new _ _
  have hx6 : W3.heap[w1.heap.size + 1]? = some (lgo 2 16 0 1) := by rw [hW3, ← hs2]; exact heap_alloc_new _ _
  have hx7 : W4.heap[w1.heap.size + 2]? = some (lgo 2 16 0 1) := by rw [hW4, ← hs3]; exact heap_alloc_new _ _
  have hb24 := hb23.trans (hb34.mono hb23.size)
  have hb14 := hb12.trans (hb24.mono hb12.size)
  have HI0 : Hid (CO w w1.heap.size W4.heap.size (newD 20) [] 0 1 (.slice none 0 0) W4) := ⟨cut_new, ⟨A0, n0, c0, A0', m0, c0', L0, O0, box_at hx5 hb24, hn0, OkE.below ⟨⟨_, _, _, _, _, _, _, _, rfl, hn0⟩, hok2⟩ hb14⟩, box_at hx6 hb34, hx7, faRow_nil _ _ _, hb1'.trans (hb14.mono hb1'.size), Nat.le_refl _⟩
  have HW2 := Lib.hid hW2
  have HW3 := Lib.hid hW3
  have HW4 := Lib.hid hW4
  have hg5 : w.heap.size ≤ w1.heap.size := hb1'.size
  obtain ⟨g7, hg7e⟩ : ∃ g7, g7 = w1.heap.size := ⟨_, rfl⟩
  obtain ⟨base, hbase⟩ : ∃ base, base = W4.heap.size := ⟨_, rfl⟩
  rw [← hg7e, ← hbase] at HI0
  rw [← hg7e] at hx6 hs2 hs3
  have hgb : g7 + 3 = base := by omega
  have hgw : w.heap.size ≤ g7 := by omega
  have HS2 := Lib.hid hs2
  have HS3 := Lib.hid hs3
  have HX6 := Lib.hid hx6
  have HG7E := Lib.hid hg7e
  clear hg7e hok2 hk hb1' hb12 hb23 hb34 hb24 hs2 hs3 hs4 hx5 hx6 hx7 hb14 hW2 hW3 hW4 hg5
  go_upto_region 2 with fail
  rw [← HW2.out]
  go_upto_region 3 with fail
  rw [← HW3.out, HS2.out, ← HG7E.out]
  obtain ⟨k0, k1, k2, k3, kf⟩ := cells_log HX6.out
  go_upto_region 4 with fail
  rw [← HW4.out, HS3.out]
  clear HW2 HW3 HW4 HS2 HS3 HX6 HG7E hbase k0 k1 k2 k3 kf
  go_wp2_with fail
  go_loopw [10, 11] (fun s10 s11 wr => ∃ (i : Nat) (D : DD) (fs : Ws) (a x : Nat), i ≤ 12 ∧ s11 = .int .i64 i ∧ Hid (CO w g7 base D fs a x s10 wr)) (fun _ s11 _ => 12 - (intOf s11).toNat)
  case atStart => exact ⟨0, newD 20, [], 0, 1, by decide, rfl, HI0⟩
  case round =>
    obtain ⟨i, D, fs, a, x, hi9, rfl, HI⟩ := hrel
    clear HI0
    go_upto_region 6 with fail
    go_cut [36] from 29 to 123 (fun s36 wx => s36 = .bool (decide (i < n ∧ i < 12)) ∧ wr = wx)
    case first =>
      by_cases ha1 : (i : Int) < n
      · by_cases ha2 : (i : Int) < 12
        · go_wp2_with fail
          go_meet
          exact ⟨by rw [decide_eq_true (by omega)], rfl⟩
        · go_wp2_with fail
          go_meet
          exact ⟨by rw [decide_eq_false (by omega)], rfl⟩
      · go_wp2_with fail
        go_meet
        exact ⟨by rw [decide_eq_false (by omega)], rfl⟩
    case rest =>
    obtain ⟨hs36, rfl⟩ := hcut
    obtain ⟨A10, c10, rfl, hc10, hc10b⟩ := HI.out.row.form
    obtain ⟨m8, hm8⟩ : ∃ m8, m8 = fs.length := ⟨_, rfl⟩
    have hbnd := HI.out.cut.bounds
    have ha16 : a < 16 := hbnd.1
    have hx1 : x = 1 + m8 := by rw [hm8]; exact hbnd.2.1
    have hm16 : m8 ≤ 15 := by omega
    have HM8 := Lib.hid hm8
    have HX1 := Lib.hid hx1
    have hx20 : x ≤ 20 := by omega
    have hx0 : 1 ≤ x := by omega
    rw [← hm8] at hc10 ⊢
    have HI8 : Hid (CO w g7 base D fs a x (.slice A10 m8 c10) wr) := by show CO _ _ _ _ _ _ _ _ _; rw [hm8]; exact HI.out
    clear hm8 hbnd hx1
    by_cases hlt : i < n ∧ i < 12
    · rw [decide_eq_true hlt] at hs36
      subst hs36
      obtain ⟨hlt1, hlt2⟩ := hlt
      obtain ⟨b, o, A1, c1, rfl, hbl, q0, hoct, hlc, hcm⟩ := HP.out i (by have := HN.out; omega)
      obtain ⟨l, hl⟩ : ∃ l, l = V[i]'(by have := HN.out; omega) := ⟨_, rfl⟩
      rw [← hl] at q0 hoct hlc hcm
      obtain ⟨ll, hll⟩ : ∃ ll, ll = l.length := ⟨_, rfl⟩
      obtain ⟨d, hd⟩ : ∃ d, d = fw6 l := ⟨_, rfl⟩
      obtain ⟨dm, hdm⟩ : ∃ dm, d.length = dm := ⟨_, rfl⟩
      have hd6 : dm ≤ 6001 := by rw [← hdm, hd]; exact fw6_len l
      have hdc1 : dm ≤ c1 := by
        rw [← hdm, hd]
        exact Nat.le_trans (by unfold fw6; split <;> simp <;> omega) hlc
      have HFEW : Hid (∀ W, Calls Try.prog 11 #[.slice A1 ll c1] W fun e w' => e = .returned (.slice A1 dm c1) ∧ W = w') := fun W => by
        rw [hll, ← hdm, hd]
        exact few6_any A1 l c1 W hlc (by omega)
      have q0' : wr.cell? ⟨b, o + i, none⟩ = some (.slice A1 ll c1) := by rw [hll]; exact (HI.out.b.cell (p := ⟨b, o + i, none⟩) hbl).trans q0
      have HO0 : Hid (Octs w w.heap.size A1 d) := by rw [hd]; exact fw6_octs hoct
      have hli : (i : Int) < n := by omega
      clear hbl q0 hoct hlc hcm hl hll hd
      go_wp2_with fail
      refine (HFEW.out wr).mono ?_
      rintro e w3 ⟨rfl, rfl⟩
      clear q0'
      go_upto_if 47 with fail
      go_cut [48] from 44 to 61 (fun s48 wx => ∃ D', Hid (CO w g7 base D' fs a x (.slice A10 m8 c10) wx))
      case first =>
        by_cases hib : (i : Int) < nk
        · obtain ⟨b2, o2, rfl, hbl2, hoct2⟩ := HK.out.1 i (by have := HNK.out; omega)
          obtain ⟨ub, hub⟩ : ∃ ub, ub = (K[i]'(by have := HNK.out; omega)).toNat := ⟨_, rfl⟩
          rw [← hub] at hoct2
          have hub2 : ub < 256 := by rw [hub]; exact UInt8.toNat_lt _
          have HQ2 : Hid (b2 < wr.heap.size ∧ wr.cell? ⟨b2, o2 + i, none⟩ = some (.int .u8 (ub : Int))) := ⟨by have := HI.out.b.size; omega, (HI.out.b.cell (p := ⟨b2, o2 + i, none⟩) hbl2).trans hoct2⟩
          obtain ⟨Av, nv, cv, Av', mv, cv', Lv, Ov, hbv, hnv, hokv⟩ := HI.out.box
          have HBV := Lib.hid hbv
          have HOKV := Lib.hid (hokv.2 (.inl rfl))
          have hcb := HI.out.cut.budget (k := (ub : Int) % 12) (by omega) (by omega)
          have hf12 : Fit ⟨D.S, D.W, (ub : Int) % 12, D.O⟩ 0 := hcb.f
          have HCB := Lib.hid hcb
          have HFD := Lib.hid HI.out.cut.f
          have h20 : D.S.length ≠ 64 := by rw [HI.out.cut.s]; decide
          have hg7r : g7 < wr.heap.size := lt_of_at hbv
          have hk12 : -1 ≤ (ub : Int) % 12 := by omega
          clear hub hbl2 hoct2 hbv hokv hcb
          go_upto_region 10 with fail
          refine wp_region_acts (by kernel_rfl) (wr.heap.size) (Nat.le_refl _) [kv (dv Av nv cv Av' mv cv' Lv Ov), kv (.slice (some ⟨b2, o2, none⟩) nk ck), kv (.int .i64 (i : Int)), kv (.pointer (some ⟨b2, o2 + i, none⟩)), kv (.int .u8 (ub : Int)), kv (.int .u8 ((ub : Int) % 12)), kv (.int .i64 ((ub : Int) % 12)), lfT2 ⟨D.S, D.W, (ub : Int) % 12, D.O⟩ 0 hf12 0, lfT2 ⟨D.S, D.W, (ub : Int) % 12, D.O⟩ 0 hf12 0, lfE ⟨D.S, D.W, (ub : Int) % 12, D.O⟩ 0 hf12 0, kv (.int .i64 0), lfBox 0 wr.heap.size, lfSD wr.heap.size ⟨D.S, D.W, (ub : Int) % 12, D.O⟩ 0 hf12 0, kv (.int .i64 0)] [49, 50, 51, 52, 53, 54, 55, 56, 48, 57, 58, 13, 13, 14] [none, none, none, none, none, none, none, none, none, none, none, none, some 0, none] rfl (fun _ _ => True) ?hgam10 (by kernel_rfl) (backsB_spec (by kernel_rfl)) ?start10 ?step10  ?store10 ?fin10
          case hgam10 =>
            intro listed z9 w2 w3 hki hlo2 hb2 hg2
            exact trivial
          case start10 => exact trivial
          case step10 =>
            intro z9 p9 listed a1 w2 hki ho h0 hclo hk hdep
            have hz9 : z9 < 14 := (Array.getElem?_eq_some_iff.1 ho).1
            have e1 := ev (show a1.eval (.tmp 1) = .slice (some ⟨b2, o2, none⟩) nk ck from hk.frame 1 (frame_of (by kernel_rfl)))
            have e7 := ev (show a1.eval (.tmp 7) = .pointer (some ⟨g7, 0, none⟩) from hk.frame 7 (frame_of (by kernel_rfl)))
            have e11 := ev (show a1.eval (.tmp 11) = .int .i64 (i : Int) from hk.frame 11 (frame_of (by kernel_rfl)))
            have hii : z9 = 0 ∨ z9 = 1 ∨ z9 = 2 ∨ z9 = 3 ∨ z9 = 4 ∨ z9 = 5 ∨ z9 = 6 ∨ z9 = 7 ∨ z9 = 8 ∨ z9 = 9 ∨ z9 = 10 ∨ z9 = 11 ∨ z9 = 12 ∨ z9 = 13 := by omega
            rcases hii with rfl | rfl | rfl | rfl | rfl | rfl | rfl | rfl | rfl | rfl | rfl | rfl | rfl | rfl
            · cases ho
              obtain ⟨k0, k1, k2, k3, kf⟩ := cells_of4 (box_at HBV.out hk.below)
              refine wpOp_of rfl rfl (wp_value (v := dv Av nv cv Av' mv cv' Lv Ov) ?_ rfl)
              go_simp
            · cases ho
              refine wpOp_of rfl rfl (wp_value (v := .slice (some ⟨b2, o2, none⟩) nk ck) ?_ rfl)
              simp [execOp, e1, Act.eval]
            · cases ho
              refine wpOp_of rfl rfl (wp_value (v := .int .i64 (i : Int)) ?_ rfl)
              simp [execOp, e11, Act.eval]
            · cases ho
              have d1 := ev (show a1.eval (.tmp 50) = .slice (some ⟨b2, o2, none⟩) nk ck from hk.done 1 _ 50 rfl rfl (hdep ⟨1, .data⟩ (by simp) rfl))
              have d2 := ev (show a1.eval (.tmp 51) = .int .i64 (i : Int) from hk.done 2 _ 51 rfl rfl (hdep ⟨2, .data⟩ (by simp) rfl))
              refine wpOp_of rfl rfl (wp_value (v := .pointer (some ⟨b2, o2 + i, none⟩)) ?_ rfl)
              go_simp
            · cases ho
              have d3 := ev (show a1.eval (.tmp 52) = .pointer (some ⟨b2, o2 + i, none⟩) from hk.done 3 _ 52 rfl rfl (hdep ⟨3, .data⟩ (by simp) rfl))
              obtain ⟨z1, z2⟩ := HQ2.out
              have y2 := (hk.below.cell (p := ⟨b2, o2 + i, none⟩) z1).trans z2
              clear z1 z2
              refine wpOp_of rfl rfl (wp_value (v := .int .u8 (ub : Int)) ?_ rfl)
              go_simp
            · cases ho
              have d4 := ev (show a1.eval (.tmp 53) = .int .u8 (ub : Int) from hk.done 4 _ 53 rfl rfl (hdep ⟨4, .data⟩ (by simp) rfl))
              refine wpOp_of rfl rfl (wp_value (v := .int .u8 ((ub : Int) % 12)) ?_ rfl)
              go_simp
              exact Int.tmod_eq_emod_of_nonneg (by omega)
            · cases ho
              have d5 := ev (show a1.eval (.tmp 54) = .int .u8 ((ub : Int) % 12) from hk.done 5 _ 54 rfl rfl (hdep ⟨5, .data⟩ (by simp) rfl))
              refine wpOp_of rfl rfl (wp_value (v := .int .i64 ((ub : Int) % 12)) ?_ rfl)
              go_simp
              exact IntWalk.i64_in _ (by omega)
            · cases ho
              have d0 := ev (show a1.eval (.tmp 49) = dv Av nv cv Av' mv cv' Lv Ov from hk.done 0 _ 49 rfl rfl (hdep ⟨0, .data⟩ (by simp) rfl))
              have d6 := ev (show a1.eval (.tmp 55) = .int .i64 ((ub : Int) % 12) from hk.done 6 _ 55 rfl rfl (hdep ⟨6, .data⟩ (by simp) rfl))
              have HC := Lib.hid (budget_d (HOKV.out.below hk.below) HFD.out (by decide) ((ub : Int) % 12) hk12)
              refine wpOp_of rfl rfl ?_
              go_simp
              refine HC.out.mono ?_
              rintro e w3 ⟨v', rfl, hok3, hb3⟩
              exact ⟨_, rfl, ⟨_, rfl, OkE.of 0 hok3 h20⟩, hb3⟩
            · cases ho
              obtain ⟨xx, hv, hx⟩ := hk.done 7 _ 56 rfl rfl (hdep ⟨7, .data⟩ (by simp) rfl)
              have d7 := ev hv
              refine wpOp_of rfl rfl (wp_value ?_ ⟨xx, rfl, hx⟩)
              simp [execOp, d7, Act.eval]
            · cases ho
              obtain ⟨xx, hv, hx⟩ := hk.done 8 _ 48 rfl rfl (hdep ⟨8, .data⟩ (by simp) rfl)
              have d8 := ev hv
              refine wpOp_of rfl rfl (wp_value (v := xx) ?_ hx)
              clear hx
              go_simp
            · cases ho
              obtain ⟨xx, hv, hx⟩ := hk.done 8 _ 48 rfl rfl (hdep ⟨8, .data⟩ (by simp) rfl)
              have d8 := ev hv
              clear hx
              refine wpOp_of rfl rfl (wp_value (v := .int .i64 0) ?_ rfl)
              go_simp
            · cases ho
              refine wpOp_of rfl rfl ?_
              go_simp
              exact ⟨_, rfl, ⟨_, _, rfl, hk.below.size, box_new _ _, shp0 _ _ _ _ _ _ _ _ (by decide)⟩, (Below.refl _ _).alloc (Nat.le_refl _) _⟩
            · exact absurd hki (by simp)
            · cases ho
              have d10 := ev (show a1.eval (.tmp 58) = .int .i64 0 from hk.done 10 _ 58 rfl rfl (hdep ⟨10, .data⟩ (by simp) rfl))
              refine wpOp_of rfl rfl (wp_value (v := .int .i64 0) ?_ rfl)
              simp [execOp, d10, Act.eval]
          case store10 =>
            intro z9 K9 p9 listed a1 w2 hki ho h0 hclo hk hdep
            have hz9 : z9 < 14 := (Array.getElem?_eq_some_iff.1 ho).1
            have e1 := ev (show a1.eval (.tmp 1) = .slice (some ⟨b2, o2, none⟩) nk ck from hk.frame 1 (frame_of (by kernel_rfl)))
            have e7 := ev (show a1.eval (.tmp 7) = .pointer (some ⟨g7, 0, none⟩) from hk.frame 7 (frame_of (by kernel_rfl)))
            have e11 := ev (show a1.eval (.tmp 11) = .int .i64 (i : Int) from hk.frame 11 (frame_of (by kernel_rfl)))
            have hii : z9 = 0 ∨ z9 = 1 ∨ z9 = 2 ∨ z9 = 3 ∨ z9 = 4 ∨ z9 = 5 ∨ z9 = 6 ∨ z9 = 7 ∨ z9 = 8 ∨ z9 = 9 ∨ z9 = 10 ∨ z9 = 11 ∨ z9 = 12 ∨ z9 = 13 := by omega
            rcases hii with rfl | rfl | rfl | rfl | rfl | rfl | rfl | rfl | rfl | rfl | rfl | rfl | rfl | rfl
            · exact absurd hki (by simp)
            · exact absurd hki (by simp)
            · exact absurd hki (by simp)
            · exact absurd hki (by simp)
            · exact absurd hki (by simp)
            · exact absurd hki (by simp)
            · exact absurd hki (by simp)
            · exact absurd hki (by simp)
            · exact absurd hki (by simp)
            · exact absurd hki (by simp)
            · exact absurd hki (by simp)
            · exact absurd hki (by simp)
            · cases hki
              cases ho
              have hx : OkE w2 (a1.eval (.tmp 57)) ⟨D.S, D.W, (ub : Int) % 12, D.O⟩ 0 := hk.done 9 _ 57 rfl rfl (hdep ⟨9, .data⟩ (by simp) rfl)
              obtain ⟨⟨Ax, nx, cx, Ax', mx, cx', Lx, Ox, hv, hnx⟩, hx2⟩ := hx
              have d9 := ev hv
              have HX : Hid (OkE w2 (dv Ax nx cx Ax' mx cx' Lx Ox) ⟨D.S, D.W, (ub : Int) % 12, D.O⟩ 0) := by rw [← hv]; exact ⟨⟨_, _, _, _, _, _, _, _, hv, hnx⟩, hx2⟩
              obtain ⟨g, o1, hg, hge, hgo, hgs⟩ := hk.done 11 _ 13 rfl rfl (hdep ⟨11, .data⟩ (by simp) rfl)
              have d11 := ev hg
              obtain ⟨y0, y1, y2, y3, j0, j1, j2, j3, jf⟩ := cells_any0 hgo hgs
              have HGO := Lib.hid hgo
              have HGS := Lib.hid hgs
              clear hx2 hgo hgs
              refine wpOp_of rfl rfl ?_
              go_simp
              exact ⟨rfl, ⟨g, hg, hge, dbox_st HGO.out HGS.out hf12 hnx HX.out⟩, st4_below (Below.refl _ _) hge _ _ _ _, rk_disk HGO.out HGS.out _ _ _ _ _ _ _ _ hnx, trivial⟩
            · exact absurd hki (by simp)
          case fin10 =>
            intro listed a2 w2 hall hk
            have hact := keptA_all [49, 50, 51, 52, 53, 54, 55, 56, 48, 57, 58, 13, 14] hk (by kernel_rfl)
            have h49 := hk.done 0 _ 49 rfl rfl (hall 0 (by decide))
            have h50 := hk.done 1 _ 50 rfl rfl (hall 1 (by decide))
            have h51 := hk.done 2 _ 51 rfl rfl (hall 2 (by decide))
            have h52 := hk.done 3 _ 52 rfl rfl (hall 3 (by decide))
            have h53 := hk.done 4 _ 53 rfl rfl (hall 4 (by decide))
            have h54 := hk.done 5 _ 54 rfl rfl (hall 5 (by decide))
            have h55 := hk.done 6 _ 55 rfl rfl (hall 6 (by decide))
            have h56 := hk.done 7 _ 56 rfl rfl (hall 7 (by decide))
            have h48 := hk.done 8 _ 48 rfl rfl (hall 8 (by decide))
            have h57 := hk.done 9 _ 57 rfl rfl (hall 9 (by decide))
            have h58 := hk.done 10 _ 58 rfl rfl (hall 10 (by decide))
            have h13 := hk.done 11 _ 13 rfl rfl (hall 11 (by decide))
            have h14 := hk.done 13 _ 14 rfl rfl (hall 13 (by decide))
            have s12 := hk.acts 12 _ rfl rfl (hall 12 (by decide))
            change PhK _ 12 (a2.eval (.tmp 13)) w2 at s12
            have HB := Lib.hid hk.below
            simp only [List.foldl_cons, List.foldl_nil, List.setIfInBounds_toArray, List.set_cons_succ, List.set_cons_zero] at hact
            generalize a2.eval (.tmp 49) = u49 at hact h49
            generalize a2.eval (.tmp 50) = u50 at hact h50
            generalize a2.eval (.tmp 51) = u51 at hact h51
            generalize a2.eval (.tmp 52) = u52 at hact h52
            generalize a2.eval (.tmp 53) = u53 at hact h53
            generalize a2.eval (.tmp 54) = u54 at hact h54
            generalize a2.eval (.tmp 55) = u55 at hact h55
            generalize a2.eval (.tmp 56) = u56 at hact h56
            generalize a2.eval (.tmp 48) = u48 at hact h48
            generalize a2.eval (.tmp 57) = u57 at hact h57
            generalize a2.eval (.tmp 58) = u58 at hact h58
            generalize a2.eval (.tmp 13) = u13 at hact h13 s12
            generalize a2.eval (.tmp 14) = u14 at hact h14
            rw [hact]
            clear hact
            obtain rfl : u14 = .int .i64 0 := h14
            obtain ⟨g13, rfl, hg13, hd13⟩ := s12
            obtain ⟨w20, rfl⟩ : ∃ x, x = w2 := ⟨w2, rfl⟩
            have HI20 := Lib.hid (HI8.out.below HB.out)
            obtain ⟨Ax, nx, cx, Ax', mx, cx', Lx, Ox, hbx, hnx, hokx⟩ := hd13
            have HBX := Lib.hid hbx
            have HOKX := Lib.hid hokx
            have HB7 := Lib.hid (box_at HBV.out HB.out)
            have hs7 : Shp 0 (.cells #[.slice Av nv cv, .slice Av' mv cv', .int .i64 Lv, .bool Ov] 25 (0, 0)) := shp0 _ _ _ _ _ _ _ _ hnv
            have HS7 := Lib.hid hs7
            clear hk hbx hokx hs7
            obtain ⟨k0, k1, k2, k3, kf⟩ := cells_of4 HBX.out
            obtain ⟨r0, r1, r2, r3, rf⟩ := cells_of4 HB7.out
            have hcs := HI20.out
            have hfin : CO w g7 base ⟨D.S, D.W, (ub : Int) % 12, D.O⟩ fs a x (.slice A10 m8 c10) (st4 w20 g7 (.slice Ax nx cx) (.slice Ax' mx cx') (.int .i64 Lx) (.bool Ox)) := ⟨HCB.out, dbox_st HB7.out HS7.out hf12 hnx HOKX.out, (st4_far _ _ _ _ _ (by omega)).trans hcs.l8, (st4_far _ _ _ _ _ (by omega)).trans hcs.lb, faRow_stS hcs.row _ _ _ _ HB7.out (.inl HS7.out) (by omega) (by omega), st4_below hcs.b (by omega) _ _ _ _, by rw [st4_size]; exact hcs.hi⟩
            have HFIN := Lib.hid hfin
            clear hfin hcs
            go_wp2_with fail
            go_meet
            exact ⟨_, HFIN⟩
        · go_wp2_with fail
          go_meet
          exact ⟨D, HI8⟩

      case rest =>
      obtain ⟨D2, HJ⟩ := hcut
      clear HI HI8
      obtain ⟨ws, rfl⟩ : ∃ y, y = wc := ⟨wc, rfl⟩
      have HOD : Hid (Octs ws ws.heap.size A1 d) := (HO0.out.below HJ.out.b (Nat.le_refl _)).more HJ.out.b.size
      obtain ⟨Av, nv, cv, Av', mv, cv', Lv, Ov, hbv, hnv, hokv⟩ := HJ.out.box
      have HBV := Lib.hid hbv
      have HOKV := Lib.hid (hokv.2 (.inl rfl))
      have hfD : Fit D2 0 := HJ.out.cut.f
      have HLB := Lib.hid HJ.out.lb
      have hg7s : g7 + 2 < ws.heap.size := lt_of_at HJ.out.lb
      clear hbv hokv
      rcases hRRb : appR D2 2 16 (a : Int) (x : Int) d with ⟨Eb, ⟨g0b, g1b, g2b, g3b⟩, eb⟩
      have hfEb : Fit Eb (0 + 500) := by have := (appR_fit 2 16 (a : Int) (x : Int) d hfD).1; rw [hRRb] at this; exact this
      have hsEb : Eb.S.length = (D2).S.length := by have := (appR_fit 2 16 (a : Int) (x : Int) d hfD).2; rw [hRRb] at this; exact this
      have HAPb : Hid (∀ (W : World) (v : Value) (A : Option Addr) (c : Nat), Okd W v D2 → Octs W W.heap.size A d → Calls Try.prog 13 #[v, lgv 2 16 (a : Int) (x : Int), .slice A dm c] W fun e w' => ∃ v', e = .returned (.tuple #[v', lgv g0b g1b g2b g3b, .int .i64 eb]) ∧ OkE w' v' Eb eb ∧ Below W.heap.size W w') := fun W v A c h1 h2 => by
        have := append_at W v D2 0 2 16 (a : Int) (x : Int) A d dm c hdm h1 hfD (by decide) (by rw [HJ.out.cut.s]; decide) (by decide) (by decide) (by omega) (by omega) (by omega) (by omega) (by decide) (by decide) h2 (by omega)
        unfold AppP at this
        rw [hRRb] at this
        exact this
      have HRRb := Lib.hid hRRb
      have HSEb := Lib.hid hsEb
      clear hRRb hsEb
      have HAC := Lib.hid (HJ.out.cut.app d HRRb.out)
      obtain ⟨k0, k1, k2, k3, kf⟩ := cells_of4 HBV.out
      obtain ⟨r0, r1, r2, r3, rf⟩ := cells_log HLB.out
      go_wp2_with fail
      refine (HAPb.out ws (dv Av nv cv Av' mv cv' Lv Ov) A1 c1 HOKV.out HOD.out).mono ?_
      rintro e w3 ⟨v', rfl, ⟨⟨Ax, nx, cx, Ax', mx, cx', Lx, Ox, rfl, hnx⟩, hx2⟩, hb3⟩
      have HX2 := Lib.hid hx2
      have HB3 := Lib.hid hb3
      clear hx2 hb3 k0 k1 k2 k3 kf r0 r1 r2 r3 rf
      go_upto_region 15 with fail
      obtain ⟨w4, hw4⟩ : ∃ w4, w4 = (w3.alloc (.cells #[.slice Ax nx cx, .slice Ax' mx cx', .int .i64 Lx, .bool Ox] 25)).alloc (lgo g0b g1b g2b g3b) := ⟨_, rfl⟩
      rw [← hw4]
      have hb34 : Below w3.heap.size w3 w4 := by rw [hw4]; exact ((Below.refl _ _).alloc (Nat.le_refl _) _).alloc (by simp) _
      have hd12 : DBox w4 w3.heap.size Eb eb := ⟨Ax, nx, cx, Ax', mx, cx', Lx, Ox, by rw [hw4, Below.heap_alloc _ _ _ (by simp)]; exact heap_alloc_new _ _, hnx, OkE.below ⟨⟨_, _, _, _, _, _, _, _, rfl, hnx⟩, HX2.out⟩ hb34⟩
      have hl13 : w4.heap[w3.heap.size + 1]? = some (lgo g0b g1b g2b g3b) := by
        have h1 := heap_alloc_new (w3.alloc (.cells #[.slice Ax nx cx, .slice Ax' mx cx', .int .i64 Lx, .bool Ox] 25)) (lgo g0b g1b g2b g3b)
        rw [hw4]
        simpa using h1
      have hB4 : Below ws.heap.size ws w4 := HB3.out.trans (hb34.mono HB3.out.size)
      obtain ⟨g15, hg15e⟩ : ∃ g, g = w3.heap.size := ⟨_, rfl⟩
      rw [← hg15e] at hd12 hl13 ⊢
      have hg15 : ws.heap.size ≤ g15 := by rw [hg15e]; exact HB3.out.size
      clear hw4 hb34 hg15e
      obtain ⟨g16, hg16e⟩ : ∃ g, g = g15 + 1 := ⟨_, rfl⟩
      rw [← hg16e] at hl13 ⊢
      have hg16 : ws.heap.size ≤ g16 := by omega
      clear hg16e
      have HJ4 := Lib.hid (HJ.out.below hB4)
      have hx1e : (1 + (m8 : Int)) = (x : Int) := by have := HX1.out; omega
      obtain ⟨w5, hw5⟩ : ∃ w5, w5 = w4.alloc (.cells #[.int .i64 (x : Int), .slice A1 dm c1] 58) := ⟨_, rfl⟩
      obtain ⟨g18, hg18⟩ : ∃ g, g = w4.heap.size := ⟨_, rfl⟩
      have hb45 : Below w4.heap.size w4 w5 := by rw [hw5]; exact (Below.refl _ _).alloc (Nat.le_refl _) _
      have hx18 : w5.heap[g18]? = some (.cells #[.int .i64 (x : Int), .slice A1 dm c1] 58 (0, 0)) := by rw [hw5, hg18]; exact heap_alloc_new _ _
      have HJ5 := Lib.hid (HJ4.out.below hb45)
      have HD15 : Hid (DBox w5 g15 Eb eb) := hd12.below hb45
      have HL16 := Lib.hid (box_at hl13 hb45)
      have HX18 := Lib.hid hx18
      have HW5 := Lib.hid hw5
      have HG18 := Lib.hid hg18
      have hg18s : ws.heap.size ≤ g18 := by rw [hg18]; exact hB4.size
      have HB5 : Hid (Below ws.heap.size ws w5) := hB4.trans (hb45.mono hB4.size)
      clear hd12 hl13 hw5 hb45 hx18 hg18 HJ4 hB4 HX2 HB3
      go_upto_region 16 with fail
      rw [← HW5.out, ← HG18.out]
      clear HW5 HG18 hx1e
      have hg15l : g15 < w5.heap.size := by obtain ⟨_, _, _, _, _, _, _, _, h1, _⟩ := HD15.out; exact lt_of_at h1
      have hg16l : g16 < w5.heap.size := lt_of_at HL16.out
      have hg18l : g18 < w5.heap.size := lt_of_at HX18.out
      rcases HAC.out with rfl | rfl | ⟨rfl, hle6, a', rfl, rfl, rfl, rfl, hcut2⟩ | ⟨rfl, hle6, hkeep⟩
      · go_wp2_with fail
        go_roundw
        case rel => exact ⟨i + 1, D2, fs, a, x, by omega, by go_num, HJ5⟩
        case measure => simp [intOf]; omega
      · go_wp2_with fail
        go_roundw
        case rel => exact ⟨i + 1, D2, fs, a, x, by omega, by go_num, HJ5⟩
        case measure => simp [intOf]; omega
      · have HCUT := Lib.hid hcut2
        obtain ⟨X, hX⟩ : ∃ X, X = w5.alloc (.cells #[.int .i64 (x : Int), .slice A1 dm c1] 58) := ⟨_, rfl⟩
        have hbX : Below w5.heap.size w5 X := by rw [hX]; exact (Below.refl _ _).alloc (Nat.le_refl _) _
        have hxX : X.heap[w5.heap.size]? = some (.cells #[.int .i64 (x : Int), .slice A1 dm c1] 58 (0, 0)) := by rw [hX]; exact heap_alloc_new _ _
        have y0 : X.cell? ⟨w5.heap.size, 0, none⟩ = some (.int .i64 (x : Int)) := by rw [cell_of_row X _ 0 _ _ _ hxX]; rfl
        have y1 : X.cell? ⟨w5.heap.size, 1, none⟩ = some (.slice A1 d.length c1) := by rw [cell_of_row X _ 1 _ _ _ hxX, hdm]; rfl
        have hfalX := HJ5.out.row.below hbX
        have hXs := hbX.size
        have hbwX : Below w.heap.size w X := HJ5.out.b.trans (hbX.mono HJ5.out.b.size)
        have howX : OctsW X w.heap.size A1 d := (HO0.out.below hbwX (Nat.le_refl _)).toW (Nat.le_refl _) hbwX.size
        have hbs5 := HJ5.out.hi
        obtain ⟨v10', w7, hr7, hfal7, hkw7, hb7, hg7'⟩ := hfalX.snoc w5.heap.size (x : Int) A1 d c1 y0 y1 howX (by rw [hdm]; exact hdc1) (by rw [hdm]; omega) (by omega) (by omega) (by have := HM8.out; omega) (by omega) (by have := hgw; omega)
        have n7 : ∀ g', ws.heap.size ≤ g' → (Value.slice A10 m8 c10).ownBlock ≠ some g' := fun g' h2 e => by have := HJ.out.row.lt e; omega
        have HD7 : Hid (DBox w7 g15 Eb 0) := (HD15.out.below hbX).grown (by rw [hcut2.s]; decide) hcut2.q hg7' hfalX.mute (n7 _ hg15)
        have HL7 : Hid (w7.heap[g16]? = some (lgo 2 16 (a' : Int) ((x + 1 : Nat) : Int))) := (hg7'.block g16 (by omega) (fun e => n7 _ hg16 e.symm)).trans (box_at HL16.out hbX)
        have H77 : Hid (∃ o, w7.heap[g7]? = some o ∧ Shp 0 o) := by
          obtain ⟨_, _, _, _, _, _, _, _, h1, h2, _⟩ := HJ5.out.box.below hbX
          exact ⟨_, (hb7.block g7 (by omega)).trans h1, shp0 _ _ _ _ _ _ _ _ h2⟩
        have H97 : Hid (∃ o, w7.heap[g7 + 2]? = some o ∧ Shp 1 o) := ⟨_, (hb7.block (g7 + 2) (by omega)).trans (box_at HJ5.out.lb hbX), shp1 _ _ _ _⟩
        have H87 : Hid (w7.heap[g7 + 1]? = some (lgo 2 16 0 1)) := (hb7.block (g7 + 1) (by omega)).trans (box_at HJ5.out.l8 hbX)
        have HB07 : Hid (Below w.heap.size w w7) := hbwX.trans (hb7.mono (by omega))
        have HFAL7 := Lib.hid hfal7
        have HR7 := Lib.hid hr7
        rw [hX] at HR7
        obtain ⟨q0, q1⟩ : w5.cell? ⟨g18, 0, none⟩ = some (.int .i64 (x : Int)) ∧ w5.cell? ⟨g18, 1, none⟩ = some (.slice A1 dm c1) := ⟨by rw [cell_of_row w5 _ 0 _ _ _ HX18.out]; rfl, by rw [cell_of_row w5 _ 1 _ _ _ HX18.out]; rfl⟩
        have hs57 : w5.heap.size ≤ w7.heap.size := by have := hg7'.size; omega
        have hs57b : base ≤ w7.heap.size := by omega
        clear hX hbX hxX y0 y1 hfalX hr7 hfal7 hkw7 hb7 hg7' n7 hXs howX hcut2 hbwX
        go_upto_region 18 with (first
          | (at_builtin; refine Go.Lib.wpList_append_run _ rfl (.tmp 77) (.tmp 79) 43 43 rfl _ _ rfl rfl v10' w7 HR7.out ?_))
        clear q0 q1
        obtain ⟨A5, n5, c5, A5', m5, c5', L5, O5, hq5, hn5, hok5⟩ := HD7.out
        have HQ5 := Lib.hid hq5
        have HOK5 := Lib.hid (hok5.2 (.inl rfl))
        have hfE : Fit Eb 0 := HCUT.out.f
        clear hq5 hok5
        refine wp_region_acts (by kernel_rfl) (g7) (by omega) [kv (dv A5 n5 c5 A5' m5 c5' L5 O5), kv (lgv 2 16 (a' : Int) ((x + 1 : Nat) : Int)), lfDAt g7 Eb 0 hfE 0, lfLAt (g7 + 2) 2 16 (a' : Int) ((x + 1 : Nat) : Int)] [81, 82, 7, 9] [none, none, some 0, some 1] rfl (fun (_ : Array Bool) (w' : World) => w'.heap[g15]? = some (.cells #[.slice A5 n5 c5, .slice A5' m5 c5', .int .i64 L5, .bool O5] 25 (0, 0)) ∧ Okd w' (dv A5 n5 c5 A5' m5 c5' L5 O5) Eb ∧ w'.heap[g16]? = some (lgo 2 16 (a' : Int) ((x + 1 : Nat) : Int)) ∧ FaRow w' base w.heap.size v10' (fs ++ [((x : Int), d)]) ∧ (∃ o, w'.heap[g7]? = some o ∧ Shp 0 o) ∧ (∃ o, w'.heap[g7 + 2]? = some o ∧ Shp 1 o) ∧ w'.heap[g7 + 1]? = some (lgo 2 16 0 1)) ?hgam18 (by kernel_rfl) (backsB_spec (by kernel_rfl)) ?start18 ?step18  ?store18 ?fin18
        case hgam18 =>
          intro listed z9 w2 w3 hki hlo2 hb2 hg2
          obtain ⟨m1, m2, m3, m4, ⟨o5, m5q, m5s⟩, ⟨o6, m6, m6s⟩, m7⟩ := hg2
          exact ⟨box_at m1 hb2, m2.below hb2, box_at m3 hb2, m4.below hb2, ⟨o5, box_at m5q hb2, m5s⟩, ⟨o6, box_at m6 hb2, m6s⟩, box_at m7 hb2⟩
        case start18 => exact ⟨HQ5.out, HOK5.out.below (below_dr0 _), HL7.out, HFAL7.out.below (below_dr0 _), H77.out, H97.out, H87.out⟩
        case step18 =>
          intro z9 p9 listed a1 w2 hki ho h0 hclo hk hdep
          have hz9 : z9 < 4 := (Array.getElem?_eq_some_iff.1 ho).1
          have e7 := ev (show a1.eval (.tmp 7) = .pointer (some ⟨g7, 0, none⟩) from hk.frame 7 (frame_of (by kernel_rfl)))
          have e9 := ev (show a1.eval (.tmp 9) = .pointer (some ⟨g7 + 2, 0, none⟩) from hk.frame 9 (frame_of (by kernel_rfl)))
          have e15 := ev (show a1.eval (.tmp 15) = .pointer (some ⟨g15, 0, none⟩) from hk.frame 15 (frame_of (by kernel_rfl)))
          have e16 := ev (show a1.eval (.tmp 16) = .pointer (some ⟨g16, 0, none⟩) from hk.frame 16 (frame_of (by kernel_rfl)))
          have hii : z9 = 0 ∨ z9 = 1 ∨ z9 = 2 ∨ z9 = 3 := by omega
          rcases hii with rfl | rfl | rfl | rfl
          · cases ho
            obtain ⟨k0, k1, k2, k3, kf⟩ := cells_of4 hk.gam.1
            refine wpOp_of rfl rfl (wp_value (v := dv A5 n5 c5 A5' m5 c5' L5 O5) ?_ rfl)
            go_simp
          · cases ho
            obtain ⟨k0, k1, k2, k3, kf⟩ := cells_log hk.gam.2.2.1
            refine wpOp_of rfl rfl (wp_value (v := lgv 2 16 (a' : Int) ((x + 1 : Nat) : Int)) ?_ rfl)
            go_simp
          · exact absurd hki (by simp)
          · exact absurd hki (by simp)
        case store18 =>
          intro z9 K9 p9 listed a1 w2 hki ho h0 hclo hk hdep
          have hz9 : z9 < 4 := (Array.getElem?_eq_some_iff.1 ho).1
          have e7 := ev (show a1.eval (.tmp 7) = .pointer (some ⟨g7, 0, none⟩) from hk.frame 7 (frame_of (by kernel_rfl)))
          have e9 := ev (show a1.eval (.tmp 9) = .pointer (some ⟨g7 + 2, 0, none⟩) from hk.frame 9 (frame_of (by kernel_rfl)))
          have e15 := ev (show a1.eval (.tmp 15) = .pointer (some ⟨g15, 0, none⟩) from hk.frame 15 (frame_of (by kernel_rfl)))
          have e16 := ev (show a1.eval (.tmp 16) = .pointer (some ⟨g16, 0, none⟩) from hk.frame 16 (frame_of (by kernel_rfl)))
          have hii : z9 = 0 ∨ z9 = 1 ∨ z9 = 2 ∨ z9 = 3 := by omega
          rcases hii with rfl | rfl | rfl | rfl
          · exact absurd hki (by simp)
          · exact absurd hki (by simp)
          · cases hki
            cases ho
            have d0 := ev (show a1.eval (.tmp 81) = dv A5 n5 c5 A5' m5 c5' L5 O5 from hk.done 0 _ 81 rfl rfl (hdep ⟨0, .data⟩ (by simp) rfl))
            obtain ⟨m1, m2, m3, m4, ⟨o5, m5q, m5s⟩, ⟨o6, m6, m6s⟩, m7⟩ := hk.gam
            have M1 := Lib.hid m1
            have M2 := Lib.hid m2
            have M3 := Lib.hid m3
            have M4 := Lib.hid m4
            have M5 := Lib.hid m5q
            have M5s := Lib.hid m5s
            have M6 := Lib.hid m6
            have M6s := Lib.hid m6s
            have M7 := Lib.hid m7
            obtain ⟨y0, y1, y2, y3, j0, j1, j2, j3, jf⟩ := cells_any0 m5q m5s
            clear m1 m2 m3 m4 m5q m5s m6 m6s m7
            refine wpOp_of rfl rfl ?_
            go_simp
            have hrk := rk_disk M5.out M5s.out A5 n5 c5 A5' m5 c5' L5 O5 hn5
            exact ⟨rfl, dbox_st M5.out M5s.out hfE hn5 (OkE.of 0 M2.out (by rw [HCUT.out.s]; decide)), st4_below (Below.refl _ _) (Nat.le_refl _) _ _ _ _, hrk, (st4_far _ _ _ _ _ (by omega)).trans M1.out, M2.out.rk hfE hrk, (st4_far _ _ _ _ _ (by omega)).trans M3.out, faRow_stS M4.out _ _ _ _ M5.out (.inl M5s.out) (by omega) (by omega), ⟨_, disk_at M5.out M5s.out _ _ _ _ _ _ _ _, shp0 _ _ _ _ _ _ _ _ hn5⟩, ⟨_, (st4_far _ _ _ _ _ (by omega)).trans M6.out, M6s.out⟩, (st4_far _ _ _ _ _ (by omega)).trans M7.out⟩
          · cases hki
            cases ho
            have d1 := ev (show a1.eval (.tmp 82) = lgv 2 16 (a' : Int) ((x + 1 : Nat) : Int) from hk.done 1 _ 82 rfl rfl (hdep ⟨1, .data⟩ (by simp) rfl))
            obtain ⟨m1, m2, m3, m4, ⟨o5, m5q, m5s⟩, ⟨o6, m6, m6s⟩, m7⟩ := hk.gam
            have M1 := Lib.hid m1
            have M2 := Lib.hid m2
            have M3 := Lib.hid m3
            have M4 := Lib.hid m4
            have M5 := Lib.hid m5q
            have M5s := Lib.hid m5s
            have M6 := Lib.hid m6
            have M6s := Lib.hid m6s
            have M7 := Lib.hid m7
            obtain ⟨y0, y1, y2, y3, j0, j1, j2, j3, jf⟩ := cells_any1 m6 m6s
            clear m1 m2 m3 m4 m5q m5s m6 m6s m7
            refine wpOp_of rfl rfl ?_
            go_simp
            have hrk := rk_log M6.out M6s.out 2 16 (a' : Int) ((x + 1 : Nat) : Int)
            exact ⟨rfl, log_at M6.out M6s.out _ _ _ _, st4_below (Below.refl _ _) (by omega) _ _ _ _, hrk, (st4_far _ _ _ _ _ (by omega)).trans M1.out, M2.out.rk hfE hrk, (st4_far _ _ _ _ _ (by omega)).trans M3.out, faRow_stS M4.out _ _ _ _ M6.out (.inr M6s.out) (by omega) (by omega), ⟨_, (st4_far _ _ _ _ _ (by omega)).trans M5.out, M5s.out⟩, ⟨_, log_at M6.out M6s.out _ _ _ _, shp1 _ _ _ _⟩, (st4_far _ _ _ _ _ (by omega)).trans M7.out⟩
        case fin18 =>
          intro listed a2 w2 hall hk
          have hact := keptA_all [81, 82] hk (by kernel_rfl)
          have h81 := hk.done 0 _ 81 rfl rfl (hall 0 (by decide))
          have h82 := hk.done 1 _ 82 rfl rfl (hall 1 (by decide))
          have s2 := hk.acts 2 _ rfl rfl (hall 2 (by decide))
          change PhK _ 2 (a2.eval (.tmp 7)) w2 at s2
          have s3 := hk.acts 3 _ rfl rfl (hall 3 (by decide))
          change PhK _ 3 (a2.eval (.tmp 9)) w2 at s3
          have HB := Lib.hid hk.below
          simp only [List.foldl_cons, List.foldl_nil, List.setIfInBounds_toArray, List.set_cons_succ, List.set_cons_zero] at hact
          generalize a2.eval (.tmp 81) = u81 at hact h81
          generalize a2.eval (.tmp 82) = u82 at hact h82
          rw [hact]
          clear hact
          have HI6 : Hid (CO w g7 base Eb (fs ++ [((x : Int), d)]) a' (x + 1) v10' w2) := ⟨HCUT.out, s2, hk.gam.2.2.2.2.2.2, s3, hk.gam.2.2.2.1, HB07.out.trans (HB.out.mono hgw), by have := HB.out.size; omega⟩
          obtain ⟨w6, rfl⟩ : ∃ x, x = w2 := ⟨w2, rfl⟩
          clear s2 s3 hk h81 h82
          go_wp2_with fail
          go_roundw
          case rel => exact ⟨i + 1, Eb, _, a', x + 1, by omega, by go_num, HI6⟩
          case measure => simp [intOf]; omega
      · have hfEb : Fit Eb 500 := by
          have h1 := (appR_fit 2 16 (a : Int) (x : Int) d HJ.out.cut.f).1
          rw [HRRb.out] at h1
          exact h1
        obtain ⟨A5, n5, c5, A5', m5, c5', L5, O5, hq5, hn5, hok5⟩ := HD15.out
        have HQ5 := Lib.hid hq5
        have HOK5 := Lib.hid (hok5.2 (.inr rfl))
        have HKP := Lib.hid hkeep
        clear hq5 hok5 hkeep HAC
        go_upto_if 88 with fail
        go_cut [19] from 85 to 92 (fun s19 wx => ∃ (AK2 : Option Addr) (K2 : List Bool) (ck2 : Nat), s19 = .slice AK2 K2.length ck2 ∧ Hid (Bools w w.heap.size AK2 K2) ∧ w5 = wx)
        case first =>
          by_cases hif : (i : Int) < nf
          · obtain ⟨b2, o2, A2, ck2, rfl, hbl2, q2, hbo⟩ := HFF.out i (by have := HNF.out; omega)
            have q2' := (HJ5.out.b.cell (p := ⟨b2, o2 + i, none⟩) hbl2).trans q2
            obtain ⟨K2, hK2⟩ : ∃ K2, K2 = F[i]'(by have := HNF.out; omega) := ⟨_, rfl⟩
            rw [← hK2] at q2' hbo
            obtain ⟨k2, hk2⟩ : ∃ k2, k2 = K2.length := ⟨_, rfl⟩
            rw [← hk2] at q2'
            have HK2 := Lib.hid hk2
            have HBO := Lib.hid hbo
            clear hK2 hk2 hbo q2 hbl2
            go_wp2_with fail
            go_meet
            exact ⟨A2, K2, ck2, by rw [HK2.out], HBO, rfl⟩
          · go_wp2_with fail
            go_meet
            exact ⟨none, [], 0, rfl, fun i h => absurd h (Nat.not_lt_zero _), rfl⟩
        case rest =>
        obtain ⟨AK2, K2, ck2, rfl, hk2b, rfl⟩ := hcut
        have HK2B : Hid (Bools w5 w5.heap.size AK2 K2) := fun j hj => by
          obtain ⟨b, o, e, h1, h2⟩ := (hk2b.out.below HJ5.out.b (Nat.le_refl _)) j hj
          exact ⟨b, o, e, by have := HJ5.out.b.size; omega, h2⟩
        have HCR := Lib.hid (crash_g HOK5.out hfEb (by decide) AK2 K2 ck2 HK2B.out)
        obtain ⟨D6, hD6⟩ : ∃ D6 : DD, D6 = ⟨done (keepB K2) 0 Eb.W Eb.S, [], -1, false⟩ := ⟨_, rfl⟩
        obtain ⟨fs2, aq2, xq2, hor, hcut6⟩ : ∃ (fs2 : Ws) (aq2 xq2 : Nat), (fs2 = fs ∨ fs2 = fs ++ [((x : Int), d)]) ∧ Cut D6 fs2 aq2 xq2 := by
          rw [hD6]
          rcases HKP.out (keepB K2) with h | ⟨a', h⟩
          · exact ⟨_, _, _, .inl rfl, h⟩
          · exact ⟨_, _, _, .inr rfl, h⟩
        rw [← hD6] at HCR
        have HOR := Lib.hid hor
        have HCUT := Lib.hid hcut6
        clear hk2b HK2B hD6 hor hcut6 HKP
        obtain ⟨nk2, hnk2⟩ : ∃ m, K2.length = m := ⟨_, rfl⟩
        rw [hnk2] at HCR
        simp only [hnk2]
        clear hnk2
        obtain ⟨k0, k1, k2, k3, kf⟩ := cells_of4 HQ5.out
        go_wp2_with fail
        refine HCR.out.mono ?_
        rintro e w6 ⟨v', rfl, hok6, hb6⟩
        have h20 : D6.S.length ≠ 64 := by rw [HCUT.out.s]; decide
        have hoe := OkE.of 0 hok6 h20
        obtain ⟨⟨Ax, nx, cx, Ax', mx, cx', Lx, Ox, rfl, hnx⟩, hx2⟩ := hoe
        have HOK6 := Lib.hid hok6
        have HOE : Hid (OkE w6 (dv Ax nx cx Ax' mx cx' Lx Ox) D6 0) := ⟨⟨_, _, _, _, _, _, _, _, rfl, hnx⟩, hx2⟩
        have HJ6 := Lib.hid (HJ5.out.below hb6)
        have HX6 := Lib.hid (box_at HX18.out hb6)
        have HB6 := Lib.hid (HB5.out.trans (hb6.mono HB5.out.size))
        obtain ⟨A7, n7, c7, A7', m7, c7', L7, O7, hb7, hn7, _⟩ := HJ6.out.box
        have HB7 := Lib.hid hb7
        have HS7 : Hid (Shp 0 (.cells #[.slice A7 n7 c7, .slice A7' m7 c7', .int .i64 L7, .bool O7] 25 (0, 0))) := shp0 _ _ _ _ _ _ _ _ hn7
        have hfD6 : Fit D6 0 := HCUT.out.f
        have hrk := rk_disk HB7.out HS7.out Ax nx cx Ax' mx cx' Lx Ox hnx
        have hcs := HJ6.out
        have hs56 := hb6.size
        have hfin : CO w g7 base D6 fs a x (.slice A10 m8 c10) (st4 w6 g7 (.slice Ax nx cx) (.slice Ax' mx cx') (.int .i64 Lx) (.bool Ox)) ∨ True := .inr trivial
        have hS : DBox (st4 w6 g7 (.slice Ax nx cx) (.slice Ax' mx cx') (.int .i64 Lx) (.bool Ox)) g7 D6 0 ∧ (st4 w6 g7 (.slice Ax nx cx) (.slice Ax' mx cx') (.int .i64 Lx) (.bool Ox)).heap[g7 + 1]? = some (lgo 2 16 0 1) ∧ (st4 w6 g7 (.slice Ax nx cx) (.slice Ax' mx cx') (.int .i64 Lx) (.bool Ox)).heap[g7 + 2]? = some (lgo 2 16 (a : Int) (x : Int)) ∧ FaRow (st4 w6 g7 (.slice Ax nx cx) (.slice Ax' mx cx') (.int .i64 Lx) (.bool Ox)) base w.heap.size (.slice A10 m8 c10) fs ∧ (st4 w6 g7 (.slice Ax nx cx) (.slice Ax' mx cx') (.int .i64 Lx) (.bool Ox)).heap[g18]? = some (.cells #[.int .i64 (x : Int), .slice A1 dm c1] 58 (0, 0)) ∧ Below w.heap.size w (st4 w6 g7 (.slice Ax nx cx) (.slice Ax' mx cx') (.int .i64 Lx) (.bool Ox)) ∧ (st4 w6 g7 (.slice Ax nx cx) (.slice Ax' mx cx') (.int .i64 Lx) (.bool Ox)).heap.size = w6.heap.size :=
          ⟨dbox_st HB7.out HS7.out hfD6 hnx HOE.out, (st4_far _ _ _ _ _ (by omega)).trans hcs.l8, (st4_far _ _ _ _ _ (by omega)).trans hcs.lb, faRow_stS hcs.row _ _ _ _ HB7.out (.inl HS7.out) (by omega) (by omega), (st4_far _ _ _ _ _ (by omega)).trans HX6.out, st4_below hcs.b (by omega) _ _ _ _, st4_size _ _ _ _ _ _⟩
        clear hok6 hx2 hb7 hcs hrk hfin k0 k1 k2 k3 kf
        obtain ⟨k0, k1, k2, k3, kf⟩ := cells_of4 HB7.out
        go_upto_region 24 with fail
        obtain ⟨w7, hw7⟩ : ∃ W, W = st4 w6 g7 (.slice Ax nx cx) (.slice Ax' mx cx') (.int .i64 Lx) (.bool Ox) := ⟨_, rfl⟩
        rw [← hw7] at hS
        first | rw [← hw7] | (unfold st4 at hw7; rw [← hw7])
        have HS := Lib.hid hS
        clear hS hw7 k0 k1 k2 k3 kf
        obtain ⟨AY, nY, cY, AY', mY, cY', LY, OY, hbY, hnY, hokY⟩ := HS.out.1
        have HBY := Lib.hid hbY
        have hokY1 := hokY.2 (.inl rfl)
        have hs67 := HS.out.2.2.2.2.2.2
        have HSC : Hid (Calls Try.prog 21 #[dv AY nY cY AY' mY cY' LY OY, lgv 2 16 0 1] w7 (ScanO w7 fs2 2 16 aq2 xq2)) := scan_own w7 _ D6 0 2 16 0 1 fs2 aq2 xq2 hokY1 hfD6 (by decide) HCUT.out.q.1 HCUT.out.q.2 (by decide) (by decide) (by decide) (by decide) (by rw [HCUT.out.s]; decide) (HCUT.out.h.scan (fit_sec hfD6))
        clear hbY hokY hokY1
        obtain ⟨k0, k1, k2, k3, kf⟩ := cells_of4 HBY.out
        obtain ⟨r0, r1, r2, r3, rf⟩ := cells_log HS.out.2.1
        go_wp2_with fail
        refine HSC.out.mono ?_
        rintro e w8 ⟨AG, cG, base8, rfl, hb78, hb88, hfaG, hcG, hcG2, hb8⟩
        clear k0 k1 k2 k3 kf r0 r1 r2 r3 rf
        obtain ⟨w9, hw9⟩ : ∃ w9, w9 = w8.alloc (lgo 2 16 (aq2 : Int) (xq2 : Int)) := ⟨_, rfl⟩
        have hb89 : Below w8.heap.size w8 w9 := by rw [hw9]; exact (Below.refl _ _).alloc (Nat.le_refl _) _
        have hl21 : w9.heap[w8.heap.size]? = some (lgo 2 16 (aq2 : Int) (xq2 : Int)) := by rw [hw9]; exact heap_alloc_new _ _
        have HW9 := Lib.hid hw9
        have HL21 := Lib.hid hl21
        have HB79 : Hid (Below w7.heap.size w7 w9) := hb8.trans (hb89.mono hb8.size)
        have HFG := Lib.hid (hfaG.below hb89)
        have HF10 := Lib.hid (HS.out.2.2.2.1.below HB79.out)
        have HX9 := Lib.hid (box_at HS.out.2.2.2.2.1 HB79.out)
        have HD9 := Lib.hid (HS.out.1.below HB79.out)
        have HL89 := Lib.hid (box_at HS.out.2.1 HB79.out)
        have HLB9 := Lib.hid (box_at HS.out.2.2.1 HB79.out)
        have HBW9 : Hid (Below w.heap.size w w9) := HS.out.2.2.2.2.2.1.trans (HB79.out.mono HS.out.2.2.2.2.2.1.size)
        have hb89s := hb89.size
        obtain ⟨g21, hg21⟩ : ∃ g, g = w8.heap.size := ⟨_, rfl⟩
        have HG21 := Lib.hid hg21
        obtain ⟨n2, hn2⟩ : ∃ n2, n2 = fs2.length := ⟨_, rfl⟩
        rw [← hn2] at HFG ⊢
        have HN2 := Lib.hid hn2
        clear hw9 hl21 hb8 hb89 hfaG hn2 hg21
        go_upto_region 25 with fail
        rw [← HW9.out, ← HG21.out]
        rw [show (Value.slice AG n2 cG) = .slice AG n2 cG from rfl]
        have HSAME : Hid ((n2 = m8 ∧ fs2 = fs) ∨ (n2 = m8 + 1 ∧ fs2 = fs ++ [((x : Int), d)])) := by
          rcases HOR.out with h | h
          · exact .inl ⟨by rw [HN2.out, h, ← HM8.out], h⟩
          · exact .inr ⟨by rw [HN2.out, h, List.length_append, ← HM8.out]; rfl, h⟩
        have HX59 : Hid (w9.heap.size = g21 + 1) := by show w9.heap.size = _; rw [HW9.out, HG21.out]; simp
        go_cut [121] from 103 to 121 (fun s121 wx => s121 = .bool false ∧ Below w9.heap.size w9 wx)
        case first =>
          rcases HSAME.out with ⟨h1, h2⟩ | ⟨h1, h2⟩
          · have HSM : Hid (∀ W, Below w9.heap.size w9 W → Calls Try.prog 23 #[.slice AG n2 cG, .slice A10 m8 c10] W fun e w' => e = .returned (.bool true) ∧ Below W.heap.size W w') := fun W hW => by
              have q2 := (HF10.out.below hW).pend
              have q1 := (HFG.out.below hW).pend
              rw [h2] at q1
              have := same6_any AG A10 cG c10 fs W q1 q2 (by have := HM8.out; omega)
              rw [← HM8.out] at this
              rw [h1]
              exact this
            clear h1 h2
            refine wp_region_by (by kernel_rfl) (Phi [.val (.int .i64 0), .val (.bool false), .val (.bool false), .val (.slice AG n2 cG), .val (.slice A10 m8 c10), .val (.bool true), .val (.bool false), .val (.bool false), .val (undef), .val (undef), .val (undef), .val (undef), .val (undef), .val (undef), .val (undef), .val (undef), .val (undef), .val (.bool false), .val (.bool false)]) (phi_stab _) (by kernel_rfl) ?step25 ?fin25
            case step25 =>
              intro i o listed a1 w2 ho hk hdep
              have hi : i < 19 := (Array.getElem?_eq_some_iff.1 ho).1
              have e10 := ev (show a1.eval (.tmp 10) = .slice A10 m8 c10 from hk.frame 10 (frame_of (by kernel_rfl)))
              have e18 := ev (show a1.eval (.tmp 18) = .pointer (some ⟨g18, 0, none⟩) from hk.frame 18 (frame_of (by kernel_rfl)))
              have e20 := ev (show a1.eval (.tmp 20) = .slice AG n2 cG from hk.frame 20 (frame_of (by kernel_rfl)))
              have e22 := ev (show a1.eval (.tmp 22) = .int .i64 0 from hk.frame 22 (frame_of (by kernel_rfl)))
              have hii : i = 0 ∨ i = 1 ∨ i = 2 ∨ i = 3 ∨ i = 4 ∨ i = 5 ∨ i = 6 ∨ i = 7 ∨ i = 8 ∨ i = 9 ∨ i = 10 ∨ i = 11 ∨ i = 12 ∨ i = 13 ∨ i = 14 ∨ i = 15 ∨ i = 16 ∨ i = 17 ∨ i = 18 := by omega
              rcases hii with rfl | rfl | rfl | rfl | rfl | rfl | rfl | rfl | rfl | rfl | rfl | rfl | rfl | rfl | rfl | rfl | rfl | rfl | rfl
              · cases ho
                refine wpOp_of rfl rfl (wp_value (v := .int .i64 0) ?_ rfl)
                simp [execOp, e22, Act.eval]
              · cases ho
                have d0 := ev (show a1.eval (.tmp 103) = .int .i64 0 from hk.done 0 _ 103 rfl rfl (hdep ⟨0, .data⟩ (by simp) rfl))
                refine wpOp_of rfl rfl (wp_value (v := .bool false) ?_ rfl)
                go_simp
              · cases ho
                have d1 := ev (show a1.eval (.tmp 104) = .bool false from hk.done 1 _ 104 rfl rfl (hdep ⟨1, .data⟩ (by simp) rfl))
                refine wpOp_of rfl rfl (wp_value (v := .bool false) ?_ rfl)
                simp [execOp, d1, Act.eval]
              · cases ho
                refine wpOp_of rfl (wanted_of (t := 105) rfl rfl (hk.done 2 _ 105 rfl rfl (hdep ⟨2, .guard⟩ (by simp) rfl))) (wp_value (v := .slice AG n2 cG) ?_ rfl)
                simp [execOp, e20, Act.eval]
              · cases ho
                refine wpOp_of rfl (wanted_of (t := 105) rfl rfl (hk.done 2 _ 105 rfl rfl (hdep ⟨2, .guard⟩ (by simp) rfl))) (wp_value (v := .slice A10 m8 c10) ?_ rfl)
                simp [execOp, e10, Act.eval]
              · cases ho
                have d3 := ev (show a1.eval (.tmp 106) = .slice AG n2 cG from hk.done 3 _ 106 rfl rfl (hdep ⟨3, .data⟩ (by simp) rfl))
                have d4 := ev (show a1.eval (.tmp 107) = .slice A10 m8 c10 from hk.done 4 _ 107 rfl rfl (hdep ⟨4, .data⟩ (by simp) rfl))
                refine wpOp_of rfl (wanted_of (t := 105) rfl rfl (hk.done 2 _ 105 rfl rfl (hdep ⟨2, .guard⟩ (by simp) rfl))) ?_
                go_simp
                refine (HSM.out _ hk.below).mono ?_
                rintro e w3 ⟨rfl, hb2⟩
                exact ⟨_, rfl, rfl, hb2⟩
              · cases ho
                have d5 := ev (show a1.eval (.tmp 108) = .bool true from hk.done 5 _ 108 rfl rfl (hdep ⟨5, .data⟩ (by simp) rfl))
                refine wpOp_of rfl (wanted_of (t := 105) rfl rfl (hk.done 2 _ 105 rfl rfl (hdep ⟨2, .guard⟩ (by simp) rfl))) (wp_value (v := .bool false) ?_ rfl)
                go_simp
              · cases ho
                have d6 := ev (show a1.eval (.tmp 109) = .bool false from hk.done 6 _ 109 rfl rfl (hdep ⟨6, .data⟩ (by simp) rfl))
                refine wpOp_of rfl (wanted_of (t := 105) rfl rfl (hk.done 2 _ 105 rfl rfl (hdep ⟨2, .guard⟩ (by simp) rfl))) (wp_value (v := .bool false) ?_ rfl)
                simp [execOp, d6, Act.eval]
              · cases ho
                exact Fra.wpOp_skip rfl (Fra.unwanted_of (t := 110) rfl rfl (hk.done 7 _ 110 rfl rfl (hdep ⟨7, .guard⟩ (by simp) rfl)) (by decide)) ⟨undef, rfl, rfl, Below.refl _ _⟩
              · cases ho
                exact Fra.wpOp_skip rfl (Fra.unwanted_of (t := 110) rfl rfl (hk.done 7 _ 110 rfl rfl (hdep ⟨7, .guard⟩ (by simp) rfl)) (by decide)) ⟨undef, rfl, rfl, Below.refl _ _⟩
              · cases ho
                exact Fra.wpOp_skip rfl (Fra.unwanted_of (t := 110) rfl rfl (hk.done 7 _ 110 rfl rfl (hdep ⟨7, .guard⟩ (by simp) rfl)) (by decide)) ⟨undef, rfl, rfl, Below.refl _ _⟩
              · cases ho
                exact Fra.wpOp_skip rfl (Fra.unwanted_of (t := 110) rfl rfl (hk.done 7 _ 110 rfl rfl (hdep ⟨7, .guard⟩ (by simp) rfl)) (by decide)) ⟨undef, rfl, rfl, Below.refl _ _⟩
              · cases ho
                exact Fra.wpOp_skip rfl (Fra.unwanted_of (t := 110) rfl rfl (hk.done 7 _ 110 rfl rfl (hdep ⟨7, .guard⟩ (by simp) rfl)) (by decide)) ⟨undef, rfl, rfl, Below.refl _ _⟩
              · cases ho
                exact Fra.wpOp_skip rfl (Fra.unwanted_of (t := 110) rfl rfl (hk.done 7 _ 110 rfl rfl (hdep ⟨7, .guard⟩ (by simp) rfl)) (by decide)) ⟨undef, rfl, rfl, Below.refl _ _⟩
              · cases ho
                exact Fra.wpOp_skip rfl (Fra.unwanted_of (t := 110) rfl rfl (hk.done 7 _ 110 rfl rfl (hdep ⟨7, .guard⟩ (by simp) rfl)) (by decide)) ⟨undef, rfl, rfl, Below.refl _ _⟩
              · cases ho
                exact Fra.wpOp_skip rfl (Fra.unwanted_of (t := 110) rfl rfl (hk.done 7 _ 110 rfl rfl (hdep ⟨7, .guard⟩ (by simp) rfl)) (by decide)) ⟨undef, rfl, rfl, Below.refl _ _⟩
              · cases ho
                exact Fra.wpOp_skip rfl (Fra.unwanted_of (t := 110) rfl rfl (hk.done 7 _ 110 rfl rfl (hdep ⟨7, .guard⟩ (by simp) rfl)) (by decide)) ⟨undef, rfl, rfl, Below.refl _ _⟩
              · cases ho
                have d7 := ev (show a1.eval (.tmp 110) = .bool false from hk.done 7 _ 110 rfl rfl (hdep ⟨7, .data⟩ (by simp) rfl))
                have d16 := ev (show a1.eval (.tmp 119) = undef from hk.done 16 _ 119 rfl rfl (hdep ⟨16, .data⟩ (by simp) rfl))
                refine wpOp_of rfl (wanted_of (t := 105) rfl rfl (hk.done 2 _ 105 rfl rfl (hdep ⟨2, .guard⟩ (by simp) rfl))) (wp_value (v := .bool false) ?_ rfl)
                go_simp
              · cases ho
                have d2 := ev (show a1.eval (.tmp 105) = .bool false from hk.done 2 _ 105 rfl rfl (hdep ⟨2, .data⟩ (by simp) rfl))
                have d17 := ev (show a1.eval (.tmp 120) = .bool false from hk.done 17 _ 120 rfl rfl (hdep ⟨17, .data⟩ (by simp) rfl))
                refine wpOp_of rfl rfl (wp_value (v := .bool false) ?_ rfl)
                go_simp
            case fin25 =>
              intro listed a2 w2 hk hall
              have h121 : a2.eval (.tmp 121) = .bool false := hk.done 18 _ 121 rfl rfl (hall 18 (by decide))
              have hact := kept_all [103, 104, 105, 106, 107, 108, 109, 110, 111, 112, 113, 114, 115, 116, 117, 118, 119, 120, 121] hk (by kernel_rfl)
              have HB := Lib.hid hk.below
              simp only [List.foldl_cons, List.foldl_nil, List.setIfInBounds_toArray, List.set_cons_succ, List.set_cons_zero] at hact
              generalize a2.eval (.tmp 103) = u103 at hact
              generalize a2.eval (.tmp 104) = u104 at hact
              generalize a2.eval (.tmp 105) = u105 at hact
              generalize a2.eval (.tmp 106) = u106 at hact
              generalize a2.eval (.tmp 107) = u107 at hact
              generalize a2.eval (.tmp 108) = u108 at hact
              generalize a2.eval (.tmp 109) = u109 at hact
              generalize a2.eval (.tmp 110) = u110 at hact
              generalize a2.eval (.tmp 111) = u111 at hact
              generalize a2.eval (.tmp 112) = u112 at hact
              generalize a2.eval (.tmp 113) = u113 at hact
              generalize a2.eval (.tmp 114) = u114 at hact
              generalize a2.eval (.tmp 115) = u115 at hact
              generalize a2.eval (.tmp 116) = u116 at hact
              generalize a2.eval (.tmp 117) = u117 at hact
              generalize a2.eval (.tmp 118) = u118 at hact
              generalize a2.eval (.tmp 119) = u119 at hact
              generalize a2.eval (.tmp 120) = u120 at hact
              generalize a2.eval (.tmp 121) = u121 at hact h121
              rw [hact]
              clear hact
              go_wp2
              go_meet
              first | exact ⟨h121, HB.out⟩ | exact ⟨rfl, HB.out⟩
          · have HSM : Hid (∀ W, Calls Try.prog 23 #[.slice AG n2 cG, .slice A10 m8 c10] W fun e w' => e = .returned (.bool false) ∧ W = w') := fun W => same6_no AG A10 n2 m8 cG c10 W (by omega)
            have HSN : Hid (∀ W v, Below w9.heap.size w9 W → FaRow W w9.heap.size w.heap.size v (fs ++ [((x : Int), d)]) → ∃ A c, v = .slice A n2 c ∧ Calls Try.prog 23 #[.slice AG n2 cG, .slice A n2 c] W fun e w' => e = .returned (.bool true) ∧ Below W.heap.size W w') := fun W v hW hv => by
              obtain ⟨A, c, rfl, _, _⟩ := hv.form
              have q2 := hv.pend
              have q1 := (HFG.out.below hW).pend
              rw [h2] at q1
              have := same6_any AG A cG c _ W q1 q2 (by rw [List.length_append]; have := HM8.out; simp; omega)
              rw [← h2, ← HN2.out] at this
              exact ⟨A, c, by rw [← h2, ← HN2.out], this⟩
            have hx9 : w.heap.size ≤ w9.heap.size := HBW9.out.size
            have HOW9 : Hid (OctsW w9 w.heap.size A1 d) := (HO0.out.below HBW9.out (Nat.le_refl _)).toW (Nat.le_refl _) hx9
            clear h1 h2
            refine wp_region_late (S := 14) (by kernel_rfl) (Phi [.val (.int .i64 0), .val (.bool false), .val (.bool false), .val (.slice AG n2 cG), .val (.slice A10 m8 c10), .val (.bool false), .val (.bool true), .val (.bool true), .val (.slice AG n2 cG), lfRow0 w9.heap.size w.heap.size, .val (.slice A10 m8 c10), lfRow w9.heap.size w.heap.size fs, .val (.agg #[.int .i64 (x : Int), .slice A1 dm c1]), lfPair 58 (.int .i64 (x : Int)) (.slice A1 dm c1), lfRow w9.heap.size w.heap.size (fs ++ [((x : Int), d)]), .val (.bool true), .val (.bool false), .val (.bool false), .val (.bool false)]) (phi_stab _) (fun i => i == 9 || i == 11 || i == 13) ?fixd25 (by kernel_rfl) (backsB_spec (by kernel_rfl)) ?hex25 ?step25 ?last25 ?fin25
            case fixd25 =>
              intro i v w1 w2 hE hne h
              rcases (show i = 0 ∨ i = 1 ∨ i = 2 ∨ i = 3 ∨ i = 4 ∨ i = 5 ∨ i = 6 ∨ i = 7 ∨ i = 8 ∨ i = 9 ∨ i = 10 ∨ i = 11 ∨ i = 12 ∨ i = 13 ∨ i = 14 ∨ i = 15 ∨ i = 16 ∨ i = 17 ∨ i = 18 ∨ 19 ≤ i by omega) with rfl | rfl | rfl | rfl | rfl | rfl | rfl | rfl | rfl | rfl | rfl | rfl | rfl | rfl | rfl | rfl | rfl | rfl | rfl | hbig
              all_goals first | exact h | (exfalso; revert hE; decide) | exact absurd rfl hne | (unfold Phi; rw [List.getElem?_eq_none (by simpa using hbig)]; trivial)
            case hex25 =>
              intro i hE
              have hE2 : i = 9 ∨ i = 11 ∨ i = 13 := by simpa [or_assoc] using hE
              rcases hE2 with rfl | rfl | rfl
              · exact .inr ⟨11, by kernel_rfl, by kernel_rfl⟩
              · exact .inl (by kernel_rfl)
              · exact .inl (by kernel_rfl)
            case step25 =>
              intro i o listed a1 w2 hS14 ho hES hk hdep
              have hi : i < 19 := (Array.getElem?_eq_some_iff.1 ho).1
              have e10 := ev (show a1.eval (.tmp 10) = .slice A10 m8 c10 from hk.frame 10 (frame_of (by kernel_rfl)))
              have e18 := ev (show a1.eval (.tmp 18) = .pointer (some ⟨g18, 0, none⟩) from hk.frame 18 (frame_of (by kernel_rfl)))
              have e20 := ev (show a1.eval (.tmp 20) = .slice AG n2 cG from hk.frame 20 (frame_of (by kernel_rfl)))
              have e22 := ev (show a1.eval (.tmp 22) = .int .i64 0 from hk.frame 22 (frame_of (by kernel_rfl)))
              have hii : i = 0 ∨ i = 1 ∨ i = 2 ∨ i = 3 ∨ i = 4 ∨ i = 5 ∨ i = 6 ∨ i = 7 ∨ i = 8 ∨ i = 9 ∨ i = 10 ∨ i = 11 ∨ i = 12 ∨ i = 13 ∨ i = 14 ∨ i = 15 ∨ i = 16 ∨ i = 17 ∨ i = 18 := by omega
              rcases hii with rfl | rfl | rfl | rfl | rfl | rfl | rfl | rfl | rfl | rfl | rfl | rfl | rfl | rfl | rfl | rfl | rfl | rfl | rfl
              · cases ho
                refine ⟨rfl, wp_value (v := .int .i64 0) ?_ rfl⟩
                simp [execOp, e22, Act.eval]
              · cases ho
                have d0 := ev (show a1.eval (.tmp 103) = .int .i64 0 from hk.done 0 _ 103 rfl rfl (hdep ⟨0, .data⟩ (by simp) rfl) (.inl rfl))
                refine ⟨rfl, wp_value (v := .bool false) ?_ rfl⟩
                go_simp
              · cases ho
                have d1 := ev (show a1.eval (.tmp 104) = .bool false from hk.done 1 _ 104 rfl rfl (hdep ⟨1, .data⟩ (by simp) rfl) (.inl rfl))
                refine ⟨rfl, wp_value (v := .bool false) ?_ rfl⟩
                simp [execOp, d1, Act.eval]
              · cases ho
                refine ⟨(wanted_of (t := 105) rfl rfl (hk.done 2 _ 105 rfl rfl (hdep ⟨2, .guard⟩ (by simp) rfl) (.inl rfl))), wp_value (v := .slice AG n2 cG) ?_ rfl⟩
                simp [execOp, e20, Act.eval]
              · cases ho
                refine ⟨(wanted_of (t := 105) rfl rfl (hk.done 2 _ 105 rfl rfl (hdep ⟨2, .guard⟩ (by simp) rfl) (.inl rfl))), wp_value (v := .slice A10 m8 c10) ?_ rfl⟩
                simp [execOp, e10, Act.eval]
              · cases ho
                have d3 := ev (show a1.eval (.tmp 106) = .slice AG n2 cG from hk.done 3 _ 106 rfl rfl (hdep ⟨3, .data⟩ (by simp) rfl) (.inl rfl))
                have d4 := ev (show a1.eval (.tmp 107) = .slice A10 m8 c10 from hk.done 4 _ 107 rfl rfl (hdep ⟨4, .data⟩ (by simp) rfl) (.inl rfl))
                refine ⟨(wanted_of (t := 105) rfl rfl (hk.done 2 _ 105 rfl rfl (hdep ⟨2, .guard⟩ (by simp) rfl) (.inl rfl))), ?_⟩
                go_simp
                refine (HSM.out w2).mono ?_
                rintro e w3 ⟨rfl, rfl⟩
                exact ⟨_, rfl, rfl, Below.refl _ _⟩
              · cases ho
                have d5 := ev (show a1.eval (.tmp 108) = .bool false from hk.done 5 _ 108 rfl rfl (hdep ⟨5, .data⟩ (by simp) rfl) (.inl rfl))
                refine ⟨(wanted_of (t := 105) rfl rfl (hk.done 2 _ 105 rfl rfl (hdep ⟨2, .guard⟩ (by simp) rfl) (.inl rfl))), wp_value (v := .bool true) ?_ rfl⟩
                go_simp
              · cases ho
                have d6 := ev (show a1.eval (.tmp 109) = .bool true from hk.done 6 _ 109 rfl rfl (hdep ⟨6, .data⟩ (by simp) rfl) (.inl rfl))
                refine ⟨(wanted_of (t := 105) rfl rfl (hk.done 2 _ 105 rfl rfl (hdep ⟨2, .guard⟩ (by simp) rfl) (.inl rfl))), wp_value (v := .bool true) ?_ rfl⟩
                simp [execOp, d6, Act.eval]
              · cases ho
                refine ⟨(wanted_of (t := 110) rfl rfl (hk.done 7 _ 110 rfl rfl (hdep ⟨7, .guard⟩ (by simp) rfl) (.inl rfl))), wp_value (v := .slice AG n2 cG) ?_ rfl⟩
                simp [execOp, e20, Act.eval]
              · cases ho
                refine ⟨(wanted_of (t := 110) rfl rfl (hk.done 7 _ 110 rfl rfl (hdep ⟨7, .guard⟩ (by simp) rfl) (.inl rfl))), ?_⟩
                go_simp
                exact ⟨_, rfl, ⟨_, rfl, faRow_made w2 _ hk.below.size⟩, (Below.refl _ _).alloc (Nat.le_refl _) _⟩
              · cases ho
                refine ⟨(wanted_of (t := 110) rfl rfl (hk.done 7 _ 110 rfl rfl (hdep ⟨7, .guard⟩ (by simp) rfl) (.inl rfl))), wp_value (v := .slice A10 m8 c10) ?_ rfl⟩
                simp [execOp, e10, Act.eval]
              · cases ho
                have d10 := ev (show a1.eval (.tmp 113) = .slice A10 m8 c10 from hk.done 10 _ 113 rfl rfl (hdep ⟨10, .data⟩ (by simp) rfl) (.inl rfl))
                obtain ⟨gE, hvE, hfE9⟩ := hk.done 9 _ 112 rfl rfl (hdep ⟨9, .data⟩ (by simp) rfl) (.inr (hES rfl))
                have d9 := ev hvE
                have hfe := hfE9
                rw [show a1.eval (.tmp 112) = .slice (some ⟨gE, 0, none⟩) 0 0 from hvE] at hfe
                have hall := HF10.out.below hk.below
                obtain ⟨vN, wN, hrN, hfN, hbN⟩ := faRow_app (b0 := w.heap.size) (A := A10) (c := c10) (fs := fs) hfe (by rw [← HM8.out]; exact hall) (by have := HM8.out; omega) hk.below.size hx9 (Nat.le_refl _)
                rw [← HM8.out] at hrN
                exact ⟨(wanted_of (t := 110) rfl rfl (hk.done 7 _ 110 rfl rfl (hdep ⟨7, .guard⟩ (by simp) rfl) (.inl rfl))), Go.Lib.wp_append_run _ (.tmp 112) (.tmp 113) 43 43 rfl _ _ hvE (hk.done 10 _ 113 rfl rfl (hdep ⟨10, .data⟩ (by simp) rfl) (.inl rfl)) vN wN hrN ⟨vN, rfl, hfN, hbN⟩⟩
              · cases ho
                obtain ⟨q0, q1⟩ : w2.cell? ⟨g18, 0, none⟩ = some (.int .i64 (x : Int)) ∧ w2.cell? ⟨g18, 1, none⟩ = some (.slice A1 dm c1) := ⟨by rw [cell_of_row w2 _ 0 _ _ _ (box_at HX9.out hk.below)]; rfl, by rw [cell_of_row w2 _ 1 _ _ _ (box_at HX9.out hk.below)]; rfl⟩
                refine ⟨(wanted_of (t := 110) rfl rfl (hk.done 7 _ 110 rfl rfl (hdep ⟨7, .guard⟩ (by simp) rfl) (.inl rfl))), wp_value (v := .agg #[.int .i64 (x : Int), .slice A1 dm c1]) ?_ rfl⟩
                go_simp
              · cases ho
                have d12 := ev (show a1.eval (.tmp 115) = .agg #[.int .i64 (x : Int), .slice A1 dm c1] from hk.done 12 _ 115 rfl rfl (hdep ⟨12, .data⟩ (by simp) rfl) (.inl rfl))
                refine ⟨(wanted_of (t := 110) rfl rfl (hk.done 7 _ 110 rfl rfl (hdep ⟨7, .guard⟩ (by simp) rfl) (.inl rfl))), ?_⟩
                go_simp
                exact ⟨_, rfl, ⟨_, rfl, heap_alloc_new _ _⟩, (Below.refl _ _).alloc (Nat.le_refl _) _⟩
              · cases ho
                exact absurd rfl hS14
              · cases ho
                have d8 := ev (show a1.eval (.tmp 111) = .slice AG n2 cG from hk.done 8 _ 111 rfl rfl (hdep ⟨8, .data⟩ (by simp) rfl) (.inl rfl))
                obtain ⟨AN, cN, hvN, hcN⟩ := HSN.out w2 _ hk.below (hk.done 14 _ 117 rfl rfl (hdep ⟨14, .data⟩ (by simp) rfl) (.inl rfl))
                have d14 := ev hvN
                have HCN := Lib.hid hcN
                clear hcN
                refine ⟨(wanted_of (t := 110) rfl rfl (hk.done 7 _ 110 rfl rfl (hdep ⟨7, .guard⟩ (by simp) rfl) (.inl rfl))), ?_⟩
                go_simp
                refine HCN.out.mono ?_
                rintro e w3 ⟨rfl, hb2⟩
                exact ⟨_, rfl, rfl, hb2⟩
              · cases ho
                have d15 := ev (show a1.eval (.tmp 118) = .bool true from hk.done 15 _ 118 rfl rfl (hdep ⟨15, .data⟩ (by simp) rfl) (.inl rfl))
                refine ⟨(wanted_of (t := 110) rfl rfl (hk.done 7 _ 110 rfl rfl (hdep ⟨7, .guard⟩ (by simp) rfl) (.inl rfl))), wp_value (v := .bool false) ?_ rfl⟩
                go_simp
              · cases ho
                have d7 := ev (show a1.eval (.tmp 110) = .bool true from hk.done 7 _ 110 rfl rfl (hdep ⟨7, .data⟩ (by simp) rfl) (.inl rfl))
                have d16 := ev (show a1.eval (.tmp 119) = .bool false from hk.done 16 _ 119 rfl rfl (hdep ⟨16, .data⟩ (by simp) rfl) (.inl rfl))
                refine ⟨(wanted_of (t := 105) rfl rfl (hk.done 2 _ 105 rfl rfl (hdep ⟨2, .guard⟩ (by simp) rfl) (.inl rfl))), wp_value (v := .bool false) ?_ rfl⟩
                go_simp
              · cases ho
                have d2 := ev (show a1.eval (.tmp 105) = .bool false from hk.done 2 _ 105 rfl rfl (hdep ⟨2, .data⟩ (by simp) rfl) (.inl rfl))
                have d17 := ev (show a1.eval (.tmp 120) = .bool false from hk.done 17 _ 120 rfl rfl (hdep ⟨17, .data⟩ (by simp) rfl) (.inl rfl))
                refine ⟨rfl, wp_value (v := .bool false) ?_ rfl⟩
                go_simp
            case last25 =>
              intro o listed a1 w2 ho hS hk hdep
              cases ho
              have hrow : FaRow w2 w9.heap.size w.heap.size (a1.eval (.tmp 114)) fs := hk.done 11 _ 114 rfl rfl (hdep ⟨11, .data⟩ (by simp) rfl) (.inr hS)
              obtain ⟨gP, hvP, hgP⟩ := hk.done 13 _ 116 rfl rfl (hdep ⟨13, .data⟩ (by simp) rfl) (.inr hS)
              have how : OctsW w2 w.heap.size A1 d := HOW9.out.keep ⟨hk.below.size, fun b hb _ => hk.below.block b hb⟩
              obtain ⟨vN, wN, hrN, hfN, _, hbN, _⟩ := hrow.snoc gP (x : Int) A1 d c1 (by rw [cell_of_row w2 _ 0 _ _ _ hgP]; rfl) (by rw [cell_of_row w2 _ 1 _ _ _ hgP, hdm]; rfl) how (by rw [hdm]; exact hdc1) (by rw [hdm]; omega) (by omega) (by omega) (by have := HM8.out; omega) hk.below.size hx9
              exact ⟨(wanted_of (t := 110) rfl rfl (hk.done 7 _ 110 rfl rfl (hdep ⟨7, .guard⟩ (by simp) rfl) (.inl rfl))), Go.Lib.wp_append_run _ (.tmp 114) (.tmp 116) 43 43 rfl _ _ rfl hvP vN wN hrN ⟨vN, rfl, hfN, hk.below.trans hbN⟩⟩
            case fin25 =>
              intro listed a2 w2 hall hk
              have h121 : a2.eval (.tmp 121) = .bool false := hk.done 18 _ 121 rfl rfl (hall 18 (by decide)) (.inl rfl)
              have hact := fr_act [103, 104, 105, 106, 107, 108, 109, 110, 111, 112, 113, 114, 115, 116, 117, 118, 119, 120, 121] hk.size hk.defers (fun t ht => hk.frame t (dstsIn_spec (by kernel_rfl) t ht))
              have HB := Lib.hid hk.below
              simp only [List.foldl_cons, List.foldl_nil, List.setIfInBounds_toArray, List.set_cons_succ, List.set_cons_zero] at hact
              generalize a2.eval (.tmp 103) = u103 at hact
              generalize a2.eval (.tmp 104) = u104 at hact
              generalize a2.eval (.tmp 105) = u105 at hact
              generalize a2.eval (.tmp 106) = u106 at hact
              generalize a2.eval (.tmp 107) = u107 at hact
              generalize a2.eval (.tmp 108) = u108 at hact
              generalize a2.eval (.tmp 109) = u109 at hact
              generalize a2.eval (.tmp 110) = u110 at hact
              generalize a2.eval (.tmp 111) = u111 at hact
              generalize a2.eval (.tmp 112) = u112 at hact
              generalize a2.eval (.tmp 113) = u113 at hact
              generalize a2.eval (.tmp 114) = u114 at hact
              generalize a2.eval (.tmp 115) = u115 at hact
              generalize a2.eval (.tmp 116) = u116 at hact
              generalize a2.eval (.tmp 117) = u117 at hact
              generalize a2.eval (.tmp 118) = u118 at hact
              generalize a2.eval (.tmp 119) = u119 at hact
              generalize a2.eval (.tmp 120) = u120 at hact
              generalize a2.eval (.tmp 121) = u121 at hact h121
              rw [hact]
              clear hact
              go_wp2
              go_meet
              first | exact ⟨h121, HB.out⟩ | exact ⟨rfl, HB.out⟩
        case rest =>
        obtain ⟨rfl, hbc⟩ := hcut
        obtain ⟨wC, rfl⟩ : ∃ y, y = wc := ⟨wc, rfl⟩
        have hgb8 : g7 + 2 < base8 := by have := HB5.out.size; omega
        have hg21b : base8 ≤ g21 := by rw [HG21.out]; exact hb88
        have hbase8 : base ≤ base8 := by have := HJ5.out.hi; omega
        have HL21C : Hid (wC.heap[g21]? = some (lgo 2 16 (aq2 : Int) (xq2 : Int))) := by
          have h1 := box_at HL21.out hbc
          rw [← HG21.out] at h1
          exact h1
        have HD6C := Lib.hid (HD9.out.below hbc)
        have HFGC := Lib.hid (HFG.out.below hbc)
        have HLBC : Hid (∃ o, wC.heap[g7 + 2]? = some o ∧ Shp 1 o) := ⟨_, box_at HLB9.out hbc, shp1 _ _ _ _⟩
        have HL8C := Lib.hid (box_at HL89.out hbc)
        have HBWC : Hid (Below w.heap.size w wC) := HBW9.out.trans (hbc.mono HBW9.out.size)
        have hs9C := hbc.size
        have hs79 := HB79.out.size
        have hbasC : base ≤ wC.heap.size := by omega
        have hg7C : g7 + 2 < wC.heap.size := by omega
        clear hbc
        go_upto_region 27 with fail
        refine wp_region_acts (by kernel_rfl) (g7) (by omega) [kv (.slice AG n2 cG), kv (lgv 2 16 (aq2 : Int) (xq2 : Int)), kv (.slice AG n2 cG), lfLAt (g7 + 2) 2 16 (aq2 : Int) (xq2 : Int)] [122, 123, 10, 9] [none, none, none, some 1] rfl (fun (_ : Array Bool) (w' : World) => w'.heap[g21]? = some (lgo 2 16 (aq2 : Int) (xq2 : Int)) ∧ DBox w' g7 D6 0 ∧ FaRow w' base8 0 (.slice AG n2 cG) fs2 ∧ (∃ o, w'.heap[g7 + 2]? = some o ∧ Shp 1 o) ∧ w'.heap[g7 + 1]? = some (lgo 2 16 0 1)) ?hgam27 (by kernel_rfl) (backsB_spec (by kernel_rfl)) ?start27 ?step27  ?store27 ?fin27
        case hgam27 =>
          intro listed z9 w2 w3 hki hlo2 hb2 hg2
          obtain ⟨m1, m2, m3, ⟨o4, m4, m4s⟩, m5⟩ := hg2
          exact ⟨box_at m1 hb2, m2.below hb2, m3.below hb2, ⟨o4, box_at m4 hb2, m4s⟩, box_at m5 hb2⟩
        case start27 => exact ⟨HL21C.out, HD6C.out.below (below_dr0 _), HFGC.out.below (below_dr0 _), HLBC.out, HL8C.out⟩
        case step27 =>
          intro z9 p9 listed a1 w2 hki ho h0 hclo hk hdep
          have hz9 : z9 < 4 := (Array.getElem?_eq_some_iff.1 ho).1
          have e9 := ev (show a1.eval (.tmp 9) = .pointer (some ⟨g7 + 2, 0, none⟩) from hk.frame 9 (frame_of (by kernel_rfl)))
          have e20 := ev (show a1.eval (.tmp 20) = .slice AG n2 cG from hk.frame 20 (frame_of (by kernel_rfl)))
          have e21 := ev (show a1.eval (.tmp 21) = .pointer (some ⟨g21, 0, none⟩) from hk.frame 21 (frame_of (by kernel_rfl)))
          have hii : z9 = 0 ∨ z9 = 1 ∨ z9 = 2 ∨ z9 = 3 := by omega
          rcases hii with rfl | rfl | rfl | rfl
          · cases ho
            refine wpOp_of rfl rfl (wp_value (v := .slice AG n2 cG) ?_ rfl)
            simp [execOp, e20, Act.eval]
          · cases ho
            obtain ⟨k0, k1, k2, k3, kf⟩ := cells_log hk.gam.1
            refine wpOp_of rfl rfl (wp_value (v := lgv 2 16 (aq2 : Int) (xq2 : Int)) ?_ rfl)
            go_simp
          · cases ho
            have d0 := ev (show a1.eval (.tmp 122) = .slice AG n2 cG from hk.done 0 _ 122 rfl rfl (hdep ⟨0, .data⟩ (by simp) rfl))
            refine wpOp_of rfl rfl (wp_value (v := .slice AG n2 cG) ?_ rfl)
            simp [execOp, d0, Act.eval]
          · exact absurd hki (by simp)
        case store27 =>
          intro z9 K9 p9 listed a1 w2 hki ho h0 hclo hk hdep
          have hz9 : z9 < 4 := (Array.getElem?_eq_some_iff.1 ho).1
          have e9 := ev (show a1.eval (.tmp 9) = .pointer (some ⟨g7 + 2, 0, none⟩) from hk.frame 9 (frame_of (by kernel_rfl)))
          have e20 := ev (show a1.eval (.tmp 20) = .slice AG n2 cG from hk.frame 20 (frame_of (by kernel_rfl)))
          have e21 := ev (show a1.eval (.tmp 21) = .pointer (some ⟨g21, 0, none⟩) from hk.frame 21 (frame_of (by kernel_rfl)))
          have hii : z9 = 0 ∨ z9 = 1 ∨ z9 = 2 ∨ z9 = 3 := by omega
          rcases hii with rfl | rfl | rfl | rfl
          · exact absurd hki (by simp)
          · exact absurd hki (by simp)
          · exact absurd hki (by simp)
          · cases hki
            cases ho
            have d1 := ev (show a1.eval (.tmp 123) = lgv 2 16 (aq2 : Int) (xq2 : Int) from hk.done 1 _ 123 rfl rfl (hdep ⟨1, .data⟩ (by simp) rfl))
            obtain ⟨m1, m2, m3, ⟨o4, m4, m4s⟩, m5⟩ := hk.gam
            have M1 := Lib.hid m1
            have M2 := Lib.hid m2
            have M3 := Lib.hid m3
            have M4 := Lib.hid m4
            have M4s := Lib.hid m4s
            have M5 := Lib.hid m5
            obtain ⟨y0, y1, y2, y3, j0, j1, j2, j3, jf⟩ := cells_any1 m4 m4s
            clear m1 m2 m3 m4 m4s m5
            refine wpOp_of rfl rfl ?_
            go_simp
            have hrk := rk_log M4.out M4s.out 2 16 (aq2 : Int) (xq2 : Int)
            exact ⟨rfl, log_at M4.out M4s.out _ _ _ _, st4_below (Below.refl _ _) (by omega) _ _ _ _, hrk, (st4_far _ _ _ _ _ (by omega)).trans M1.out, M2.out.rk hfD6 (by decide) hrk, faRow_stS M3.out _ _ _ _ M4.out (.inr M4s.out) (by omega) (by omega), ⟨_, log_at M4.out M4s.out _ _ _ _, shp1 _ _ _ _⟩, (st4_far _ _ _ _ _ (by omega)).trans M5.out⟩
        case fin27 =>
          intro listed a2 w2 hall hk
          have hact := keptA_all [122, 123, 10] hk (by kernel_rfl)
          have h122 := hk.done 0 _ 122 rfl rfl (hall 0 (by decide))
          have h123 := hk.done 1 _ 123 rfl rfl (hall 1 (by decide))
          have h10 := hk.done 2 _ 10 rfl rfl (hall 2 (by decide))
          have s3 := hk.acts 3 _ rfl rfl (hall 3 (by decide))
          change PhK _ 3 (a2.eval (.tmp 9)) w2 at s3
          have HB := Lib.hid hk.below
          simp only [List.foldl_cons, List.foldl_nil, List.setIfInBounds_toArray, List.set_cons_succ, List.set_cons_zero] at hact
          generalize a2.eval (.tmp 122) = u122 at hact h122
          generalize a2.eval (.tmp 123) = u123 at hact h123
          generalize a2.eval (.tmp 10) = u10 at hact h10
          rw [hact]
          clear hact
          obtain rfl : u10 = .slice AG n2 cG := h10
          have HI7 : Hid (CO w g7 base D6 fs2 aq2 xq2 (.slice AG n2 cG) w2) := ⟨HCUT.out, hk.gam.2.1, hk.gam.2.2.2.2, s3, FaRow.up (FaRow.down hk.gam.2.2.1 hbase8) (Nat.zero_le _), HBWC.out.trans (HB.out.mono hgw), by have := HB.out.size; omega⟩
          obtain ⟨w6', rfl⟩ : ∃ x, x = w2 := ⟨w2, rfl⟩
          clear s3 hk h122 h123
          go_wp2_with fail
          go_roundw
          case rel => exact ⟨i + 1, D6, fs2, aq2, xq2, by omega, by go_num, HI7⟩
          case measure => simp [intOf]; omega
    · rw [decide_eq_false hlt] at hs36
      subst hs36
      clear hlt
      obtain ⟨A5, n5, c5, A5', m5, c5', L5, O5, hq5, hn5, hok5⟩ := HI8.out.box
      have HQ5 := Lib.hid hq5
      have hfD : Fit D 0 := HI8.out.cut.f
      have hcut6 : Cut ⟨done (keepB []) 0 D.W D.S, [], -1, false⟩ fs a x := by
        rw [HI8.out.cut.q.1]
        exact cut_of HI8.out.cut.s ((may_iff _ _ _).1 hfD.may).2.2.2.1 HI8.out.cut.h
      obtain ⟨D6, hD6⟩ : ∃ D6 : DD, D6 = ⟨done (keepB []) 0 D.W D.S, [], -1, false⟩ := ⟨_, rfl⟩
      have HCR : Hid (Calls Try.prog 28 #[dv A5 n5 c5 A5' m5 c5' L5 O5, .slice none 0 0] wr fun e w' => ∃ v', e = .returned v' ∧ Okd w' v' D6 ∧ Below wr.heap.size wr w') := by
        rw [hD6]
        exact crash_g (hok5.2 (.inl rfl)) hfD (by decide) none [] 0 (fun i h => absurd h (Nat.not_lt_zero _))
      rw [← hD6] at hcut6
      have HCUT := Lib.hid hcut6
      clear hq5 hok5 hcut6 hD6
      obtain ⟨k0, k1, k2, k3, kf⟩ := cells_of4 HQ5.out
      go_wp2_with fail
      refine HCR.out.mono ?_
      rintro e w6 ⟨v', rfl, hok6, hb6⟩
      have h20 : D6.S.length ≠ 64 := by rw [HCUT.out.s]; decide
      have hoe := OkE.of 0 hok6 h20
      obtain ⟨⟨Ax, nx, cx, Ax', mx, cx', Lx, Ox, rfl, hnx⟩, hx2⟩ := hoe
      have HOE : Hid (OkE w6 (dv Ax nx cx Ax' mx cx' Lx Ox) D6 0) := ⟨⟨_, _, _, _, _, _, _, _, rfl, hnx⟩, hx2⟩
      have HJ6 := Lib.hid (HI8.out.below hb6)
      have HB7 := Lib.hid (box_at HQ5.out hb6)
      have HS7 : Hid (Shp 0 (.cells #[.slice A5 n5 c5, .slice A5' m5 c5', .int .i64 L5, .bool O5] 25 (0, 0))) := shp0 _ _ _ _ _ _ _ _ hn5
      have hfD6 : Fit D6 0 := HCUT.out.f
      have hg7r : g7 + 2 < wr.heap.size := lt_of_at HI8.out.lb
      have hcs := HJ6.out
      have hs56 := hb6.size
      have hS : DBox (st4 w6 g7 (.slice Ax nx cx) (.slice Ax' mx cx') (.int .i64 Lx) (.bool Ox)) g7 D6 0 ∧ (st4 w6 g7 (.slice Ax nx cx) (.slice Ax' mx cx') (.int .i64 Lx) (.bool Ox)).heap[g7 + 1]? = some (lgo 2 16 0 1) ∧ (st4 w6 g7 (.slice Ax nx cx) (.slice Ax' mx cx') (.int .i64 Lx) (.bool Ox)).heap[g7 + 2]? = some (lgo 2 16 (a : Int) (x : Int)) ∧ FaRow (st4 w6 g7 (.slice Ax nx cx) (.slice Ax' mx cx') (.int .i64 Lx) (.bool Ox)) base w.heap.size (.slice A10 m8 c10) fs ∧ Below w.heap.size w (st4 w6 g7 (.slice Ax nx cx) (.slice Ax' mx cx') (.int .i64 Lx) (.bool Ox)) ∧ (st4 w6 g7 (.slice Ax nx cx) (.slice Ax' mx cx') (.int .i64 Lx) (.bool Ox)).heap.size = w6.heap.size :=
        ⟨dbox_st HB7.out HS7.out hfD6 hnx HOE.out, (st4_far _ _ _ _ _ (by omega)).trans hcs.l8, (st4_far _ _ _ _ _ (by omega)).trans hcs.lb, faRow_stS hcs.row _ _ _ _ HB7.out (.inl HS7.out) (by omega) (by omega), st4_below hcs.b (by omega) _ _ _ _, st4_size _ _ _ _ _ _⟩
      clear hok6 hx2 hcs k0 k1 k2 k3 kf
      obtain ⟨k0, k1, k2, k3, kf⟩ := cells_of4 HB7.out
      go_upto_region 29 with fail
      obtain ⟨w7, hw7⟩ : ∃ W, W = st4 w6 g7 (.slice Ax nx cx) (.slice Ax' mx cx') (.int .i64 Lx) (.bool Ox) := ⟨_, rfl⟩
      rw [← hw7] at hS
      first | rw [← hw7] | (unfold st4 at hw7; rw [← hw7])
      have HS := Lib.hid hS
      clear hS hw7 k0 k1 k2 k3 kf
      obtain ⟨AY, nY, cY, AY', mY, cY', LY, OY, hbY, hnY, hokY⟩ := HS.out.1
      have HBY := Lib.hid hbY
      have hokY1 := hokY.2 (.inl rfl)
      have HSC : Hid (Calls Try.prog 21 #[dv AY nY cY AY' mY cY' LY OY, lgv 2 16 0 1] w7 (ScanO w7 fs 2 16 a x)) := scan_own w7 _ D6 0 2 16 0 1 fs a x hokY1 hfD6 (by decide) HCUT.out.q.1 HCUT.out.q.2 (by decide) (by decide) (by decide) (by decide) (by rw [HCUT.out.s]; decide) (HCUT.out.h.scan (fit_sec hfD6))
      clear hbY hokY hokY1
      obtain ⟨k0, k1, k2, k3, kf⟩ := cells_of4 HBY.out
      obtain ⟨r0, r1, r2, r3, rf⟩ := cells_log HS.out.2.1
      go_wp2_with fail
      refine HSC.out.mono ?_
      rintro e w8 ⟨AG, cG, base8, rfl, hb78, hb88, hfaG, hcG, hcG2, hb8⟩
      rw [← HM8.out]
      clear k0 k1 k2 k3 kf r0 r1 r2 r3 rf
      obtain ⟨w9, hw9⟩ : ∃ w9, w9 = w8.alloc (lgo 2 16 (a : Int) (x : Int)) := ⟨_, rfl⟩
      have hb89 : Below w8.heap.size w8 w9 := by rw [hw9]; exact (Below.refl _ _).alloc (Nat.le_refl _) _
      have hl21 : w9.heap[w8.heap.size]? = some (lgo 2 16 (a : Int) (x : Int)) := by rw [hw9]; exact heap_alloc_new _ _
      have HW9 := Lib.hid hw9
      have HL21 := Lib.hid hl21
      have HB79 : Hid (Below w7.heap.size w7 w9) := hb8.trans (hb89.mono hb8.size)
      have HBW9 : Hid (Below w.heap.size w w9) := HS.out.2.2.2.2.1.trans (HB79.out.mono HS.out.2.2.2.2.1.size)
      have HLB9 := Lib.hid (box_at HS.out.2.2.1 HB79.out)
      have HSM : Hid (Calls Try.prog 23 #[.slice AG m8 cG, .slice A10 m8 c10] w9 fun e w' => e = .returned (.bool true) ∧ Below w9.heap.size w9 w') := by
        have h2 := (HS.out.2.2.2.1.below HB79.out).pend
        have h3 := (hfaG.below hb89).pend
        have := same6_any AG A10 cG c10 fs w9 h3 h2 (by have := HM8.out; omega)
        rw [← HM8.out] at this
        exact this
      clear hw9 hl21 hb8 hb89 hfaG hb78 hb88
      go_upto_region 30 with fail
      rw [← HW9.out]
      go_wp2_with fail
      refine HSM.out.mono ?_
      rintro e w24 ⟨rfl, hb24⟩
      have HX24 := Lib.hid hb24
      obtain ⟨k0, k1, k2, k3, kf⟩ := cells_log (box_at HL21.out hb24)
      obtain ⟨r0, r1, r2, r3, rf⟩ := cells_log (box_at HLB9.out hb24)
      clear hb24
      go_wp2_with fail
      refine (awake_any w24).mono ?_
      rintro e w25 ⟨rfl, hb25⟩
      have HB25 : Hid (Below w.heap.size w w25) := (HBW9.out.trans (HX24.out.mono HBW9.out.size)).trans (hb25.mono (by have := HX24.out.size; have := HBW9.out.size; omega))
      clear hb25 k0 k1 k2 k3 kf r0 r1 r2 r3 rf
      go_wp2_with fail
      go_ret
      exact ⟨rfl, HB25.out⟩
end Go.Proofs.Ytjcgggheablpeaa.Wal
