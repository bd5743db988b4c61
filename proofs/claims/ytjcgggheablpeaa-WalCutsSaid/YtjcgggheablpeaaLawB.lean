/- The walk of the law WalNumbers. -/
import Derived.Test.YtjcgggheablpeaaW14
import Derived.LoopTactic
namespace Go.Proofs.Ytjcgggheablpeaa.Wal
open Go.RowKit Dis Dis.Dk

/-- A row of octet rows. -/
def RowsN (w : World) (B : Nat) (A : Option Addr) (V : List (List UInt8)) : Prop :=
  ∀ (i : Nat) (hi : i < V.length), ∃ b o A' c, A = some ⟨b, o, none⟩ ∧ b < B ∧ w.cell? ⟨b, o + i, none⟩ = some (.slice A' V[i].length c) ∧ Octs w B A' V[i] ∧ V[i].length ≤ c ∧ V[i].length ≤ 9223372036854775807
/-- What a scan answers, but for where its records lie. -/
def lfSc (k : Nat) (lv : Value) : LeftK := ⟨fun v _ => ∃ A c, v = .tuple #[.slice A k c, lv, .int .i64 0], none, fun _ _ _ _ h => h, fun _ _ _ _ _ _ h => h⟩
def lfSl (k : Nat) : LeftK := ⟨fun v _ => ∃ A c, v = .slice A k c, none, fun _ _ _ _ h => h, fun _ _ _ _ _ _ h => h⟩
/-- What the loop keeps. -/
structure NI (w0 : World) (g7 base x0 : Nat) (D : DD) (fs : Ws) (ats : Ats) (a x : Nat) (v9 : Value) (wr : World) : Prop where
  led : Led D x0 fs ats a x
  box : QBox wr g7 D
  lb : wr.heap[g7 + 1]? = some (lgo 2 16 a x)
  row : LgRow wr base v9 ats
  b : Below w0.heap.size w0 wr
  hi : base ≤ wr.heap.size
theorem NI.below {w0 wr w' : World} {g7 base x0 : Nat} {D : DD} {fs : Ws} {ats : Ats} {a x : Nat} {v9 : Value} (h : NI w0 g7 base x0 D fs ats a x v9 wr) (hb : Below wr.heap.size wr w') : NI w0 g7 base x0 D fs ats a x v9 w' :=
  ⟨h.led, h.box.below hb, box_at h.lb hb, h.row.below hb, h.b.trans (hb.mono h.b.size), Nat.le_trans h.hi hb.size⟩
theorem at_first {D : DD} {x0 : Nat} {fs : Ws} {ats : Ats} {a x : Nat} (h : Led D x0 fs ats a x) (h0 : 0 < ats.length) : ats[0].1 = 0 ∧ ats[0].2 = x0 := by
  have hr0 := h.at_ 0 h0
  rw [List.take_zero] at hr0
  generalize ats[0].1 = q1 at hr0 ⊢
  generalize ats[0].2 = q2 at hr0 ⊢
  cases hr0
  exact ⟨rfl, rfl⟩
theorem scan_other {D : DD} {x0 : Nat} {fs : Ws} {ats : Ats} {a x : Nat} (h : Led D x0 fs ats a x) (h0 : 0 < ats.length) (xb : Nat) : ∃ G aG xG, Scans (16 : Nat) ((((D.S.drop 2).take 16).flatten).drop (64 * 0)) (0 : Nat) xb G aG xG ∧ (G.length = 0 ↔ xb ≠ x0) := by
  have hs := h.h.scan (fit_sec h.q.f)
  by_cases hx : xb = x0
  · subst hx
    exact ⟨fs, a, x, hs, fun h1 => absurd h1 (by have := h.n; omega), fun h1 => absurd rfl h1⟩
  · refine ⟨[], _, _, .stop fun hk => ?_, by simpa using hx⟩
    have hfs : fs ≠ [] := fun e => by have h1 := h.n; rw [e] at h1; simp only [List.length_nil] at h1; omega
    generalize (((D.S.drop 2).take 16).flatten).drop (64 * 0) = B at hs hk
    generalize ((0 : Nat) : Int) = a0 at hs hk
    generalize hq : (x0 : Int) = q0 at hs
    cases hs with
    | stop _ => exact hfs rfl
    | go h1 _ =>
      have e1 := h1.2.1
      have e2 := hk.2.1
      omega
theorem clear_done {D : DD} {x0 : Nat} {fs : Ws} {ats : Ats} {a x : Nat} (h : Led D x0 fs ats a x) (ak xk : Nat) (hak : ak < 16) (hx1 : 1 ≤ xk) (hx2 : xk ≤ 281474976710655) : clR D 2 16 ak xk = (⟨D.S.set (2 + ak) nz, [], -1, false⟩, 0) := by
  have hm : mayLB D.S D.W D.L (2 : Nat) (16 : Nat) ak xk = true := fit_may h.q.f (by decide) hak hx1 hx2 (by rw [h.q.s]; decide)
  have hm' : mayLB D.S D.W D.L 2 16 ak xk = true := hm
  unfold clR
  rw [hm', if_neg (by simp)]
  have e1 : ((2 : Int) + (ak : Int)).toNat = 2 + ak := by omega
  rw [e1]
  have hD : D = ⟨D.S, [], -1, false⟩ := by
    have h1 := h.q.q.1
    have h2 := h.q.q.2
    have h3 := h.q.l
    cases D
    simp only at h1 h2 h3
    subst h1 h2 h3
    rfl
  generalize hSS : D.S = S at hD ⊢
  rw [hD]
  unfold clSteps
  rw [runD, wrC_on rfl (.inl (by show (-1 : Int) < 0; decide)), if_pos rfl, runD, flD_on rfl (by simp [lfw]), if_pos rfl, runD]
  simp [wsA, done, lfw, e1]
theorem q20_set {D : DD} (h : Q20 D) (i : Nat) : Q20 ⟨D.S.set i nz, [], -1, false⟩ := by
  have hm := (may_iff _ _ _).1 h.f.may
  refine ⟨⟨rfl, rfl⟩, rfl, by simp; exact h.s, ⟨(may_iff _ _ _).2 ⟨by simpa using hm.1, by simpa using hm.2.1, by simp, fun b hb => ?_, fun p hp => by cases hp⟩, Nat.le_refl _, by simp, by simpa using h.f.two⟩⟩
  rcases List.mem_or_eq_of_mem_set hb with h1 | rfl
  · exact hm.2.2.2.1 b h1
  · exact nz_len
theorem blk_cell {w w' : World} {b j : Nat} (h : w'.heap[b]? = w.heap[b]?) : w'.cell? ⟨b, j, none⟩ = w.cell? ⟨b, j, none⟩ := by unfold World.cell?; rw [h]
set_option maxRecDepth 100000 in
set_option maxHeartbeats 16000000 in
theorem numbers_any (A : Option Addr) (V : List (List UInt8)) (c : Nat) (yb : Int) (cut : Nat) (w : World) (h : RowsN w w.heap.size A V) (hb1 : -128 ≤ yb) (hb2 : yb ≤ 127) (hcut : cut < 256) :
    Calls Try.prog 8 #[.slice A V.length c, .int .i8 yb, .int .u8 cut] w fun e w' => e = .returned (.bool true) ∧ Below w.heap.size w w' := by
  have HP := Lib.hid h
  obtain ⟨n, hn⟩ : ∃ n, n = V.length := ⟨_, rfl⟩
  have HN := Lib.hid hn
  rw [← hn]
  clear h hn
  go_enter Try.func8, Try.ntmps8
  go_wp2_with fail
  refine (some_any 20 w (by decide) (by decide) (by decide)).mono ?_
  rintro e w1 ⟨v, rfl, ⟨⟨A0, n0, c0, A0', m0, c0', L0, O0, rfl, hn0⟩, hok2⟩, hb1'⟩
  have hk := hok2 (.inl rfl)
  obtain ⟨rfl, rfl, rfl, rfl, rfl, rfl⟩ := okd_q hk q20_new
  obtain ⟨W2, hW2⟩ : ∃ W2, W2 = w1.alloc (qo A0 c0) := ⟨_, rfl⟩
  obtain ⟨W3, hW3⟩ : ∃ W3, W3 = W2.alloc (lgo 2 16 0 500) := ⟨_, rfl⟩
  have hb12 : Below w1.heap.size w1 W2 := by rw [hW2]; exact (Below.refl _ _).alloc (Nat.le_refl _) _
  have hb23 : Below W2.heap.size W2 W3 := by rw [hW3]; exact (Below.refl _ _).alloc (Nat.le_refl _) _
  have hs2 : W2.heap.size = w1.heap.size + 1 := by rw [hW2]; simp
  have hs3 : W3.heap.size = w1.heap.size + 2 := by rw [hW3]; simp; exact hs2
  have hx7 : W2.heap[w1.heap.size]? = some (qo A0 c0) := by rw [hW2]; exact heap_alloc_new _ _
  have hx8 : W3.heap[w1.heap.size + 1]? = some (lgo 2 16 0 500) := by rw [hW3, ← hs2]; exact heap_alloc_new _ _
  have hb13 := hb12.trans (hb23.mono hb12.size)
  have HI0 : Hid (NI w w1.heap.size W3.heap.size 500 (newD 20) [] [] 0 500 (.slice none 0 0) W3) := ⟨led_new 500, ⟨A0, c0, box_at hx7 hb23, hk.below hb13⟩, hx8, lgRow_nil _ _, hb1'.trans (hb13.mono hb1'.size), Nat.le_refl _⟩
  have HW2 := Lib.hid hW2
  have HW3 := Lib.hid hW3
  have hg7 : w.heap.size ≤ w1.heap.size := hb1'.size
  obtain ⟨g7, hg7e⟩ : ∃ g7, g7 = w1.heap.size := ⟨_, rfl⟩
  obtain ⟨base, hbase⟩ : ∃ base, base = W3.heap.size := ⟨_, rfl⟩
  rw [← hg7e, ← hbase] at HI0
  have hgb : g7 + 2 = base := by omega
  have hgw : w.heap.size ≤ g7 := by omega
  clear hok2 hk hb1' hb12 hb23 hs2 hs3 hx7 hx8 hb13 hW2 hW3 hg7
  go_upto_region 2 with fail
  rw [← HW2.out]
  go_upto_region 3 with fail
  rw [← HW3.out]
  have HG8 : Hid (W2.heap.size = g7 + 1) := by show _ = _; rw [HW2.out, hg7e]; simp
  rw [HG8.out, ← hg7e]
  clear HW2 HW3 HG8 hg7e hbase
  go_wp2_with fail
  go_loopw [9, 10] (fun s9 s10 wr => ∃ (i : Nat) (D : DD) (fs : Ws) (ats : Ats) (a x : Nat), i ≤ 9 ∧ s10 = .int .i64 i ∧ Hid (NI w g7 base 500 D fs ats a x s9 wr)) (fun _ s10 _ => 9 - (intOf s10).toNat)
  case atStart => exact ⟨0, newD 20, [], [], 0, 500, by decide, rfl, HI0⟩
  case round =>
    obtain ⟨i, D, fs, ats, a, x, hi9, rfl, HI⟩ := hrel
    clear HI0
    go_upto_region 5 with fail
    go_cut [33] from 26 to 55 (fun s33 wx => s33 = .bool (decide (i < n ∧ i < 9)) ∧ wr = wx)
    case first =>
      by_cases ha1 : (i : Int) < n
      · by_cases ha2 : (i : Int) < 9
        · go_wp2_with fail
          go_meet
          exact ⟨by rw [decide_eq_true (by omega)], rfl⟩
        · go_wp2_with fail
          go_meet
          exact ⟨by rw [decide_eq_false (by omega)], rfl⟩
      · go_wp2_with fail
        go_meet
        exact ⟨by rw [decide_eq_false (by omega)], rfl⟩
    case rest =>
    obtain ⟨hs33, rfl⟩ := hcut
    by_cases hlt : i < n ∧ i < 9
    · rw [decide_eq_true hlt] at hs33
      subst hs33
      obtain ⟨hlt1, hlt2⟩ := hlt
      obtain ⟨b, o, A1, c1, rfl, hbl, q0, hoct, hlc, hcm⟩ := HP.out i (by have := HN.out; omega)
      obtain ⟨l, hl⟩ : ∃ l, l = V[i]'(by have := HN.out; omega) := ⟨_, rfl⟩
      rw [← hl] at q0 hoct hlc hcm
      obtain ⟨ll, hll⟩ : ∃ ll, ll = l.length := ⟨_, rfl⟩
      obtain ⟨d, hd⟩ : ∃ d, d = fw6 l := ⟨_, rfl⟩
      obtain ⟨dm, hdm⟩ : ∃ dm, d.length = dm := ⟨_, rfl⟩
      have hd6 : dm ≤ 6001 := by rw [← hdm, hd]; exact fw6_len l
      have HFEW : Hid (∀ W, Calls Try.prog 11 #[.slice A1 ll c1] W fun e w' => e = .returned (.slice A1 dm c1) ∧ W = w') := fun W => by
        rw [hll, ← hdm, hd]
        exact few6_any A1 l c1 W hlc (by omega)
      have HQ0 : Hid (b < wr.heap.size ∧ wr.cell? ⟨b, o + i, none⟩ = some (.slice A1 ll c1)) := ⟨Nat.lt_of_lt_of_le hbl HI.out.b.size, by rw [hll]; exact (HI.out.b.cell (p := ⟨b, o + i, none⟩) hbl).trans q0⟩
      have HOD : Hid (Octs wr wr.heap.size A1 d) := by rw [hd]; exact fw6_octs ((hoct.below HI.out.b (Nat.le_refl _)).more HI.out.b.size)
      obtain ⟨Aq, cq, hbq, hokq⟩ := HI.out.box
      have HBQ := Lib.hid hbq
      have HOKQ := Lib.hid hokq
      have HLB := Lib.hid HI.out.lb
      have hli : (i : Int) < n := by omega
      have hbnd := HI.out.led.bounds
      have ha16 : a < 16 := hbnd.1
      have hx516 : x ≤ 516 := by omega
      have hfD : Fit D 0 := HI.out.led.q.f
      have hgwr : g7 + 1 < wr.heap.size := lt_of_at HI.out.lb
      clear hbl q0 hoct hlc hcm hl hll hd hbq hokq hbnd
      rcases hRRb : appR D 2 16 (a : Int) (x : Int) d with ⟨Eb, ⟨g0b, g1b, g2b, g3b⟩, eb⟩
      have hfEb : Fit Eb (0 + 500) := by have := (appR_fit 2 16 (a : Int) (x : Int) d hfD).1; rw [hRRb] at this; exact this
      have hsEb : Eb.S.length = (D).S.length := by have := (appR_fit 2 16 (a : Int) (x : Int) d hfD).2; rw [hRRb] at this; exact this
      have HAPb : Hid (∀ (W : World) (v : Value) (A : Option Addr) (c : Nat), Okd W v D → Octs W W.heap.size A d → Calls Try.prog 13 #[v, lgv 2 16 (a : Int) (x : Int), .slice A dm c] W fun e w' => ∃ v', e = .returned (.tuple #[v', lgv g0b g1b g2b g3b, .int .i64 eb]) ∧ OkE w' v' Eb eb ∧ Below W.heap.size W w') := fun W v A c h1 h2 => by
        have := append_at W v D 0 2 16 (a : Int) (x : Int) A d dm c hdm h1 hfD (by decide) (by rw [HI.out.led.q.s]; decide) (by decide) (by decide) (by omega) (by omega) (by omega) (by omega) (by decide) (by decide) h2 (by omega)
        unfold AppP at this
        rw [hRRb] at this
        exact this
      have HRRb := Lib.hid hRRb
      have HSEb := Lib.hid hsEb
      clear hRRb hsEb
      have HAC := Lib.hid (HI.out.led.app (by decide) (by decide) d HRRb.out)
      go_upto_region 7 with fail
      refine wp_region_acts (by kernel_rfl) (wr.heap.size) (Nat.le_refl _) [kv (qv Aq cq), kv (lgv 2 16 (a : Int) (x : Int)), kv (.slice (some ⟨b, o, none⟩) n c), kv (.int .i64 (i : Int)), kv (.pointer (some ⟨b, o + i, none⟩)), kv (.slice A1 ll c1), kv (.slice A1 dm c1), lfT3 Eb (0 + 500) hfEb (lgv g0b g1b g2b g3b) eb, lfT3 Eb (0 + 500) hfEb (lgv g0b g1b g2b g3b) eb, lfE Eb (0 + 500) hfEb eb, kv (lgv g0b g1b g2b g3b), kv (.int .i64 eb), lfBox 0 wr.heap.size, lfBox 1 wr.heap.size, lfSD wr.heap.size Eb (0 + 500) hfEb eb, lfSL wr.heap.size g0b g1b g2b g3b, kv (.int .i64 eb)] [37, 38, 39, 40, 41, 42, 43, 44, 36, 45, 46, 47, 11, 12, 11, 12, 13] [none, none, none, none, none, none, none, none, none, none, none, none, none, none, some 0, some 1, none] rfl (fun _ _ => True) ?hgam7 (by kernel_rfl) (backsB_spec (by kernel_rfl)) ?start7 ?step7  ?store7 ?fin7
      case hgam7 =>
        intro listed z9 w2 w3 hki hlo2 hb2 hg2
        exact trivial
      case start7 => exact trivial
      case step7 =>
        intro z9 p9 listed a1 w2 hki ho h0 hclo hk hdep
        have hz9 : z9 < 17 := (Array.getElem?_eq_some_iff.1 ho).1
        have e0 := ev (show a1.eval (.tmp 0) = .slice (some ⟨b, o, none⟩) n c from hk.frame 0 (frame_of (by kernel_rfl)))
        have e7 := ev (show a1.eval (.tmp 7) = .pointer (some ⟨g7, 0, none⟩) from hk.frame 7 (frame_of (by kernel_rfl)))
        have e8 := ev (show a1.eval (.tmp 8) = .pointer (some ⟨g7 + 1, 0, none⟩) from hk.frame 8 (frame_of (by kernel_rfl)))
        have e10 := ev (show a1.eval (.tmp 10) = .int .i64 (i : Int) from hk.frame 10 (frame_of (by kernel_rfl)))
        have hii : z9 = 0 ∨ z9 = 1 ∨ z9 = 2 ∨ z9 = 3 ∨ z9 = 4 ∨ z9 = 5 ∨ z9 = 6 ∨ z9 = 7 ∨ z9 = 8 ∨ z9 = 9 ∨ z9 = 10 ∨ z9 = 11 ∨ z9 = 12 ∨ z9 = 13 ∨ z9 = 14 ∨ z9 = 15 ∨ z9 = 16 := by omega
        rcases hii with rfl | rfl | rfl | rfl | rfl | rfl | rfl | rfl | rfl | rfl | rfl | rfl | rfl | rfl | rfl | rfl | rfl
        · cases ho
          obtain ⟨k0, k1, k2, k3, kf⟩ := cells_of4 (box_at HBQ.out hk.below)
          refine wpOp_of rfl rfl (wp_value (v := qv Aq cq) ?_ rfl)
          go_simp
        · cases ho
          obtain ⟨k0, k1, k2, k3, kf⟩ := cells_log (box_at HLB.out hk.below)
          refine wpOp_of rfl rfl (wp_value (v := lgv 2 16 (a : Int) (x : Int)) ?_ rfl)
          go_simp
        · cases ho
          refine wpOp_of rfl rfl (wp_value (v := .slice (some ⟨b, o, none⟩) n c) ?_ rfl)
          simp [execOp, e0, Act.eval]
        · cases ho
          refine wpOp_of rfl rfl (wp_value (v := .int .i64 (i : Int)) ?_ rfl)
          simp [execOp, e10, Act.eval]
        · cases ho
          have d2 := ev (show a1.eval (.tmp 39) = .slice (some ⟨b, o, none⟩) n c from hk.done 2 _ 39 rfl rfl (hdep ⟨2, .data⟩ (by simp) rfl))
          have d3 := ev (show a1.eval (.tmp 40) = .int .i64 (i : Int) from hk.done 3 _ 40 rfl rfl (hdep ⟨3, .data⟩ (by simp) rfl))
          refine wpOp_of rfl rfl (wp_value (v := .pointer (some ⟨b, o + i, none⟩)) ?_ rfl)
          go_simp
        · cases ho
          have d4 := ev (show a1.eval (.tmp 41) = .pointer (some ⟨b, o + i, none⟩) from hk.done 4 _ 41 rfl rfl (hdep ⟨4, .data⟩ (by simp) rfl))
          have q0 := (hk.below.cell (p := ⟨b, o + i, none⟩) HQ0.out.1).trans HQ0.out.2
          refine wpOp_of rfl rfl (wp_value (v := .slice A1 ll c1) ?_ rfl)
          go_simp
        · cases ho
          have d5 := ev (show a1.eval (.tmp 42) = .slice A1 ll c1 from hk.done 5 _ 42 rfl rfl (hdep ⟨5, .data⟩ (by simp) rfl))
          refine wpOp_of rfl rfl ?_
          go_simp
          refine (HFEW.out w2).mono ?_
          rintro e w3 ⟨rfl, rfl⟩
          exact ⟨_, rfl, rfl, Below.refl _ _⟩
        · cases ho
          have d0 := ev (show a1.eval (.tmp 37) = qv Aq cq from hk.done 0 _ 37 rfl rfl (hdep ⟨0, .data⟩ (by simp) rfl))
          have d1 := ev (show a1.eval (.tmp 38) = lgv 2 16 (a : Int) (x : Int) from hk.done 1 _ 38 rfl rfl (hdep ⟨1, .data⟩ (by simp) rfl))
          have d6 := ev (show a1.eval (.tmp 43) = .slice A1 dm c1 from hk.done 6 _ 43 rfl rfl (hdep ⟨6, .data⟩ (by simp) rfl))
          have hokx := HOKQ.out.below hk.below
          have hox := (HOD.out.below hk.below (Nat.le_refl _)).more hk.below.size
          have HC := Lib.hid (fun c => HAPb.out w2 _ _ c hokx hox)
          clear hokx hox
          refine wpOp_of rfl rfl ?_
          go_simp
          refine (HC.out _).mono ?_
          rintro e w3 ⟨v', rfl, hok3, hb3⟩
          exact ⟨_, rfl, ⟨_, rfl, hok3⟩, hb3⟩
        · cases ho
          obtain ⟨xx, hv, hx⟩ := hk.done 7 _ 44 rfl rfl (hdep ⟨7, .data⟩ (by simp) rfl)
          have d7 := ev hv
          refine wpOp_of rfl rfl (wp_value ?_ ⟨xx, rfl, hx⟩)
          simp [execOp, d7, Act.eval]
        · cases ho
          obtain ⟨xx, hv, hx⟩ := hk.done 8 _ 36 rfl rfl (hdep ⟨8, .data⟩ (by simp) rfl)
          have d8 := ev hv
          refine wpOp_of rfl rfl (wp_value (v := xx) ?_ hx)
          clear hx
          go_simp
        · cases ho
          obtain ⟨xx, hv, hx⟩ := hk.done 8 _ 36 rfl rfl (hdep ⟨8, .data⟩ (by simp) rfl)
          have d8 := ev hv
          clear hx
          refine wpOp_of rfl rfl (wp_value (v := lgv g0b g1b g2b g3b) ?_ rfl)
          go_simp
        · cases ho
          obtain ⟨xx, hv, hx⟩ := hk.done 8 _ 36 rfl rfl (hdep ⟨8, .data⟩ (by simp) rfl)
          have d8 := ev hv
          clear hx
          refine wpOp_of rfl rfl (wp_value (v := .int .i64 eb) ?_ rfl)
          go_simp
        · cases ho
          refine wpOp_of rfl rfl ?_
          go_simp
          exact ⟨_, rfl, ⟨_, _, rfl, hk.below.size, box_new _ _, shp0 _ _ _ _ _ _ _ _ (by decide)⟩, (Below.refl _ _).alloc (Nat.le_refl _) _⟩
        · cases ho
          refine wpOp_of rfl rfl ?_
          go_simp
          exact ⟨_, rfl, ⟨_, _, rfl, hk.below.size, box_new _ _, shp1 _ _ _ _⟩, (Below.refl _ _).alloc (Nat.le_refl _) _⟩
        · exact absurd hki (by simp)
        · exact absurd hki (by simp)
        · cases ho
          have d11 := ev (show a1.eval (.tmp 47) = .int .i64 eb from hk.done 11 _ 47 rfl rfl (hdep ⟨11, .data⟩ (by simp) rfl))
          refine wpOp_of rfl rfl (wp_value (v := .int .i64 eb) ?_ rfl)
          simp [execOp, d11, Act.eval]
      case store7 =>
        intro z9 K p9 listed a1 w2 hki ho h0 hclo hk hdep
        have hz9 : z9 < 17 := (Array.getElem?_eq_some_iff.1 ho).1
        have e0 := ev (show a1.eval (.tmp 0) = .slice (some ⟨b, o, none⟩) n c from hk.frame 0 (frame_of (by kernel_rfl)))
        have e7 := ev (show a1.eval (.tmp 7) = .pointer (some ⟨g7, 0, none⟩) from hk.frame 7 (frame_of (by kernel_rfl)))
        have e8 := ev (show a1.eval (.tmp 8) = .pointer (some ⟨g7 + 1, 0, none⟩) from hk.frame 8 (frame_of (by kernel_rfl)))
        have e10 := ev (show a1.eval (.tmp 10) = .int .i64 (i : Int) from hk.frame 10 (frame_of (by kernel_rfl)))
        have hii : z9 = 0 ∨ z9 = 1 ∨ z9 = 2 ∨ z9 = 3 ∨ z9 = 4 ∨ z9 = 5 ∨ z9 = 6 ∨ z9 = 7 ∨ z9 = 8 ∨ z9 = 9 ∨ z9 = 10 ∨ z9 = 11 ∨ z9 = 12 ∨ z9 = 13 ∨ z9 = 14 ∨ z9 = 15 ∨ z9 = 16 := by omega
        rcases hii with rfl | rfl | rfl | rfl | rfl | rfl | rfl | rfl | rfl | rfl | rfl | rfl | rfl | rfl | rfl | rfl | rfl
        · exact absurd hki (by simp)
        · exact absurd hki (by simp)
        · exact absurd hki (by simp)
        · exact absurd hki (by simp)
        · exact absurd hki (by simp)
        · exact absurd hki (by simp)
        · exact absurd hki (by simp)
        · exact absurd hki (by simp)
        · exact absurd hki (by simp)
        · exact absurd hki (by simp)
        · exact absurd hki (by simp)
        · exact absurd hki (by simp)
        · exact absurd hki (by simp)
        · exact absurd hki (by simp)
        · cases hki
          cases ho
          have hx : OkE w2 (a1.eval (.tmp 45)) Eb eb := hk.done 9 _ 45 rfl rfl (hdep ⟨9, .data⟩ (by simp) rfl)
          obtain ⟨⟨Ax, nx, cx, Ax', mx, cx', Lx, Ox, hv, hnx⟩, hx2⟩ := hx
          have d9 := ev hv
          have HX : Hid (OkE w2 (dv Ax nx cx Ax' mx cx' Lx Ox) Eb eb) := by rw [← hv]; exact ⟨⟨_, _, _, _, _, _, _, _, hv, hnx⟩, hx2⟩
          obtain ⟨g, o1, hg, hge, hgo, hgs⟩ := hk.done 12 _ 11 rfl rfl (hdep ⟨12, .data⟩ (by simp) rfl)
          have d12 := ev hg
          obtain ⟨y0, y1, y2, y3, j0, j1, j2, j3, jf⟩ := cells_any0 hgo hgs
          have HGO := Lib.hid hgo
          have HGS := Lib.hid hgs
          clear hx2 hgo hgs
          refine wpOp_of rfl rfl ?_
          go_simp
          exact ⟨rfl, ⟨g, hg, hge, dbox_st HGO.out HGS.out hfEb hnx HX.out⟩, st4_below (Below.refl _ _) hge _ _ _ _, rk_disk HGO.out HGS.out _ _ _ _ _ _ _ _ hnx, trivial⟩
        · cases hki
          cases ho
          have d10 := ev (show a1.eval (.tmp 46) = lgv g0b g1b g2b g3b from hk.done 10 _ 46 rfl rfl (hdep ⟨10, .data⟩ (by simp) rfl))
          obtain ⟨g, o1, hg, hge, hgo, hgs⟩ := hk.done 13 _ 12 rfl rfl (hdep ⟨13, .data⟩ (by simp) rfl)
          have d13 := ev hg
          obtain ⟨y0, y1, y2, y3, j0, j1, j2, j3, jf⟩ := cells_any1 hgo hgs
          refine wpOp_of rfl rfl ?_
          go_simp
          exact ⟨rfl, ⟨g, hg, hge, log_at hgo hgs _ _ _ _⟩, st4_below (Below.refl _ _) hge _ _ _ _, rk_log hgo hgs _ _ _ _, trivial⟩
        · exact absurd hki (by simp)
      case fin7 =>
        intro listed a2 w2 hall hk
        have hact := keptA_all [37, 38, 39, 40, 41, 42, 43, 44, 36, 45, 46, 47, 11, 12, 13] hk (by kernel_rfl)
        have h37 := hk.done 0 _ 37 rfl rfl (hall 0 (by decide))
        have h38 := hk.done 1 _ 38 rfl rfl (hall 1 (by decide))
        have h39 := hk.done 2 _ 39 rfl rfl (hall 2 (by decide))
        have h40 := hk.done 3 _ 40 rfl rfl (hall 3 (by decide))
        have h41 := hk.done 4 _ 41 rfl rfl (hall 4 (by decide))
        have h42 := hk.done 5 _ 42 rfl rfl (hall 5 (by decide))
        have h43 := hk.done 6 _ 43 rfl rfl (hall 6 (by decide))
        have h44 := hk.done 7 _ 44 rfl rfl (hall 7 (by decide))
        have h36 := hk.done 8 _ 36 rfl rfl (hall 8 (by decide))
        have h45 := hk.done 9 _ 45 rfl rfl (hall 9 (by decide))
        have h46 := hk.done 10 _ 46 rfl rfl (hall 10 (by decide))
        have h47 := hk.done 11 _ 47 rfl rfl (hall 11 (by decide))
        have h11 := hk.done 12 _ 11 rfl rfl (hall 12 (by decide))
        have h12 := hk.done 13 _ 12 rfl rfl (hall 13 (by decide))
        have h13 := hk.done 16 _ 13 rfl rfl (hall 16 (by decide))
        have s14 := hk.acts 14 _ rfl rfl (hall 14 (by decide))
        change PhK _ 14 (a2.eval (.tmp 11)) w2 at s14
        have s15 := hk.acts 15 _ rfl rfl (hall 15 (by decide))
        change PhK _ 15 (a2.eval (.tmp 12)) w2 at s15
        have HB := Lib.hid hk.below
        simp only [List.foldl_cons, List.foldl_nil, List.setIfInBounds_toArray, List.set_cons_succ, List.set_cons_zero] at hact
        generalize a2.eval (.tmp 37) = u37 at hact h37
        generalize a2.eval (.tmp 38) = u38 at hact h38
        generalize a2.eval (.tmp 39) = u39 at hact h39
        generalize a2.eval (.tmp 40) = u40 at hact h40
        generalize a2.eval (.tmp 41) = u41 at hact h41
        generalize a2.eval (.tmp 42) = u42 at hact h42
        generalize a2.eval (.tmp 43) = u43 at hact h43
        generalize a2.eval (.tmp 44) = u44 at hact h44
        generalize a2.eval (.tmp 36) = u36 at hact h36
        generalize a2.eval (.tmp 45) = u45 at hact h45
        generalize a2.eval (.tmp 46) = u46 at hact h46
        generalize a2.eval (.tmp 47) = u47 at hact h47
        generalize a2.eval (.tmp 11) = u11 at hact h11 s14
        generalize a2.eval (.tmp 12) = u12 at hact h12 s15
        generalize a2.eval (.tmp 13) = u13 at hact h13
        rw [hact]
        clear hact
        obtain ⟨g11, rfl, hg11, hd11⟩ := s14
        obtain ⟨g12, rfl, hg12, hl12⟩ := s15
        obtain rfl : u13 = .int .i64 eb := h13
        obtain ⟨w4, rfl⟩ : ∃ x, x = w2 := ⟨w2, rfl⟩
        have HI4 := Lib.hid (HI.out.below HB.out)
        have hs4 := HB.out.size
        have HD11 := Lib.hid hd11
        have HL12 := Lib.hid hl12
        have hg11l : g11 < w4.heap.size := by obtain ⟨_, _, _, _, _, _, _, _, h1, _⟩ := hd11; exact lt_of_at h1
        have hg12l := lt_of_at hl12
        clear hk hd11 hl12 h11 h12 h37 h38 h39 h40 h41 h42 h43 h44 h36 h45 h46 h47
        rcases HAC.out with ⟨rfl, _⟩ | ⟨rfl, _⟩ | ⟨rfl, a', rfl, rfl, rfl, rfl, hled⟩
        · go_wp2_with fail
          go_roundw
          case rel => exact ⟨i + 1, D, fs, ats, a, x, by omega, by go_num, HI4⟩
          case measure => simp [intOf]; omega
        · go_wp2_with fail
          go_roundw
          case rel => exact ⟨i + 1, D, fs, ats, a, x, by omega, by go_num, HI4⟩
          case measure => simp [intOf]; omega
        · have HLED := Lib.hid hled
          have HQB := Lib.hid (qbox_of HD11.out hled.q)
          obtain ⟨U, hU⟩ : ∃ U, U = w4.alloc (lgo 2 16 a x) := ⟨_, rfl⟩
          have hbU : Below w4.heap.size w4 U := by rw [hU]; exact (Below.refl _ _).alloc (Nat.le_refl _) _
          have hxU : U.heap[w4.heap.size]? = some (lgo 2 16 a x) := by rw [hU]; exact heap_alloc_new _ _
          obtain ⟨p0, p1, p2, p3, pf⟩ := cells_log hxU
          have hbas4 := HI4.out.hi
          have hatn : ats.length ≤ 16 := by have h1 := HI.out.led.bounds; have h2 := HI.out.led.n; omega
          obtain ⟨v', w5, hr5, hrow5, hb5, hg5⟩ := (HI4.out.row.below hbU).snoc w4.heap.size a x p0 p1 p2 p3 (by omega) (by have := hbU.size; omega)
          have hne : ∀ g', g' < U.heap.size → wr.heap.size ≤ g' → w5.heap[g']? = U.heap[g']? := fun g' h1 h2 => hg5.block g' h1 (fun e => by have := HI.out.row.lt e.symm; omega)
          have hUs := hbU.size
          have HQB5 : Hid (QBox w5 g11 Eb) := by
            obtain ⟨A5, c5, h1, h2⟩ := HQB.out.below hbU
            exact ⟨A5, c5, (hne g11 (by omega) hg11).trans h1, h2.grown hg5 (HI4.out.row.below hbU).mute (by rw [hled.q.s]; decide) hled.q.q.1⟩
          have HL5 : Hid (w5.heap[g12]? = some (lgo 2 16 (a' : Int) ((x + 1 : Nat) : Int))) := (hne g12 (by omega) hg12).trans (box_at HL12.out hbU)
          have H75 : Hid (∃ o, w5.heap[g7]? = some o ∧ Shp 0 o) := by
            obtain ⟨A5, c5, h1, _⟩ := HI4.out.box.below hbU
            exact ⟨_, (hb5.block g7 (by omega)).trans h1, shp0 _ _ _ _ _ _ _ _ (by decide)⟩
          have H85 : Hid (∃ o, w5.heap[g7 + 1]? = some o ∧ Shp 1 o) := ⟨_, (hb5.block (g7 + 1) (by omega)).trans (box_at HI4.out.lb hbU), shp1 _ _ _ _⟩
          have HB05 : Hid (Below w.heap.size w w5) := (HI4.out.b.trans (hbU.mono HI4.out.b.size)).trans (hb5.mono (by omega))
          have HROW5 := Lib.hid hrow5
          have hs5 : U.heap.size ≤ w5.heap.size := hg5.size
          have HR5 := Lib.hid hr5
          rw [hU] at HR5
          have HLB4 := Lib.hid HI4.out.lb
          clear hled hU hbU hxU p0 p1 p2 p3 pf hr5 hrow5 hb5 hg5 hne HD11
          obtain ⟨k0, k1, k2, k3, kf⟩ := cells_log HLB4.out
          go_upto_region 10 with (first
            | (at_builtin; refine Go.Lib.wpList_append_run _ rfl (.tmp 50) (.tmp 52) 56 56 rfl _ _ rfl rfl v' w5 HR5.out ?_))
          clear k0 k1 k2 k3 kf
          obtain ⟨A5, c5, hq5, hok5⟩ := HQB5.out
          have HQ5 := Lib.hid hq5
          have HOK5 := Lib.hid hok5
          have hfE : Fit Eb 0 := HLED.out.q.f
          clear hq5 hok5
          refine wp_region_acts (by kernel_rfl) (g7) (by omega) [kv (qv A5 c5), kv (lgv 2 16 (a' : Int) ((x + 1 : Nat) : Int)), lfDAt g7 Eb 0 hfE 0, lfLAt (g7 + 1) 2 16 (a' : Int) ((x + 1 : Nat) : Int)] [54, 55, 7, 8] [none, none, some 0, some 1] rfl (fun (_ : Array Bool) (w' : World) => w'.heap[g11]? = some (qo A5 c5) ∧ Okd w' (qv A5 c5) Eb ∧ w'.heap[g12]? = some (lgo 2 16 (a' : Int) ((x + 1 : Nat) : Int)) ∧ LgRow w' base v' (ats ++ [(a, x)]) ∧ (∃ o, w'.heap[g7]? = some o ∧ Shp 0 o) ∧ (∃ o, w'.heap[g7 + 1]? = some o ∧ Shp 1 o)) ?hgam10 (by kernel_rfl) (backsB_spec (by kernel_rfl)) ?start10 ?step10  ?store10 ?fin10
          case hgam10 =>
            intro listed z9 w2 w3 hki hlo2 hb2 hg2
            obtain ⟨m1, m2, m3, m4, ⟨o5, m5, m5s⟩, ⟨o6, m6, m6s⟩⟩ := hg2
            exact ⟨box_at m1 hb2, m2.below hb2, box_at m3 hb2, m4.below hb2, ⟨o5, box_at m5 hb2, m5s⟩, ⟨o6, box_at m6 hb2, m6s⟩⟩
          case start10 => exact ⟨HQ5.out, HOK5.out.below (below_dr0 _), HL5.out, HROW5.out.below (below_dr0 _), H75.out, H85.out⟩
          case step10 =>
            intro z9 p9 listed a1 w2 hki ho h0 hclo hk hdep
            have hz9 : z9 < 4 := (Array.getElem?_eq_some_iff.1 ho).1
            have e7 := ev (show a1.eval (.tmp 7) = .pointer (some ⟨g7, 0, none⟩) from hk.frame 7 (frame_of (by kernel_rfl)))
            have e8 := ev (show a1.eval (.tmp 8) = .pointer (some ⟨g7 + 1, 0, none⟩) from hk.frame 8 (frame_of (by kernel_rfl)))
            have e11 := ev (show a1.eval (.tmp 11) = .pointer (some ⟨g11, 0, none⟩) from hk.frame 11 (frame_of (by kernel_rfl)))
            have e12 := ev (show a1.eval (.tmp 12) = .pointer (some ⟨g12, 0, none⟩) from hk.frame 12 (frame_of (by kernel_rfl)))
            have hii : z9 = 0 ∨ z9 = 1 ∨ z9 = 2 ∨ z9 = 3 := by omega
            rcases hii with rfl | rfl | rfl | rfl
            · cases ho
              obtain ⟨k0, k1, k2, k3, kf⟩ := cells_of4 hk.gam.1
              refine wpOp_of rfl rfl (wp_value (v := qv A5 c5) ?_ rfl)
              go_simp
            · cases ho
              obtain ⟨k0, k1, k2, k3, kf⟩ := cells_log hk.gam.2.2.1
              refine wpOp_of rfl rfl (wp_value (v := lgv 2 16 (a' : Int) ((x + 1 : Nat) : Int)) ?_ rfl)
              go_simp
            · exact absurd hki (by simp)
            · exact absurd hki (by simp)
          case store10 =>
            intro z9 K p9 listed a1 w2 hki ho h0 hclo hk hdep
            have hz9 : z9 < 4 := (Array.getElem?_eq_some_iff.1 ho).1
            have e7 := ev (show a1.eval (.tmp 7) = .pointer (some ⟨g7, 0, none⟩) from hk.frame 7 (frame_of (by kernel_rfl)))
            have e8 := ev (show a1.eval (.tmp 8) = .pointer (some ⟨g7 + 1, 0, none⟩) from hk.frame 8 (frame_of (by kernel_rfl)))
            have e11 := ev (show a1.eval (.tmp 11) = .pointer (some ⟨g11, 0, none⟩) from hk.frame 11 (frame_of (by kernel_rfl)))
            have e12 := ev (show a1.eval (.tmp 12) = .pointer (some ⟨g12, 0, none⟩) from hk.frame 12 (frame_of (by kernel_rfl)))
            have hii : z9 = 0 ∨ z9 = 1 ∨ z9 = 2 ∨ z9 = 3 := by omega
            rcases hii with rfl | rfl | rfl | rfl
            · exact absurd hki (by simp)
            · exact absurd hki (by simp)
            · cases hki
              cases ho
              have d0 := ev (show a1.eval (.tmp 54) = qv A5 c5 from hk.done 0 _ 54 rfl rfl (hdep ⟨0, .data⟩ (by simp) rfl))
              obtain ⟨m1, m2, m3, m4, ⟨o5, m5, m5s⟩, ⟨o6, m6, m6s⟩⟩ := hk.gam
              have M1 := Lib.hid m1
              have M2 := Lib.hid m2
              have M3 := Lib.hid m3
              have M4 := Lib.hid m4
              have M5 := Lib.hid m5
              have M5s := Lib.hid m5s
              have M6 := Lib.hid m6
              have M6s := Lib.hid m6s
              obtain ⟨y0, y1, y2, y3, j0, j1, j2, j3, jf⟩ := cells_any0 m5 m5s
              clear m1 m2 m3 m4 m5 m5s m6 m6s
              refine wpOp_of rfl rfl ?_
              go_simp
              have hrk := rk_disk M5.out M5s.out A5 20 c5 none 0 0 (-1) false (by decide)
              exact ⟨rfl, dbox_st M5.out M5s.out hfE (by decide) (OkE.of 0 M2.out (by rw [HLED.out.q.s]; decide)), st4_below (Below.refl _ _) (Nat.le_refl _) _ _ _ _, hrk, (st4_far _ _ _ _ _ (by omega)).trans M1.out, M2.out.rk hfE hrk, (st4_far _ _ _ _ _ (by omega)).trans M3.out, M4.out.st4 _ _ _ _ (by omega), ⟨_, disk_at M5.out M5s.out _ _ _ _ _ _ _ _, shp0 _ _ _ _ _ _ _ _ (by decide)⟩, ⟨_, (st4_far _ _ _ _ _ (by omega)).trans M6.out, M6s.out⟩⟩
            · cases hki
              cases ho
              have d1 := ev (show a1.eval (.tmp 55) = lgv 2 16 (a' : Int) ((x + 1 : Nat) : Int) from hk.done 1 _ 55 rfl rfl (hdep ⟨1, .data⟩ (by simp) rfl))
              obtain ⟨m1, m2, m3, m4, ⟨o5, m5, m5s⟩, ⟨o6, m6, m6s⟩⟩ := hk.gam
              have M1 := Lib.hid m1
              have M2 := Lib.hid m2
              have M3 := Lib.hid m3
              have M4 := Lib.hid m4
              have M5 := Lib.hid m5
              have M5s := Lib.hid m5s
              have M6 := Lib.hid m6
              have M6s := Lib.hid m6s
              obtain ⟨y0, y1, y2, y3, j0, j1, j2, j3, jf⟩ := cells_any1 m6 m6s
              clear m1 m2 m3 m4 m5 m5s m6 m6s
              refine wpOp_of rfl rfl ?_
              go_simp
              have hrk := rk_log M6.out M6s.out 2 16 (a' : Int) ((x + 1 : Nat) : Int)
              exact ⟨rfl, log_at M6.out M6s.out _ _ _ _, st4_below (Below.refl _ _) (by omega) _ _ _ _, hrk, (st4_far _ _ _ _ _ (by omega)).trans M1.out, M2.out.rk hfE hrk, (st4_far _ _ _ _ _ (by omega)).trans M3.out, M4.out.st4 _ _ _ _ (by omega), ⟨_, (st4_far _ _ _ _ _ (by omega)).trans M5.out, M5s.out⟩, ⟨_, log_at M6.out M6s.out _ _ _ _, shp1 _ _ _ _⟩⟩
          case fin10 =>
            intro listed a2 w2 hall hk
            have hact := keptA_all [54, 55] hk (by kernel_rfl)
            have h54 := hk.done 0 _ 54 rfl rfl (hall 0 (by decide))
            have h55 := hk.done 1 _ 55 rfl rfl (hall 1 (by decide))
            have s2 := hk.acts 2 _ rfl rfl (hall 2 (by decide))
            change PhK _ 2 (a2.eval (.tmp 7)) w2 at s2
            have s3 := hk.acts 3 _ rfl rfl (hall 3 (by decide))
            change PhK _ 3 (a2.eval (.tmp 8)) w2 at s3
            have HB := Lib.hid hk.below
            simp only [List.foldl_cons, List.foldl_nil, List.setIfInBounds_toArray, List.set_cons_succ, List.set_cons_zero] at hact
            generalize a2.eval (.tmp 54) = u54 at hact h54
            generalize a2.eval (.tmp 55) = u55 at hact h55
            rw [hact]
            clear hact
            have HI6 : Hid (NI w g7 base 500 Eb (fs ++ [((x : Int), d)]) (ats ++ [(a, x)]) a' (x + 1) v' w2) := ⟨HLED.out, qbox_of s2 HLED.out.q, s3, hk.gam.2.2.2.1, HB05.out.trans (HB.out.mono hgw), by have := HB.out.size; omega⟩
            obtain ⟨w6, rfl⟩ : ∃ x, x = w2 := ⟨w2, rfl⟩
            clear s2 s3 hk h54 h55
            go_wp2_with fail
            go_roundw
            case rel => exact ⟨i + 1, Eb, _, _, a', x + 1, by omega, by go_num, HI6⟩
            case measure => simp [intOf]; omega
    · rw [decide_eq_false hlt] at hs33
      subst hs33
      obtain ⟨A9, c9, rfl, hc9, hc99⟩ := HI.out.row.form
      obtain ⟨m9, hm9⟩ : ∃ m9, m9 = ats.length := ⟨_, rfl⟩
      have HM9 := Lib.hid hm9
      rw [← hm9] at hc9 ⊢
      have hmb : m9 ≤ 16 := by have h1 := HI.out.led.bounds; have h2 := HI.out.led.n; omega
      have HROW : Hid (LgRow wr base (.slice A9 m9 c9) ats) := by show LgRow _ _ _ _; rw [hm9]; exact HI.out.row
      clear hm9 hlt
      by_cases h0 : m9 = 0
      · subst h0
        go_wp2_with fail
        refine (awake_any wr).mono ?_
        rintro e w12 ⟨rfl, hb12⟩
        have HB12 := Lib.hid (HI.out.b.trans (hb12.mono HI.out.b.size))
        clear hb12
        go_wp2_with fail
        go_ret
        exact ⟨rfl, HB12.out⟩
      · have h0' : ((m9 : Int) == 0) = false := by simp; omega
        have hpos : 0 < ats.length := by have := HM9.out; omega
        obtain ⟨g9, rfl, hg9, f0, f1, f2, f3⟩ := HROW.out.at_ (i := 0) hpos
        obtain ⟨e1, e2⟩ := at_first HI.out.led hpos
        rw [e1] at f2
        rw [e2] at f3
        simp only [Nat.zero_mul, Nat.zero_add] at f0 f1 f2 f3
        have f2' : wr.cell? ⟨g9, 2, none⟩ = some (.int .i64 0) := f2
        have f3' : wr.cell? ⟨g9, 3, none⟩ = some (.int .i64 500) := f3
        clear f2 f3 e1 e2
        have hm1 : (0 : Int) < (m9 : Int) := by omega
        obtain ⟨xb, hxb⟩ : ∃ xb : Nat, 500 + yb = (xb : Int) := ⟨(500 + yb).toNat, by omega⟩
        go_upto_region 15 with fail
        obtain ⟨G, aG, xG, hSG, hG⟩ := scan_other HI.out.led hpos xb
        obtain ⟨gl, hgl⟩ : ∃ gl, gl = G.length := ⟨_, rfl⟩
        have HGL : Hid (gl = 0 ↔ yb ≠ 0) := by show _ ↔ _; rw [hgl, hG]; omega
        obtain ⟨Aq, cq, hbq, hokq⟩ := HI.out.box
        obtain ⟨W15, hW15⟩ : ∃ W15, W15 = wr.alloc (lgo 2 16 0 (xb : Int)) := ⟨_, rfl⟩
        have hb15 : Below wr.heap.size wr W15 := by rw [hW15]; exact (Below.refl _ _).alloc (Nat.le_refl _) _
        have HX14 : Hid (W15.heap[wr.heap.size]? = some (lgo 2 16 0 (xb : Int))) := by show _ = _; rw [hW15]; exact heap_alloc_new _ _
        have HBQ := Lib.hid (box_at hbq hb15)
        have HOKQ := Lib.hid (hokq.below hb15)
        have HB15 := Lib.hid (HI.out.b.trans (hb15.mono HI.out.b.size))
        have HR15 := Lib.hid (HROW.out.below hb15)
        have hs15 := hb15.size
        have HSC := Lib.hid (fun (W : World) (hb : Below W15.heap.size W15 W) => scan_any W (qv Aq cq) D 0 2 16 0 xb G aG xG (HOKQ.out.below hb) HI.out.led.q.f (by decide) HI.out.led.q.q.1 HI.out.led.q.q.2 (by decide) (by decide) (by omega) (by omega) (by rw [HI.out.led.q.s]; decide) hSG)
        have HW15 := Lib.hid hW15
        clear hSG hG hbq hokq hb15 hW15 hxb f0 f1 f2' f3'
        rw [← HW15.out]
        obtain ⟨k0, k1, k2, k3, kf⟩ := cells_log HX14.out
        obtain ⟨p0, p1, p2, p3, pf⟩ := cells_of4 HBQ.out
        go_wp2_with fail
        refine (HSC.out W15 (Below.refl _ _)).mono ?_
        rintro e w16 ⟨AG, cG, rfl, -, -, -, hb16⟩
        rw [← hgl]
        obtain ⟨W17, hW17⟩ : ∃ W17, W17 = w16.alloc (lgo 2 16 aG xG) := ⟨_, rfl⟩
        have hb17 : Below w16.heap.size w16 W17 := by rw [hW17]; exact (Below.refl _ _).alloc (Nat.le_refl _) _
        have hb157 := hb16.trans (hb17.mono hb16.size)
        have HBQ7 := Lib.hid (box_at HBQ.out hb157)
        have HOK7 := Lib.hid (HOKQ.out.below hb157)
        have HB17 := Lib.hid (HB15.out.trans (hb157.mono HB15.out.size))
        have HR17 := Lib.hid (HR15.out.below hb157)
        have HW17 := Lib.hid hW17
        clear hgl hb16 hb17 hb157 hW17 k0 k1 k2 k3 kf p0 p1 p2 p3 pf HSC HX14
        go_upto_region 16 with fail
        rw [← HW17.out]
        go_cut [85] from 76 to 85 (fun s85 wx => s85 = .bool false ∧ W17 = wx)
        case first =>
          by_cases hy : yb = 0
          · subst hy
            have hg0 : ((gl : Int) == 0) = false := by
              have : ¬ gl = 0 := fun e => (HGL.out.1 e) rfl
              simp; omega
            go_wp2_with fail
            go_meet
            exact ⟨rfl, rfl⟩
          · have hg0 : gl = 0 := HGL.out.2 hy
            subst hg0
            have hy' : (yb == 0) = false := by simpa using hy
            have hy2 : (yb != 0) = true := by simpa using hy
            have HY2 := Lib.hid hy2
            clear hy2
            go_wp2_with fail
            go_meet
            exact ⟨by rw [HY2.out]; rfl, rfl⟩
        case rest =>
        obtain ⟨hs85, rfl⟩ := hcut
        subst hs85
        obtain ⟨kk, hkk⟩ : ∃ kk : Nat, (cut : Int) % (m9 : Int) = (kk : Int) := ⟨cut % m9, by omega⟩
        have hkm : kk < m9 := by have := Int.emod_lt_of_pos (cut : Int) hm1; omega
        have hmz : (m9 : Int) ≠ 0 := by omega
        have hkl : kk < ats.length := by have := HM9.out; omega
        go_upto_region 19 with fail
        rw [hkk]
        obtain ⟨g9', hg9e, hg9', f0, f1, f2, f3⟩ := HR17.out.at_ (i := kk) hkl
        cases hg9e
        have hrk := HI.out.led.at_ kk hkl
        obtain ⟨ak, hak⟩ : ∃ ak, ak = ats[kk].1 := ⟨_, rfl⟩
        obtain ⟨xk, hxk⟩ : ∃ xk, xk = ats[kk].2 := ⟨_, rfl⟩
        rw [← hak] at f2 hrk
        rw [← hxk] at f3 hrk
        have HCK : Hid (g9 < W17.heap.size ∧ W17.cell? ⟨g9, kk * 4, none⟩ = some (.int .i64 2) ∧ W17.cell? ⟨g9, kk * 4 + 1, none⟩ = some (.int .i64 16) ∧ W17.cell? ⟨g9, kk * 4 + 2, none⟩ = some (.int .i64 (ak : Int)) ∧ W17.cell? ⟨g9, kk * 4 + 3, none⟩ = some (.int .i64 (xk : Int))) := ⟨hg9', f0, f1, f2, f3⟩
        have HRK := Lib.hid hrk
        have hlek := hrk.le
        have hbn := HI.out.led.bounds
        have hsp : Recs ak xk (fs.drop kk) a x := HI.out.led.h.r.split (List.take_append_drop kk fs).symm hrk
        have hak16 : ak < 16 := by have := hsp.le; omega
        have hxkb : 1 ≤ xk ∧ xk ≤ 600 := by
          have h1 : (fs.take kk).length ≤ 16 := by rw [List.length_take]; omega
          omega
        have hcl := clear_done HI.out.led ak xk hak16 hxkb.1 (by omega)
        have hhold : Holds (D.S.set (2 + ak) nz) 2 16 0 500 (fs.take kk) ak xk := by
          have h1 := HI.out.led.h
          rw [← List.take_append_drop kk fs] at h1
          exact h1.clear (fit_sec HI.out.led.q.f) hrk
        have hklen : (fs.take kk).length = kk := by rw [List.length_take]; have := HI.out.led.n; omega
        obtain ⟨C, hC⟩ : ∃ C : DD, C = ⟨D.S.set (2 + ak) nz, [], -1, false⟩ := ⟨_, rfl⟩
        have hCq : Q20 C := by rw [hC]; exact q20_set HI.out.led.q _
        have hCh : Holds C.S 2 16 0 500 (fs.take kk) ak xk := by rw [hC]; exact hhold
        have HCLR : Hid (∀ (W : World), Okd W (qv Aq cq) D → Calls Try.prog 24 #[qv Aq cq, lgv 2 16 (ak : Int) (xk : Int)] W fun e w' => ∃ v', e = .returned (.tuple #[v', .int .i64 0]) ∧ OkE w' v' C 0 ∧ Below W.heap.size W w') := fun W hok => by
          have := clear_any W (qv Aq cq) D 0 2 16 ak xk hok HI.out.led.q.f (by decide) (by rw [HI.out.led.q.s]; decide) (by decide) (by omega) (by decide) (by decide)
          unfold ClP at this
          rw [hcl, ← hC] at this
          exact this
        have hfC : Fit C 0 := hCq.f
        have HCQ := Lib.hid hCq
        have HCH := Lib.hid hCh
        have HKL := Lib.hid hklen
        have hkm' : (kk : Int) < (m9 : Int) := by omega
        clear f0 f1 f2 f3 hrk hak hxk hlek hbn hsp hcl hhold hC hCq hCh hklen
        refine wp_region_acts (by kernel_rfl) (W17.heap.size) (Nat.le_refl _) [kv (qv Aq cq), kv (.slice (some ⟨g9, 0, none⟩) m9 c9), kv (.int .i64 (kk : Int)), kv (.pointer (some ⟨g9, kk * 4, none⟩)), kv (lgv 2 16 (ak : Int) (xk : Int)), lfT2 C 0 hfC 0, lfT2 C 0 hfC 0, lfE C 0 hfC 0, kv (.int .i64 0), lfBox 0 W17.heap.size, lfSD W17.heap.size C 0 hfC 0, kv (.int .i64 0)] [92, 93, 94, 95, 96, 97, 91, 98, 99, 19, 19, 20] [none, none, none, none, none, none, none, none, none, none, some 0, none] rfl (fun _ _ => True) ?hgam19 (by kernel_rfl) (backsB_spec (by kernel_rfl)) ?start19 ?step19  ?store19 ?fin19
        case hgam19 =>
          intro listed z9 w2 w3 hki hlo2 hb2 hg2
          exact trivial
        case start19 => exact trivial
        case step19 =>
          intro z9 p9 listed a1 w2 hki ho h0 hclo hk hdep
          have hz9 : z9 < 12 := (Array.getElem?_eq_some_iff.1 ho).1
          have e7 := ev (show a1.eval (.tmp 7) = .pointer (some ⟨g7, 0, none⟩) from hk.frame 7 (frame_of (by kernel_rfl)))
          have e9 := ev (show a1.eval (.tmp 9) = .slice (some ⟨g9, 0, none⟩) m9 c9 from hk.frame 9 (frame_of (by kernel_rfl)))
          have e18 := ev (show a1.eval (.tmp 18) = .int .i64 (kk : Int) from hk.frame 18 (frame_of (by kernel_rfl)))
          have hii : z9 = 0 ∨ z9 = 1 ∨ z9 = 2 ∨ z9 = 3 ∨ z9 = 4 ∨ z9 = 5 ∨ z9 = 6 ∨ z9 = 7 ∨ z9 = 8 ∨ z9 = 9 ∨ z9 = 10 ∨ z9 = 11 := by omega
          rcases hii with rfl | rfl | rfl | rfl | rfl | rfl | rfl | rfl | rfl | rfl | rfl | rfl
          · cases ho
            obtain ⟨k0, k1, k2, k3, kf⟩ := cells_of4 (box_at HBQ7.out hk.below)
            refine wpOp_of rfl rfl (wp_value (v := qv Aq cq) ?_ rfl)
            go_simp
          · cases ho
            refine wpOp_of rfl rfl (wp_value (v := .slice (some ⟨g9, 0, none⟩) m9 c9) ?_ rfl)
            simp [execOp, e9, Act.eval]
          · cases ho
            refine wpOp_of rfl rfl (wp_value (v := .int .i64 (kk : Int)) ?_ rfl)
            simp [execOp, e18, Act.eval]
          · cases ho
            have d1 := ev (show a1.eval (.tmp 93) = .slice (some ⟨g9, 0, none⟩) m9 c9 from hk.done 1 _ 93 rfl rfl (hdep ⟨1, .data⟩ (by simp) rfl))
            have d2 := ev (show a1.eval (.tmp 94) = .int .i64 (kk : Int) from hk.done 2 _ 94 rfl rfl (hdep ⟨2, .data⟩ (by simp) rfl))
            refine wpOp_of rfl rfl (wp_value (v := .pointer (some ⟨g9, kk * 4, none⟩)) ?_ rfl)
            go_simp
          · cases ho
            have d3 := ev (show a1.eval (.tmp 95) = .pointer (some ⟨g9, kk * 4, none⟩) from hk.done 3 _ 95 rfl rfl (hdep ⟨3, .data⟩ (by simp) rfl))
            obtain ⟨z1, z2, z3, z4, z5⟩ := HCK.out
            have y2 := (hk.below.cell (p := ⟨g9, kk * 4, none⟩) z1).trans z2
            have y3 := (hk.below.cell (p := ⟨g9, kk * 4 + 1, none⟩) z1).trans z3
            have y4 := (hk.below.cell (p := ⟨g9, kk * 4 + 2, none⟩) z1).trans z4
            have y5 := (hk.below.cell (p := ⟨g9, kk * 4 + 3, none⟩) z1).trans z5
            clear z1 z2 z3 z4 z5
            refine wpOp_of rfl rfl (wp_value (v := lgv 2 16 (ak : Int) (xk : Int)) ?_ rfl)
            go_simp
          · cases ho
            have d0 := ev (show a1.eval (.tmp 92) = qv Aq cq from hk.done 0 _ 92 rfl rfl (hdep ⟨0, .data⟩ (by simp) rfl))
            have d4 := ev (show a1.eval (.tmp 96) = lgv 2 16 (ak : Int) (xk : Int) from hk.done 4 _ 96 rfl rfl (hdep ⟨4, .data⟩ (by simp) rfl))
            have HC := Lib.hid (HCLR.out w2 (HOK7.out.below hk.below))
            refine wpOp_of rfl rfl ?_
            go_simp
            refine HC.out.mono ?_
            rintro e w3 ⟨v', rfl, hok3, hb3⟩
            exact ⟨_, rfl, ⟨_, rfl, hok3⟩, hb3⟩
          · cases ho
            obtain ⟨xx, hv, hx⟩ := hk.done 5 _ 97 rfl rfl (hdep ⟨5, .data⟩ (by simp) rfl)
            have d5 := ev hv
            refine wpOp_of rfl rfl (wp_value ?_ ⟨xx, rfl, hx⟩)
            simp [execOp, d5, Act.eval]
          · cases ho
            obtain ⟨xx, hv, hx⟩ := hk.done 6 _ 91 rfl rfl (hdep ⟨6, .data⟩ (by simp) rfl)
            have d6 := ev hv
            refine wpOp_of rfl rfl (wp_value (v := xx) ?_ hx)
            clear hx
            go_simp
          · cases ho
            obtain ⟨xx, hv, hx⟩ := hk.done 6 _ 91 rfl rfl (hdep ⟨6, .data⟩ (by simp) rfl)
            have d6 := ev hv
            clear hx
            refine wpOp_of rfl rfl (wp_value (v := .int .i64 0) ?_ rfl)
            go_simp
          · cases ho
            refine wpOp_of rfl rfl ?_
            go_simp
            exact ⟨_, rfl, ⟨_, _, rfl, hk.below.size, box_new _ _, shp0 _ _ _ _ _ _ _ _ (by decide)⟩, (Below.refl _ _).alloc (Nat.le_refl _) _⟩
          · exact absurd hki (by simp)
          · cases ho
            have d8 := ev (show a1.eval (.tmp 99) = .int .i64 0 from hk.done 8 _ 99 rfl rfl (hdep ⟨8, .data⟩ (by simp) rfl))
            refine wpOp_of rfl rfl (wp_value (v := .int .i64 0) ?_ rfl)
            simp [execOp, d8, Act.eval]
        case store19 =>
          intro z9 K p9 listed a1 w2 hki ho h0 hclo hk hdep
          have hz9 : z9 < 12 := (Array.getElem?_eq_some_iff.1 ho).1
          have e7 := ev (show a1.eval (.tmp 7) = .pointer (some ⟨g7, 0, none⟩) from hk.frame 7 (frame_of (by kernel_rfl)))
          have e9 := ev (show a1.eval (.tmp 9) = .slice (some ⟨g9, 0, none⟩) m9 c9 from hk.frame 9 (frame_of (by kernel_rfl)))
          have e18 := ev (show a1.eval (.tmp 18) = .int .i64 (kk : Int) from hk.frame 18 (frame_of (by kernel_rfl)))
          have hii : z9 = 0 ∨ z9 = 1 ∨ z9 = 2 ∨ z9 = 3 ∨ z9 = 4 ∨ z9 = 5 ∨ z9 = 6 ∨ z9 = 7 ∨ z9 = 8 ∨ z9 = 9 ∨ z9 = 10 ∨ z9 = 11 := by omega
          rcases hii with rfl | rfl | rfl | rfl | rfl | rfl | rfl | rfl | rfl | rfl | rfl | rfl
          · exact absurd hki (by simp)
          · exact absurd hki (by simp)
          · exact absurd hki (by simp)
          · exact absurd hki (by simp)
          · exact absurd hki (by simp)
          · exact absurd hki (by simp)
          · exact absurd hki (by simp)
          · exact absurd hki (by simp)
          · exact absurd hki (by simp)
          · exact absurd hki (by simp)
          · cases hki
            cases ho
            have hx : OkE w2 (a1.eval (.tmp 98)) C 0 := hk.done 7 _ 98 rfl rfl (hdep ⟨7, .data⟩ (by simp) rfl)
            obtain ⟨⟨Ax, nx, cx, Ax', mx, cx', Lx, Ox, hv, hnx⟩, hx2⟩ := hx
            have d7 := ev hv
            have HX : Hid (OkE w2 (dv Ax nx cx Ax' mx cx' Lx Ox) C 0) := by rw [← hv]; exact ⟨⟨_, _, _, _, _, _, _, _, hv, hnx⟩, hx2⟩
            obtain ⟨g, o1, hg, hge, hgo, hgs⟩ := hk.done 9 _ 19 rfl rfl (hdep ⟨9, .data⟩ (by simp) rfl)
            have d9 := ev hg
            obtain ⟨y0, y1, y2, y3, j0, j1, j2, j3, jf⟩ := cells_any0 hgo hgs
            have HGO := Lib.hid hgo
            have HGS := Lib.hid hgs
            clear hx2 hgo hgs
            refine wpOp_of rfl rfl ?_
            go_simp
            exact ⟨rfl, ⟨g, hg, hge, dbox_st HGO.out HGS.out hfC hnx HX.out⟩, st4_below (Below.refl _ _) hge _ _ _ _, rk_disk HGO.out HGS.out _ _ _ _ _ _ _ _ hnx, trivial⟩
          · exact absurd hki (by simp)
        case fin19 =>
          intro listed a2 w2 hall hk
          have hact := keptA_all [92, 93, 94, 95, 96, 97, 91, 98, 99, 19, 20] hk (by kernel_rfl)
          have h92 := hk.done 0 _ 92 rfl rfl (hall 0 (by decide))
          have h93 := hk.done 1 _ 93 rfl rfl (hall 1 (by decide))
          have h94 := hk.done 2 _ 94 rfl rfl (hall 2 (by decide))
          have h95 := hk.done 3 _ 95 rfl rfl (hall 3 (by decide))
          have h96 := hk.done 4 _ 96 rfl rfl (hall 4 (by decide))
          have h97 := hk.done 5 _ 97 rfl rfl (hall 5 (by decide))
          have h91 := hk.done 6 _ 91 rfl rfl (hall 6 (by decide))
          have h98 := hk.done 7 _ 98 rfl rfl (hall 7 (by decide))
          have h99 := hk.done 8 _ 99 rfl rfl (hall 8 (by decide))
          have h19 := hk.done 9 _ 19 rfl rfl (hall 9 (by decide))
          have h20 := hk.done 11 _ 20 rfl rfl (hall 11 (by decide))
          have s10 := hk.acts 10 _ rfl rfl (hall 10 (by decide))
          change PhK _ 10 (a2.eval (.tmp 19)) w2 at s10
          have HB := Lib.hid hk.below
          simp only [List.foldl_cons, List.foldl_nil, List.setIfInBounds_toArray, List.set_cons_succ, List.set_cons_zero] at hact
          generalize a2.eval (.tmp 92) = u92 at hact h92
          generalize a2.eval (.tmp 93) = u93 at hact h93
          generalize a2.eval (.tmp 94) = u94 at hact h94
          generalize a2.eval (.tmp 95) = u95 at hact h95
          generalize a2.eval (.tmp 96) = u96 at hact h96
          generalize a2.eval (.tmp 97) = u97 at hact h97
          generalize a2.eval (.tmp 91) = u91 at hact h91
          generalize a2.eval (.tmp 98) = u98 at hact h98
          generalize a2.eval (.tmp 99) = u99 at hact h99
          generalize a2.eval (.tmp 19) = u19 at hact h19 s10
          generalize a2.eval (.tmp 20) = u20 at hact h20
          rw [hact]
          clear hact
          obtain rfl : u20 = .int .i64 0 := h20
          obtain ⟨g19, rfl, hg19, hd19⟩ := s10
          obtain ⟨w19, rfl⟩ : ∃ x, x = w2 := ⟨w2, rfl⟩
          have HQ19 := Lib.hid (qbox_of hd19 HCQ.out)
          have HB19 := Lib.hid (HB17.out.trans (HB.out.mono HB17.out.size))
          have HR19 := Lib.hid (HR17.out.below HB.out)
          have HB1720 : Hid (Below W17.heap.size W17 w19) := HB.out
          clear hd19 hk h19 h92 h93 h94 h95 h96 h97 h91 h98 h99
          obtain ⟨A5, c5, hq5, hok5⟩ := HQ19.out
          have HQ5 := Lib.hid hq5
          have HOK5 := Lib.hid hok5
          obtain ⟨g9', hg9e, hg9'', f0, f1, f2, f3⟩ := HR19.out.at_ (i := 0) hpos
          cases hg9e
          obtain ⟨e1, e2⟩ := at_first HI.out.led hpos
          rw [e1] at f2
          rw [e2] at f3
          simp only [Nat.zero_mul, Nat.zero_add] at f0 f1 f2 f3
          have HC0 : Hid (g9 < w19.heap.size ∧ w19.cell? ⟨g9, 0, none⟩ = some (.int .i64 2) ∧ w19.cell? ⟨g9, 1, none⟩ = some (.int .i64 16) ∧ w19.cell? ⟨g9, 2, none⟩ = some (.int .i64 0) ∧ w19.cell? ⟨g9, 3, none⟩ = some (.int .i64 500)) := ⟨hg9'', f0, f1, f2, f3⟩
          have HSC : Hid (∀ (W : World), Okd W (qv A5 c5) C → Calls Try.prog 21 #[qv A5 c5, lgv 2 16 0 500] W fun e w' => ∃ A c, e = .returned (.tuple #[.slice A kk c, lgv 2 16 (ak : Int) (xk : Int), .int .i64 0]) ∧ Below W.heap.size W w') := fun W hok => by
            have := scan_any W (qv A5 c5) C 0 2 16 0 500 (fs.take kk) ak xk hok hfC (by decide) HCQ.out.q.1 HCQ.out.q.2 (by decide) (by decide) (by decide) (by decide) (by rw [HCQ.out.s]; decide) (HCH.out.scan (fit_sec hfC))
            refine this.mono ?_
            rintro e w' ⟨A, c, he, _, _, _, hb⟩
            rw [HKL.out] at he
            exact ⟨A, c, he, hb⟩
          clear hq5 hok5 f0 f1 f2 f3 e1 e2
          go_upto_region 20 with fail
          refine wp_region_acts (by kernel_rfl) (w19.heap.size) (Nat.le_refl _) [kv (qv A5 c5), kv (.slice (some ⟨g9, 0, none⟩) m9 c9), kv (.pointer (some ⟨g9, 0, none⟩)), kv (lgv 2 16 0 500), lfSc kk (lgv 2 16 (ak : Int) (xk : Int)), lfSc kk (lgv 2 16 (ak : Int) (xk : Int)), lfSl kk, kv (lgv 2 16 (ak : Int) (xk : Int)), kv (.int .i64 0), lfBox 1 w19.heap.size, lfSl kk, lfSL w19.heap.size 2 16 (ak : Int) (xk : Int), kv (.int .i64 0)] [101, 102, 103, 104, 105, 100, 106, 107, 108, 22, 21, 22, 23] [none, none, none, none, none, none, none, none, none, none, none, some 1, none] rfl (fun _ _ => True) ?hgam20 (by kernel_rfl) (backsB_spec (by kernel_rfl)) ?start20 ?step20  ?store20 ?fin20
          case hgam20 =>
            intro listed z9 w2 w3 hki hlo2 hb2 hg2
            exact trivial
          case start20 => exact trivial
          case step20 =>
            intro z9 p9 listed a1 w2 hki ho h0 hclo hk hdep
            have hz9 : z9 < 13 := (Array.getElem?_eq_some_iff.1 ho).1
            have e9 := ev (show a1.eval (.tmp 9) = .slice (some ⟨g9, 0, none⟩) m9 c9 from hk.frame 9 (frame_of (by kernel_rfl)))
            have e19 := ev (show a1.eval (.tmp 19) = .pointer (some ⟨g19, 0, none⟩) from hk.frame 19 (frame_of (by kernel_rfl)))
            have hii : z9 = 0 ∨ z9 = 1 ∨ z9 = 2 ∨ z9 = 3 ∨ z9 = 4 ∨ z9 = 5 ∨ z9 = 6 ∨ z9 = 7 ∨ z9 = 8 ∨ z9 = 9 ∨ z9 = 10 ∨ z9 = 11 ∨ z9 = 12 := by omega
            rcases hii with rfl | rfl | rfl | rfl | rfl | rfl | rfl | rfl | rfl | rfl | rfl | rfl | rfl
            · cases ho
              obtain ⟨k0, k1, k2, k3, kf⟩ := cells_of4 (box_at HQ5.out hk.below)
              refine wpOp_of rfl rfl (wp_value (v := qv A5 c5) ?_ rfl)
              go_simp
            · cases ho
              refine wpOp_of rfl rfl (wp_value (v := .slice (some ⟨g9, 0, none⟩) m9 c9) ?_ rfl)
              simp [execOp, e9, Act.eval]
            · cases ho
              have d1 := ev (show a1.eval (.tmp 102) = .slice (some ⟨g9, 0, none⟩) m9 c9 from hk.done 1 _ 102 rfl rfl (hdep ⟨1, .data⟩ (by simp) rfl))
              refine wpOp_of rfl rfl (wp_value (v := .pointer (some ⟨g9, 0, none⟩)) ?_ rfl)
              go_simp
            · cases ho
              have d2 := ev (show a1.eval (.tmp 103) = .pointer (some ⟨g9, 0, none⟩) from hk.done 2 _ 103 rfl rfl (hdep ⟨2, .data⟩ (by simp) rfl))
              obtain ⟨z1, z2, z3, z4, z5⟩ := HC0.out
              have y2 := (hk.below.cell (p := ⟨g9, 0, none⟩) z1).trans z2
              have y3 := (hk.below.cell (p := ⟨g9, 1, none⟩) z1).trans z3
              have y4 := (hk.below.cell (p := ⟨g9, 2, none⟩) z1).trans z4
              have y5 := (hk.below.cell (p := ⟨g9, 3, none⟩) z1).trans z5
              clear z1 z2 z3 z4 z5
              refine wpOp_of rfl rfl (wp_value (v := lgv 2 16 0 500) ?_ rfl)
              go_simp
            · cases ho
              have d0 := ev (show a1.eval (.tmp 101) = qv A5 c5 from hk.done 0 _ 101 rfl rfl (hdep ⟨0, .data⟩ (by simp) rfl))
              have d3 := ev (show a1.eval (.tmp 104) = lgv 2 16 0 500 from hk.done 3 _ 104 rfl rfl (hdep ⟨3, .data⟩ (by simp) rfl))
              have HC := Lib.hid (HSC.out w2 (HOK5.out.below hk.below))
              refine wpOp_of rfl rfl ?_
              go_simp
              refine HC.out.mono ?_
              rintro e w3 ⟨AA, cc, rfl, hb3⟩
              exact ⟨_, rfl, ⟨_, _, rfl⟩, hb3⟩
            · cases ho
              obtain ⟨AA, cc, hv⟩ := hk.done 4 _ 105 rfl rfl (hdep ⟨4, .data⟩ (by simp) rfl)
              have d4 := ev hv
              refine wpOp_of rfl rfl (wp_value ?_ ⟨AA, cc, rfl⟩)
              simp [execOp, d4, Act.eval]
            · cases ho
              obtain ⟨AA, cc, hv⟩ := hk.done 5 _ 100 rfl rfl (hdep ⟨5, .data⟩ (by simp) rfl)
              have d5 := ev hv
              refine wpOp_of rfl rfl (wp_value (v := .slice AA kk cc) ?_ ⟨AA, cc, rfl⟩)
              go_simp
            · cases ho
              obtain ⟨AA, cc, hv⟩ := hk.done 5 _ 100 rfl rfl (hdep ⟨5, .data⟩ (by simp) rfl)
              have d5 := ev hv
              refine wpOp_of rfl rfl (wp_value (v := lgv 2 16 (ak : Int) (xk : Int)) ?_ rfl)
              go_simp
            · cases ho
              obtain ⟨AA, cc, hv⟩ := hk.done 5 _ 100 rfl rfl (hdep ⟨5, .data⟩ (by simp) rfl)
              have d5 := ev hv
              refine wpOp_of rfl rfl (wp_value (v := .int .i64 0) ?_ rfl)
              go_simp
            · cases ho
              refine wpOp_of rfl rfl ?_
              go_simp
              exact ⟨_, rfl, ⟨_, _, rfl, hk.below.size, box_new _ _, shp1 _ _ _ _⟩, (Below.refl _ _).alloc (Nat.le_refl _) _⟩
            · cases ho
              obtain ⟨AA, cc, hv⟩ := hk.done 6 _ 106 rfl rfl (hdep ⟨6, .data⟩ (by simp) rfl)
              have d6 := ev hv
              refine wpOp_of rfl rfl (wp_value ?_ ⟨AA, cc, rfl⟩)
              simp [execOp, d6, Act.eval]
            · exact absurd hki (by simp)
            · cases ho
              have d8 := ev (show a1.eval (.tmp 108) = .int .i64 0 from hk.done 8 _ 108 rfl rfl (hdep ⟨8, .data⟩ (by simp) rfl))
              refine wpOp_of rfl rfl (wp_value (v := .int .i64 0) ?_ rfl)
              simp [execOp, d8, Act.eval]
          case store20 =>
            intro z9 K p9 listed a1 w2 hki ho h0 hclo hk hdep
            have hz9 : z9 < 13 := (Array.getElem?_eq_some_iff.1 ho).1
            have e9 := ev (show a1.eval (.tmp 9) = .slice (some ⟨g9, 0, none⟩) m9 c9 from hk.frame 9 (frame_of (by kernel_rfl)))
            have e19 := ev (show a1.eval (.tmp 19) = .pointer (some ⟨g19, 0, none⟩) from hk.frame 19 (frame_of (by kernel_rfl)))
            have hii : z9 = 0 ∨ z9 = 1 ∨ z9 = 2 ∨ z9 = 3 ∨ z9 = 4 ∨ z9 = 5 ∨ z9 = 6 ∨ z9 = 7 ∨ z9 = 8 ∨ z9 = 9 ∨ z9 = 10 ∨ z9 = 11 ∨ z9 = 12 := by omega
            rcases hii with rfl | rfl | rfl | rfl | rfl | rfl | rfl | rfl | rfl | rfl | rfl | rfl | rfl
            · exact absurd hki (by simp)
            · exact absurd hki (by simp)
            · exact absurd hki (by simp)
            · exact absurd hki (by simp)
            · exact absurd hki (by simp)
            · exact absurd hki (by simp)
            · exact absurd hki (by simp)
            · exact absurd hki (by simp)
            · exact absurd hki (by simp)
            · exact absurd hki (by simp)
            · exact absurd hki (by simp)
            · cases hki
              cases ho
              have d7 := ev (show a1.eval (.tmp 107) = lgv 2 16 (ak : Int) (xk : Int) from hk.done 7 _ 107 rfl rfl (hdep ⟨7, .data⟩ (by simp) rfl))
              obtain ⟨g, o1, hg, hge, hgo, hgs⟩ := hk.done 9 _ 22 rfl rfl (hdep ⟨9, .data⟩ (by simp) rfl)
              have d9 := ev hg
              obtain ⟨y0, y1, y2, y3, j0, j1, j2, j3, jf⟩ := cells_any1 hgo hgs
              refine wpOp_of rfl rfl ?_
              go_simp
              exact ⟨rfl, ⟨g, hg, hge, log_at hgo hgs _ _ _ _⟩, st4_below (Below.refl _ _) hge _ _ _ _, rk_log hgo hgs _ _ _ _, trivial⟩
            · exact absurd hki (by simp)
          case fin20 =>
            intro listed a2 w2 hall hk
            have hact := keptA_all [101, 102, 103, 104, 105, 100, 106, 107, 108, 22, 21, 23] hk (by kernel_rfl)
            have h101 := hk.done 0 _ 101 rfl rfl (hall 0 (by decide))
            have h102 := hk.done 1 _ 102 rfl rfl (hall 1 (by decide))
            have h103 := hk.done 2 _ 103 rfl rfl (hall 2 (by decide))
            have h104 := hk.done 3 _ 104 rfl rfl (hall 3 (by decide))
            have h105 := hk.done 4 _ 105 rfl rfl (hall 4 (by decide))
            have h100 := hk.done 5 _ 100 rfl rfl (hall 5 (by decide))
            have h106 := hk.done 6 _ 106 rfl rfl (hall 6 (by decide))
            have h107 := hk.done 7 _ 107 rfl rfl (hall 7 (by decide))
            have h108 := hk.done 8 _ 108 rfl rfl (hall 8 (by decide))
            have h22 := hk.done 9 _ 22 rfl rfl (hall 9 (by decide))
            have h21 := hk.done 10 _ 21 rfl rfl (hall 10 (by decide))
            have h23 := hk.done 12 _ 23 rfl rfl (hall 12 (by decide))
            have s11 := hk.acts 11 _ rfl rfl (hall 11 (by decide))
            change PhK _ 11 (a2.eval (.tmp 22)) w2 at s11
            have HB := Lib.hid hk.below
            simp only [List.foldl_cons, List.foldl_nil, List.setIfInBounds_toArray, List.set_cons_succ, List.set_cons_zero] at hact
            generalize a2.eval (.tmp 101) = u101 at hact h101
            generalize a2.eval (.tmp 102) = u102 at hact h102
            generalize a2.eval (.tmp 103) = u103 at hact h103
            generalize a2.eval (.tmp 104) = u104 at hact h104
            generalize a2.eval (.tmp 105) = u105 at hact h105
            generalize a2.eval (.tmp 100) = u100 at hact h100
            generalize a2.eval (.tmp 106) = u106 at hact h106
            generalize a2.eval (.tmp 107) = u107 at hact h107
            generalize a2.eval (.tmp 108) = u108 at hact h108
            generalize a2.eval (.tmp 22) = u22 at hact h22 s11
            generalize a2.eval (.tmp 21) = u21 at hact h21
            generalize a2.eval (.tmp 23) = u23 at hact h23
            rw [hact]
            clear hact
            obtain rfl : u23 = .int .i64 0 := h23
            obtain ⟨A21, c21, rfl⟩ := h21
            obtain ⟨g22, rfl, hg22, hl22⟩ := s11
            obtain ⟨w20, rfl⟩ : ∃ x, x = w2 := ⟨w2, rfl⟩
            have HL22 := Lib.hid hl22
            have HB20 := Lib.hid (HB19.out.trans (HB.out.mono HB19.out.size))
            have HR20 := Lib.hid (HR19.out.below HB.out)
            have HCK2 : Hid (g9 < w20.heap.size ∧ w20.cell? ⟨g9, kk * 4, none⟩ = some (.int .i64 2) ∧ w20.cell? ⟨g9, kk * 4 + 1, none⟩ = some (.int .i64 16) ∧ w20.cell? ⟨g9, kk * 4 + 2, none⟩ = some (.int .i64 (ak : Int)) ∧ w20.cell? ⟨g9, kk * 4 + 3, none⟩ = some (.int .i64 (xk : Int))) := by
              have hb1 : Below W17.heap.size W17 w20 := HB1720.out.trans (HB.out.mono HB1720.out.size)
              obtain ⟨z1, z2, z3, z4, z5⟩ := HCK.out
              exact ⟨by have := hb1.size; omega, (hb1.cell (p := ⟨g9, kk * 4, none⟩) z1).trans z2, (hb1.cell (p := ⟨g9, kk * 4 + 1, none⟩) z1).trans z3, (hb1.cell (p := ⟨g9, kk * 4 + 2, none⟩) z1).trans z4, (hb1.cell (p := ⟨g9, kk * 4 + 3, none⟩) z1).trans z5⟩
            clear hl22 hk h22 h101 h102 h103 h104 h105 h100 h106 h107 h108
            go_upto_region 21 with fail
            refine wp_region_acts (by kernel_rfl) (w20.heap.size) (Nat.le_refl _) [kv (.int .i64 0), kv (.bool true), kv (.bool true), kv (.slice A21 kk c21), kv (.int .i64 (kk : Int)), kv (.int .i64 (kk : Int)), kv (.bool true), kv (.bool true), kv (.bool true), kv (lgv 2 16 (ak : Int) (xk : Int)), kv (.slice (some ⟨g9, 0, none⟩) m9 c9), kv (.int .i64 (kk : Int)), kv (.pointer (some ⟨g9, kk * 4, none⟩)), kv (lgv 2 16 (ak : Int) (xk : Int)), kv (.bool true), kv (.bool true), kv (.bool true), kv (.int .i64 0), kv (.bool true), kv (.bool true), kv (.bool true), kv (.bool true), kv (.bool true), kv (.bool true)] [109, 110, 111, 112, 113, 114, 115, 116, 117, 118, 119, 120, 121, 122, 123, 124, 125, 126, 127, 128, 129, 130, 131, 6] [none, none, none, none, none, none, none, none, none, none, none, none, none, none, none, none, none, none, none, none, none, none, none, none] rfl (fun _ _ => True) ?hgam21 (by kernel_rfl) (backsB_spec (by kernel_rfl)) ?start21 ?step21  ?store21 ?fin21
            case hgam21 =>
              intro listed z9 w2 w3 hki hlo2 hb2 hg2
              exact trivial
            case start21 => exact trivial
            case step21 =>
              intro z9 p9 listed a1 w2 hki ho h0 hclo hk hdep
              have hz9 : z9 < 24 := (Array.getElem?_eq_some_iff.1 ho).1
              have e9 := ev (show a1.eval (.tmp 9) = .slice (some ⟨g9, 0, none⟩) m9 c9 from hk.frame 9 (frame_of (by kernel_rfl)))
              have e18 := ev (show a1.eval (.tmp 18) = .int .i64 (kk : Int) from hk.frame 18 (frame_of (by kernel_rfl)))
              have e20 := ev (show a1.eval (.tmp 20) = .int .i64 0 from hk.frame 20 (frame_of (by kernel_rfl)))
              have e21 := ev (show a1.eval (.tmp 21) = .slice A21 kk c21 from hk.frame 21 (frame_of (by kernel_rfl)))
              have e22 := ev (show a1.eval (.tmp 22) = .pointer (some ⟨g22, 0, none⟩) from hk.frame 22 (frame_of (by kernel_rfl)))
              have e23 := ev (show a1.eval (.tmp 23) = .int .i64 0 from hk.frame 23 (frame_of (by kernel_rfl)))
              have hii : z9 = 0 ∨ z9 = 1 ∨ z9 = 2 ∨ z9 = 3 ∨ z9 = 4 ∨ z9 = 5 ∨ z9 = 6 ∨ z9 = 7 ∨ z9 = 8 ∨ z9 = 9 ∨ z9 = 10 ∨ z9 = 11 ∨ z9 = 12 ∨ z9 = 13 ∨ z9 = 14 ∨ z9 = 15 ∨ z9 = 16 ∨ z9 = 17 ∨ z9 = 18 ∨ z9 = 19 ∨ z9 = 20 ∨ z9 = 21 ∨ z9 = 22 ∨ z9 = 23 := by omega
              rcases hii with rfl | rfl | rfl | rfl | rfl | rfl | rfl | rfl | rfl | rfl | rfl | rfl | rfl | rfl | rfl | rfl | rfl | rfl | rfl | rfl | rfl | rfl | rfl | rfl
              · cases ho
                refine wpOp_of rfl rfl (wp_value (v := .int .i64 0) ?_ rfl)
                simp [execOp, e20, Act.eval]
              · cases ho
                have d0 := ev (show a1.eval (.tmp 109) = .int .i64 0 from hk.done 0 _ 109 rfl rfl (hdep ⟨0, .data⟩ (by simp) rfl))
                refine wpOp_of rfl rfl (wp_value (v := .bool true) ?_ rfl)
                go_simp
              · cases ho
                have d1 := ev (show a1.eval (.tmp 110) = .bool true from hk.done 1 _ 110 rfl rfl (hdep ⟨1, .data⟩ (by simp) rfl))
                refine wpOp_of rfl rfl (wp_value (v := .bool true) ?_ rfl)
                simp [execOp, d1, Act.eval]
              · cases ho
                refine wpOp_of rfl (wanted_of (t := 111) rfl rfl (hk.done 2 _ 111 rfl rfl (hdep ⟨2, .guard⟩ (by simp) rfl))) (wp_value (v := .slice A21 kk c21) ?_ rfl)
                simp [execOp, e21, Act.eval]
              · cases ho
                have d3 := ev (show a1.eval (.tmp 112) = .slice A21 kk c21 from hk.done 3 _ 112 rfl rfl (hdep ⟨3, .data⟩ (by simp) rfl))
                refine wpOp_of rfl (wanted_of (t := 111) rfl rfl (hk.done 2 _ 111 rfl rfl (hdep ⟨2, .guard⟩ (by simp) rfl))) (wp_value (v := .int .i64 (kk : Int)) ?_ rfl)
                go_simp
              · cases ho
                refine wpOp_of rfl (wanted_of (t := 111) rfl rfl (hk.done 2 _ 111 rfl rfl (hdep ⟨2, .guard⟩ (by simp) rfl))) (wp_value (v := .int .i64 (kk : Int)) ?_ rfl)
                simp [execOp, e18, Act.eval]
              · cases ho
                have d4 := ev (show a1.eval (.tmp 113) = .int .i64 (kk : Int) from hk.done 4 _ 113 rfl rfl (hdep ⟨4, .data⟩ (by simp) rfl))
                have d5 := ev (show a1.eval (.tmp 114) = .int .i64 (kk : Int) from hk.done 5 _ 114 rfl rfl (hdep ⟨5, .data⟩ (by simp) rfl))
                refine wpOp_of rfl (wanted_of (t := 111) rfl rfl (hk.done 2 _ 111 rfl rfl (hdep ⟨2, .guard⟩ (by simp) rfl))) (wp_value (v := .bool true) ?_ rfl)
                go_simp
              · cases ho
                have d2 := ev (show a1.eval (.tmp 111) = .bool true from hk.done 2 _ 111 rfl rfl (hdep ⟨2, .data⟩ (by simp) rfl))
                have d6 := ev (show a1.eval (.tmp 115) = .bool true from hk.done 6 _ 115 rfl rfl (hdep ⟨6, .data⟩ (by simp) rfl))
                refine wpOp_of rfl rfl (wp_value (v := .bool true) ?_ rfl)
                go_simp
              · cases ho
                have d7 := ev (show a1.eval (.tmp 116) = .bool true from hk.done 7 _ 116 rfl rfl (hdep ⟨7, .data⟩ (by simp) rfl))
                refine wpOp_of rfl rfl (wp_value (v := .bool true) ?_ rfl)
                simp [execOp, d7, Act.eval]
              · cases ho
                obtain ⟨k0, k1, k2, k3, kf⟩ := cells_log (box_at HL22.out hk.below)
                refine wpOp_of rfl (wanted_of (t := 117) rfl rfl (hk.done 8 _ 117 rfl rfl (hdep ⟨8, .guard⟩ (by simp) rfl))) (wp_value (v := lgv 2 16 (ak : Int) (xk : Int)) ?_ rfl)
                go_simp
              · cases ho
                refine wpOp_of rfl (wanted_of (t := 117) rfl rfl (hk.done 8 _ 117 rfl rfl (hdep ⟨8, .guard⟩ (by simp) rfl))) (wp_value (v := .slice (some ⟨g9, 0, none⟩) m9 c9) ?_ rfl)
                simp [execOp, e9, Act.eval]
              · cases ho
                refine wpOp_of rfl (wanted_of (t := 117) rfl rfl (hk.done 8 _ 117 rfl rfl (hdep ⟨8, .guard⟩ (by simp) rfl))) (wp_value (v := .int .i64 (kk : Int)) ?_ rfl)
                simp [execOp, e18, Act.eval]
              · cases ho
                have d10 := ev (show a1.eval (.tmp 119) = .slice (some ⟨g9, 0, none⟩) m9 c9 from hk.done 10 _ 119 rfl rfl (hdep ⟨10, .data⟩ (by simp) rfl))
                have d11 := ev (show a1.eval (.tmp 120) = .int .i64 (kk : Int) from hk.done 11 _ 120 rfl rfl (hdep ⟨11, .data⟩ (by simp) rfl))
                refine wpOp_of rfl (wanted_of (t := 117) rfl rfl (hk.done 8 _ 117 rfl rfl (hdep ⟨8, .guard⟩ (by simp) rfl))) (wp_value (v := .pointer (some ⟨g9, kk * 4, none⟩)) ?_ rfl)
                go_simp
              · cases ho
                have d12 := ev (show a1.eval (.tmp 121) = .pointer (some ⟨g9, kk * 4, none⟩) from hk.done 12 _ 121 rfl rfl (hdep ⟨12, .data⟩ (by simp) rfl))
                obtain ⟨z1, z2, z3, z4, z5⟩ := HCK2.out
                have y2 := (hk.below.cell (p := ⟨g9, kk * 4, none⟩) z1).trans z2
                have y3 := (hk.below.cell (p := ⟨g9, kk * 4 + 1, none⟩) z1).trans z3
                have y4 := (hk.below.cell (p := ⟨g9, kk * 4 + 2, none⟩) z1).trans z4
                have y5 := (hk.below.cell (p := ⟨g9, kk * 4 + 3, none⟩) z1).trans z5
                clear z1 z2 z3 z4 z5
                refine wpOp_of rfl (wanted_of (t := 117) rfl rfl (hk.done 8 _ 117 rfl rfl (hdep ⟨8, .guard⟩ (by simp) rfl))) (wp_value (v := lgv 2 16 (ak : Int) (xk : Int)) ?_ rfl)
                go_simp
              · cases ho
                have d9 := ev (show a1.eval (.tmp 118) = lgv 2 16 (ak : Int) (xk : Int) from hk.done 9 _ 118 rfl rfl (hdep ⟨9, .data⟩ (by simp) rfl))
                have d13 := ev (show a1.eval (.tmp 122) = lgv 2 16 (ak : Int) (xk : Int) from hk.done 13 _ 122 rfl rfl (hdep ⟨13, .data⟩ (by simp) rfl))
                refine wpOp_of rfl (wanted_of (t := 117) rfl rfl (hk.done 8 _ 117 rfl rfl (hdep ⟨8, .guard⟩ (by simp) rfl))) (wp_value (v := .bool true) ?_ rfl)
                go_simp
              · cases ho
                have d8 := ev (show a1.eval (.tmp 117) = .bool true from hk.done 8 _ 117 rfl rfl (hdep ⟨8, .data⟩ (by simp) rfl))
                have d14 := ev (show a1.eval (.tmp 123) = .bool true from hk.done 14 _ 123 rfl rfl (hdep ⟨14, .data⟩ (by simp) rfl))
                refine wpOp_of rfl rfl (wp_value (v := .bool true) ?_ rfl)
                go_simp
              · cases ho
                have d15 := ev (show a1.eval (.tmp 124) = .bool true from hk.done 15 _ 124 rfl rfl (hdep ⟨15, .data⟩ (by simp) rfl))
                refine wpOp_of rfl rfl (wp_value (v := .bool true) ?_ rfl)
                simp [execOp, d15, Act.eval]
              · cases ho
                refine wpOp_of rfl (wanted_of (t := 125) rfl rfl (hk.done 16 _ 125 rfl rfl (hdep ⟨16, .guard⟩ (by simp) rfl))) (wp_value (v := .int .i64 0) ?_ rfl)
                simp [execOp, e23, Act.eval]
              · cases ho
                have d17 := ev (show a1.eval (.tmp 126) = .int .i64 0 from hk.done 17 _ 126 rfl rfl (hdep ⟨17, .data⟩ (by simp) rfl))
                refine wpOp_of rfl (wanted_of (t := 125) rfl rfl (hk.done 16 _ 125 rfl rfl (hdep ⟨16, .guard⟩ (by simp) rfl))) (wp_value (v := .bool true) ?_ rfl)
                go_simp
              · cases ho
                have d16 := ev (show a1.eval (.tmp 125) = .bool true from hk.done 16 _ 125 rfl rfl (hdep ⟨16, .data⟩ (by simp) rfl))
                have d18 := ev (show a1.eval (.tmp 127) = .bool true from hk.done 18 _ 127 rfl rfl (hdep ⟨18, .data⟩ (by simp) rfl))
                refine wpOp_of rfl rfl (wp_value (v := .bool true) ?_ rfl)
                go_simp
              · cases ho
                have d19 := ev (show a1.eval (.tmp 128) = .bool true from hk.done 19 _ 128 rfl rfl (hdep ⟨19, .data⟩ (by simp) rfl))
                refine wpOp_of rfl rfl (wp_value (v := .bool true) ?_ rfl)
                simp [execOp, d19, Act.eval]
              · cases ho
                refine wpOp_of rfl (wanted_of (t := 129) rfl rfl (hk.done 20 _ 129 rfl rfl (hdep ⟨20, .guard⟩ (by simp) rfl))) ?_
                go_simp
                refine (awake_any w2).mono ?_
                rintro e w3 ⟨rfl, hb3⟩
                exact ⟨_, rfl, rfl, hb3⟩
              · cases ho
                have d20 := ev (show a1.eval (.tmp 129) = .bool true from hk.done 20 _ 129 rfl rfl (hdep ⟨20, .data⟩ (by simp) rfl))
                have d21 := ev (show a1.eval (.tmp 130) = .bool true from hk.done 21 _ 130 rfl rfl (hdep ⟨21, .data⟩ (by simp) rfl))
                refine wpOp_of rfl rfl (wp_value (v := .bool true) ?_ rfl)
                go_simp
              · cases ho
                have d22 := ev (show a1.eval (.tmp 131) = .bool true from hk.done 22 _ 131 rfl rfl (hdep ⟨22, .data⟩ (by simp) rfl))
                refine wpOp_of rfl rfl (wp_value (v := .bool true) ?_ rfl)
                simp [execOp, d22, Act.eval]
            case store21 =>
              intro z9 K p9 listed a1 w2 hki ho h0 hclo hk hdep
              have hz9 : z9 < 24 := (Array.getElem?_eq_some_iff.1 ho).1
              have e9 := ev (show a1.eval (.tmp 9) = .slice (some ⟨g9, 0, none⟩) m9 c9 from hk.frame 9 (frame_of (by kernel_rfl)))
              have e18 := ev (show a1.eval (.tmp 18) = .int .i64 (kk : Int) from hk.frame 18 (frame_of (by kernel_rfl)))
              have e20 := ev (show a1.eval (.tmp 20) = .int .i64 0 from hk.frame 20 (frame_of (by kernel_rfl)))
              have e21 := ev (show a1.eval (.tmp 21) = .slice A21 kk c21 from hk.frame 21 (frame_of (by kernel_rfl)))
              have e22 := ev (show a1.eval (.tmp 22) = .pointer (some ⟨g22, 0, none⟩) from hk.frame 22 (frame_of (by kernel_rfl)))
              have e23 := ev (show a1.eval (.tmp 23) = .int .i64 0 from hk.frame 23 (frame_of (by kernel_rfl)))
              have hii : z9 = 0 ∨ z9 = 1 ∨ z9 = 2 ∨ z9 = 3 ∨ z9 = 4 ∨ z9 = 5 ∨ z9 = 6 ∨ z9 = 7 ∨ z9 = 8 ∨ z9 = 9 ∨ z9 = 10 ∨ z9 = 11 ∨ z9 = 12 ∨ z9 = 13 ∨ z9 = 14 ∨ z9 = 15 ∨ z9 = 16 ∨ z9 = 17 ∨ z9 = 18 ∨ z9 = 19 ∨ z9 = 20 ∨ z9 = 21 ∨ z9 = 22 ∨ z9 = 23 := by omega
              rcases hii with rfl | rfl | rfl | rfl | rfl | rfl | rfl | rfl | rfl | rfl | rfl | rfl | rfl | rfl | rfl | rfl | rfl | rfl | rfl | rfl | rfl | rfl | rfl | rfl
              · exact absurd hki (by simp)
              · exact absurd hki (by simp)
              · exact absurd hki (by simp)
              · exact absurd hki (by simp)
              · exact absurd hki (by simp)
              · exact absurd hki (by simp)
              · exact absurd hki (by simp)
              · exact absurd hki (by simp)
              · exact absurd hki (by simp)
              · exact absurd hki (by simp)
              · exact absurd hki (by simp)
              · exact absurd hki (by simp)
              · exact absurd hki (by simp)
              · exact absurd hki (by simp)
              · exact absurd hki (by simp)
              · exact absurd hki (by simp)
              · exact absurd hki (by simp)
              · exact absurd hki (by simp)
              · exact absurd hki (by simp)
              · exact absurd hki (by simp)
              · exact absurd hki (by simp)
              · exact absurd hki (by simp)
              · exact absurd hki (by simp)
              · exact absurd hki (by simp)
            case fin21 =>
              intro listed a2 w2 hall hk
              have hact := keptA_all [109, 110, 111, 112, 113, 114, 115, 116, 117, 118, 119, 120, 121, 122, 123, 124, 125, 126, 127, 128, 129, 130, 131, 6] hk (by kernel_rfl)
              have h109 := hk.done 0 _ 109 rfl rfl (hall 0 (by decide))
              have h110 := hk.done 1 _ 110 rfl rfl (hall 1 (by decide))
              have h111 := hk.done 2 _ 111 rfl rfl (hall 2 (by decide))
              have h112 := hk.done 3 _ 112 rfl rfl (hall 3 (by decide))
              have h113 := hk.done 4 _ 113 rfl rfl (hall 4 (by decide))
              have h114 := hk.done 5 _ 114 rfl rfl (hall 5 (by decide))
              have h115 := hk.done 6 _ 115 rfl rfl (hall 6 (by decide))
              have h116 := hk.done 7 _ 116 rfl rfl (hall 7 (by decide))
              have h117 := hk.done 8 _ 117 rfl rfl (hall 8 (by decide))
              have h118 := hk.done 9 _ 118 rfl rfl (hall 9 (by decide))
              have h119 := hk.done 10 _ 119 rfl rfl (hall 10 (by decide))
              have h120 := hk.done 11 _ 120 rfl rfl (hall 11 (by decide))
              have h121 := hk.done 12 _ 121 rfl rfl (hall 12 (by decide))
              have h122 := hk.done 13 _ 122 rfl rfl (hall 13 (by decide))
              have h123 := hk.done 14 _ 123 rfl rfl (hall 14 (by decide))
              have h124 := hk.done 15 _ 124 rfl rfl (hall 15 (by decide))
              have h125 := hk.done 16 _ 125 rfl rfl (hall 16 (by decide))
              have h126 := hk.done 17 _ 126 rfl rfl (hall 17 (by decide))
              have h127 := hk.done 18 _ 127 rfl rfl (hall 18 (by decide))
              have h128 := hk.done 19 _ 128 rfl rfl (hall 19 (by decide))
              have h129 := hk.done 20 _ 129 rfl rfl (hall 20 (by decide))
              have h130 := hk.done 21 _ 130 rfl rfl (hall 21 (by decide))
              have h131 := hk.done 22 _ 131 rfl rfl (hall 22 (by decide))
              have h6 := hk.done 23 _ 6 rfl rfl (hall 23 (by decide))
              have HB := Lib.hid hk.below
              simp only [List.foldl_cons, List.foldl_nil, List.setIfInBounds_toArray, List.set_cons_succ, List.set_cons_zero] at hact
              generalize a2.eval (.tmp 109) = u109 at hact h109
              generalize a2.eval (.tmp 110) = u110 at hact h110
              generalize a2.eval (.tmp 111) = u111 at hact h111
              generalize a2.eval (.tmp 112) = u112 at hact h112
              generalize a2.eval (.tmp 113) = u113 at hact h113
              generalize a2.eval (.tmp 114) = u114 at hact h114
              generalize a2.eval (.tmp 115) = u115 at hact h115
              generalize a2.eval (.tmp 116) = u116 at hact h116
              generalize a2.eval (.tmp 117) = u117 at hact h117
              generalize a2.eval (.tmp 118) = u118 at hact h118
              generalize a2.eval (.tmp 119) = u119 at hact h119
              generalize a2.eval (.tmp 120) = u120 at hact h120
              generalize a2.eval (.tmp 121) = u121 at hact h121
              generalize a2.eval (.tmp 122) = u122 at hact h122
              generalize a2.eval (.tmp 123) = u123 at hact h123
              generalize a2.eval (.tmp 124) = u124 at hact h124
              generalize a2.eval (.tmp 125) = u125 at hact h125
              generalize a2.eval (.tmp 126) = u126 at hact h126
              generalize a2.eval (.tmp 127) = u127 at hact h127
              generalize a2.eval (.tmp 128) = u128 at hact h128
              generalize a2.eval (.tmp 129) = u129 at hact h129
              generalize a2.eval (.tmp 130) = u130 at hact h130
              generalize a2.eval (.tmp 131) = u131 at hact h131
              generalize a2.eval (.tmp 6) = u6 at hact h6
              rw [hact]
              clear hact
              obtain rfl : u6 = .bool true := h6
              have HB21 := Lib.hid (HB20.out.trans (HB.out.mono HB20.out.size))
              clear hk
              go_wp2_with fail
              go_ret
              exact ⟨rfl, HB21.out⟩
end Go.Proofs.Ytjcgggheablpeaa.Wal
