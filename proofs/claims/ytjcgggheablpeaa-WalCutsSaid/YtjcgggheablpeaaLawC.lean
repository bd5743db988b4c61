/- The walk of the law WalBack. -/
import Derived.Test.YtjcgggheablpeaaW15
import Derived.Test.YtjcgggheablpeaaLawB
import Derived.LoopTactic
namespace Go.Proofs.Ytjcgggheablpeaa.Wal
open Go.RowKit Dis Dis.Dk

theorem fw6_le (l : List UInt8) : (fw6 l).length ≤ l.length := by unfold fw6; split <;> simp <;> omega
theorem QBox.grown {w w' : World} {row : Option Nat} {g : Nat} {D : DD} (h : QBox w g D) (hD : Q20 D) (hg : w.grownBy w' row) (hm : Mute w row) (hne : row ≠ some g) : QBox w' g D := by
  obtain ⟨A, c, h1, h2⟩ := h
  exact ⟨A, c, (hg.block g (lt_of_at h1) (fun e => hne e.symm)).trans h1, h2.grown hg hm (by rw [hD.s]; decide) hD.q.1⟩
/-- What the first loop keeps. -/
structure BI (w0 : World) (g5 base x0 : Nat) (D : DD) (fs : Ws) (ats : Ats) (a x : Nat) (v8 v9 : Value) (wr : World) : Prop where
  led : Led D x0 fs ats a x
  box : QBox wr g5 D
  lb : wr.heap[g5 + 2]? = some (lgo 2 16 a x)
  row : LgRow wr base v9 ats
  all : AlRow w0 wr base v8 fs
  b : Below w0.heap.size w0 wr
  hi : base ≤ wr.heap.size
theorem BI.below {w0 wr w' : World} {g5 base x0 : Nat} {D : DD} {fs : Ws} {ats : Ats} {a x : Nat} {v8 v9 : Value} (h : BI w0 g5 base x0 D fs ats a x v8 v9 wr) (hb : Below wr.heap.size wr w') : BI w0 g5 base x0 D fs ats a x v8 v9 w' :=
  ⟨h.led, h.box.below hb, box_at h.lb hb, h.row.below hb, h.all.below hb, h.b.trans (hb.mono h.b.size), Nat.le_trans h.hi hb.size⟩
theorem from_at {D : DD} {x0 : Nat} {fs : Ws} {ats : Ats} {a x : Nat} (h : Led D x0 fs ats a x) (j : Nat) (hj : j < ats.length) : Scans (16 : Nat) ((((D.S.drop 2).take 16).flatten).drop (64 * ats[j].1)) ats[j].1 ats[j].2 (fs.drop j) a x ∧ ats[j].1 < 16 ∧ x0 ≤ ats[j].2 ∧ ats[j].2 ≤ x0 + 16 := by
  have hr := h.at_ j hj
  have hh := h.h
  rw [← List.take_append_drop j fs] at hh
  have hf := hh.from_ (fit_sec h.q.f) hr
  have hle := hr.le
  have hb := h.bounds
  have h1 : (fs.take j).length ≤ fs.length := by rw [List.length_take]; omega
  exact ⟨hf.scan (fit_sec h.q.f), by have := hf.r.le; omega, by omega, by omega⟩
theorem at_end {D : DD} {x0 : Nat} {fs : Ws} {ats : Ats} {a x : Nat} (h : Led D x0 fs ats a x) : Scans (16 : Nat) ((((D.S.drop 2).take 16).flatten).drop (64 * a)) a x [] a x := by
  have hh := h.h
  rw [← List.append_nil fs] at hh
  exact (hh.from_ (fit_sec h.q.f) h.h.r).scan (fit_sec h.q.f)
set_option maxRecDepth 100000 in
set_option maxHeartbeats 4000000 in
theorem back_any (A : Option Addr) (V : List (List UInt8)) (c : Nat) (AK : Option Addr) (K : List Bool) (ck : Nat) (w : World) (h : RowsN w w.heap.size A V) (hK : Bools w w.heap.size AK K) :
    Calls Try.prog 5 #[.slice A V.length c, .slice AK K.length ck] w fun e w' => e = .returned (.bool true) ∧ Below w.heap.size w w' := by
  have HP := Lib.hid h
  obtain ⟨n, hn⟩ : ∃ n, n = V.length := ⟨_, rfl⟩
  have HN := Lib.hid hn
  obtain ⟨nk, hnk⟩ : ∃ nk, nk = K.length := ⟨_, rfl⟩
  rw [← hn, ← hnk]
  have HCR : Hid (∀ (W : World) (v : Value) (D : DD), Below w.heap.size w W → Okd W v D → Q20 D → Calls Try.prog 28 #[v, .slice AK nk ck] W fun e w' => ∃ v', e = .returned v' ∧ Okd w' v' D ∧ Below W.heap.size W w') := fun W v D hb hok hq => by
    rw [hnk]
    exact crash_d hok hq AK K ck ((hK.below hb (Nat.le_refl _)).more hb.size)
  clear h hn hnk hK
  go_enter Try.func5, Try.ntmps5
  go_wp2_with fail
  refine (some_any 20 w (by decide) (by decide) (by decide)).mono ?_
  rintro e w1 ⟨v, rfl, ⟨⟨A0, n0, c0, A0', m0, c0', L0, O0, rfl, hn0⟩, hok2⟩, hb1'⟩
  have hk := hok2 (.inl rfl)
  obtain ⟨rfl, rfl, rfl, rfl, rfl, rfl⟩ := okd_q hk q20_new
  obtain ⟨W2, hW2⟩ : ∃ W2, W2 = w1.alloc (qo A0 c0) := ⟨_, rfl⟩
  obtain ⟨W3, hW3⟩ : ∃ W3, W3 = W2.alloc (lgo 2 16 0 5) := ⟨_, rfl⟩
  obtain ⟨W4, hW4⟩ : ∃ W4, W4 = W3.alloc (lgo 2 16 0 5) := ⟨_, rfl⟩
  have hb12 : Below w1.heap.size w1 W2 := by rw [hW2]; exact (Below.refl _ _).alloc (Nat.le_refl _) _
  have hb23 : Below W2.heap.size W2 W3 := by rw [hW3]; exact (Below.refl _ _).alloc (Nat.le_refl _) _
  have hb34 : Below W3.heap.size W3 W4 := by rw [hW4]; exact (Below.refl _ _).alloc (Nat.le_refl _) _
  have hs2 : W2.heap.size = w1.heap.size + 1 := by rw [hW2]; simp
  have hs3 : W3.heap.size = w1.heap.size + 2 := by rw [hW3]; simp; exact hs2
  have hs4 : W4.heap.size = w1.heap.size + 3 := by rw [hW4]; simp; exact hs3
  have hx5 : W2.heap[w1.heap.size]? = some (qo A0 c0) := by rw [hW2]; exact heap_alloc_new _ _
  have hx6 : W3.heap[w1.heap.size + 1]? = some (lgo 2 16 0 5) := by rw [hW3, ← hs2]; exact heap_alloc_new _ _
  have hx7 : W4.heap[w1.heap.size + 2]? = some (lgo 2 16 0 5) := by rw [hW4, ← hs3]; exact heap_alloc_new _ _
  have hb24 := hb23.trans (hb34.mono hb23.size)
  have hb14 := hb12.trans (hb24.mono hb12.size)
  have HI0 : Hid (BI w w1.heap.size W4.heap.size 5 (newD 20) [] [] 0 5 (.slice none 0 0) (.slice none 0 0) W4) := ⟨led_new 5, ⟨A0, c0, box_at hx5 hb24, hk.below hb14⟩, hx7, lgRow_nil _ _, alRow_nil _ _ _, hb1'.trans (hb14.mono hb1'.size), Nat.le_refl _⟩
  have HW2 := Lib.hid hW2
  have HW3 := Lib.hid hW3
  have HW4 := Lib.hid hW4
  have hg5 : w.heap.size ≤ w1.heap.size := hb1'.size
  obtain ⟨g5, hg5e⟩ : ∃ g5, g5 = w1.heap.size := ⟨_, rfl⟩
  obtain ⟨base, hbase⟩ : ∃ base, base = W4.heap.size := ⟨_, rfl⟩
  rw [← hg5e, ← hbase] at HI0
  rw [← hg5e] at hx6 hs2 hs3
  have hgb : g5 + 3 = base := by omega
  have hgw : w.heap.size ≤ g5 := by omega
  have HS2 := Lib.hid hs2
  have HS3 := Lib.hid hs3
  have HX6 := Lib.hid hx6
  have HG5E := Lib.hid hg5e
  clear hg5e hok2 hk hb1' hb12 hb23 hb34 hb24 hs2 hs3 hs4 hx5 hx6 hx7 hb14 hW2 hW3 hW4 hg5
  go_upto_region 2 with fail
  rw [← HW2.out]
  go_upto_region 3 with fail
  rw [← HW3.out, HS2.out, ← HG5E.out]
  obtain ⟨k0, k1, k2, k3, kf⟩ := cells_log HX6.out
  go_upto_region 4 with fail
  rw [← HW4.out, HS3.out]
  clear HW2 HW3 HW4 HS2 HS3 HX6 HG5E hbase k0 k1 k2 k3 kf
  go_wp2_with fail
  go_loopw [8, 9, 10] (fun s8 s9 s10 wr => ∃ (i : Nat) (D : DD) (fs : Ws) (ats : Ats) (a x : Nat), i ≤ 12 ∧ s10 = .int .i64 i ∧ Hid (BI w g5 base 5 D fs ats a x s8 s9 wr)) (fun _ _ s10 _ => 12 - (intOf s10).toNat)
  case atStart => exact ⟨0, newD 20, [], [], 0, 5, by decide, rfl, HI0⟩
  case round =>
    obtain ⟨i, D, fs, ats, a, x, hi9, rfl, HI⟩ := hrel
    clear HI0
    go_upto_region 7 with fail
    go_cut [32] from 25 to 81 (fun s32 wx => s32 = .bool (decide (i < n ∧ i < 12)) ∧ wr = wx)
    case first =>
      by_cases ha1 : (i : Int) < n
      · by_cases ha2 : (i : Int) < 12
        · go_wp2_with fail
          go_meet
          exact ⟨by rw [decide_eq_true (by omega)], rfl⟩
        · go_wp2_with fail
          go_meet
          exact ⟨by rw [decide_eq_false (by omega)], rfl⟩
      · go_wp2_with fail
        go_meet
        exact ⟨by rw [decide_eq_false (by omega)], rfl⟩
    case rest =>
    obtain ⟨hs32, rfl⟩ := hcut
    obtain ⟨A8, c8, rfl, hc8, hc88⟩ := HI.out.all.form
    obtain ⟨k8, hk8⟩ : ∃ k8, k8 = fs.length := ⟨_, rfl⟩
    have HK8 := Lib.hid hk8
    have hbnd := HI.out.led.bounds
    have ha16 : a < 16 := hbnd.1
    have hx5k : x = 5 + k8 := by rw [hk8]; exact hbnd.2.1
    have hk16 : k8 ≤ 15 := by omega
    rw [← hk8] at hc8 ⊢
    have HAL : Hid (AlRow w wr base (.slice A8 k8 c8) fs) := by show AlRow _ _ _ _ _; rw [hk8]; exact HI.out.all
    have HX5K := Lib.hid hx5k
    clear hk8 hbnd hx5k
    by_cases hlt : i < n ∧ i < 12
    · rw [decide_eq_true hlt] at hs32
      subst hs32
      obtain ⟨hlt1, hlt2⟩ := hlt
      obtain ⟨b, o, A1, c1, rfl, hbl, q0, hoct, hlc, hcm⟩ := HP.out i (by have := HN.out; omega)
      obtain ⟨l, hl⟩ : ∃ l, l = V[i]'(by have := HN.out; omega) := ⟨_, rfl⟩
      rw [← hl] at q0 hoct hlc hcm
      obtain ⟨ll, hll⟩ : ∃ ll, ll = l.length := ⟨_, rfl⟩
      obtain ⟨d, hd⟩ : ∃ d, d = fw6 l := ⟨_, rfl⟩
      obtain ⟨dm, hdm⟩ : ∃ dm, d.length = dm := ⟨_, rfl⟩
      have hd6 : dm ≤ 6001 := by rw [← hdm, hd]; exact fw6_len l
      have hdc1 : dm ≤ c1 := by rw [← hdm, hd]; exact Nat.le_trans (fw6_le l) hlc
      have HFEW : Hid (∀ W, Calls Try.prog 11 #[.slice A1 ll c1] W fun e w' => e = .returned (.slice A1 dm c1) ∧ W = w') := fun W => by
        rw [hll, ← hdm, hd]
        exact few6_any A1 l c1 W hlc (by omega)
      have q0' : wr.cell? ⟨b, o + i, none⟩ = some (.slice A1 ll c1) := by rw [hll]; exact (HI.out.b.cell (p := ⟨b, o + i, none⟩) hbl).trans q0
      have HO0 : Hid (Octs w w.heap.size A1 d) := by rw [hd]; exact fw6_octs hoct
      have HOD : Hid (Octs wr wr.heap.size A1 d) := (HO0.out.below HI.out.b (Nat.le_refl _)).more HI.out.b.size
      obtain ⟨Aq, cq, hbq, hokq⟩ := HI.out.box
      have HBQ := Lib.hid hbq
      have HOKQ := Lib.hid hokq
      have HLB := Lib.hid HI.out.lb
      have hli : (i : Int) < n := by omega
      have hx20 : x ≤ 20 := by have := HX5K.out; omega
      have hfD : Fit D 0 := HI.out.led.q.f
      have hgwr : g5 + 2 < wr.heap.size := lt_of_at HI.out.lb
      clear hbl q0 hoct hlc hcm hl hll hd hbq hokq
      rcases hRRb : appR D 2 16 (a : Int) (x : Int) d with ⟨Eb, ⟨g0b, g1b, g2b, g3b⟩, eb⟩
      have hfEb : Fit Eb (0 + 500) := by have := (appR_fit 2 16 (a : Int) (x : Int) d hfD).1; rw [hRRb] at this; exact this
      have hsEb : Eb.S.length = (D).S.length := by have := (appR_fit 2 16 (a : Int) (x : Int) d hfD).2; rw [hRRb] at this; exact this
      have HAPb : Hid (∀ (W : World) (v : Value) (A : Option Addr) (c : Nat), Okd W v D → Octs W W.heap.size A d → Calls Try.prog 13 #[v, lgv 2 16 (a : Int) (x : Int), .slice A dm c] W fun e w' => ∃ v', e = .returned (.tuple #[v', lgv g0b g1b g2b g3b, .int .i64 eb]) ∧ OkE w' v' Eb eb ∧ Below W.heap.size W w') := fun W v A c h1 h2 => by
        have := append_at W v D 0 2 16 (a : Int) (x : Int) A d dm c hdm h1 hfD (by decide) (by rw [HI.out.led.q.s]; decide) (by decide) (by decide) (by omega) (by omega) (by omega) (by omega) (by decide) (by decide) h2 (by omega)
        unfold AppP at this
        rw [hRRb] at this
        exact this
      have HRRb := Lib.hid hRRb
      have HSEb := Lib.hid hsEb
      clear hRRb hsEb
      have HAC := Lib.hid (HI.out.led.app (by decide) (by decide) d HRRb.out)
      go_wp2_with fail
      refine (HFEW.out wr).mono ?_
      rintro e w3 ⟨rfl, rfl⟩
      clear q0'
      go_upto_region 10 with fail
      obtain ⟨k0, k1, k2, k3, kf⟩ := cells_of4 HBQ.out
      obtain ⟨r0, r1, r2, r3, rf⟩ := cells_log HLB.out
      go_wp2_with fail
      refine (HAPb.out wr (qv Aq cq) A1 c1 HOKQ.out HOD.out).mono ?_
      rintro e w3 ⟨v', rfl, ⟨⟨Ax, nx, cx, Ax', mx, cx', Lx, Ox, rfl, hnx⟩, hx2⟩, hb3⟩
      have HX2 := Lib.hid hx2
      have HB3 := Lib.hid hb3
      clear hx2 hb3 k0 k1 k2 k3 kf r0 r1 r2 r3 rf
      go_upto_region 11 with fail
      obtain ⟨w4, hw4⟩ : ∃ w4, w4 = (w3.alloc (.cells #[.slice Ax nx cx, .slice Ax' mx cx', .int .i64 Lx, .bool Ox] 25)).alloc (lgo g0b g1b g2b g3b) := ⟨_, rfl⟩
      rw [← hw4]
      have hb34 : Below w3.heap.size w3 w4 := by rw [hw4]; exact ((Below.refl _ _).alloc (Nat.le_refl _) _).alloc (by simp) _
      have hd12 : DBox w4 w3.heap.size Eb eb := ⟨Ax, nx, cx, Ax', mx, cx', Lx, Ox, by rw [hw4, Below.heap_alloc _ _ _ (by simp)]; exact heap_alloc_new _ _, hnx, OkE.below ⟨⟨_, _, _, _, _, _, _, _, rfl, hnx⟩, HX2.out⟩ hb34⟩
      have hl13 : w4.heap[w3.heap.size + 1]? = some (lgo g0b g1b g2b g3b) := by
        have h1 := heap_alloc_new (w3.alloc (.cells #[.slice Ax nx cx, .slice Ax' mx cx', .int .i64 Lx, .bool Ox] 25)) (lgo g0b g1b g2b g3b)
        rw [hw4]
        simpa using h1
      have HB : Hid (Below wr.heap.size wr w4) := HB3.out.trans (hb34.mono HB3.out.size)
      obtain ⟨g12, hg12e⟩ : ∃ g, g = w3.heap.size := ⟨_, rfl⟩
      rw [← hg12e] at hd12 hl13 ⊢
      have hg12 : wr.heap.size ≤ g12 := by rw [hg12e]; exact HB3.out.size
      clear hw4 hb34 hg12e
      obtain ⟨g13, hg13e⟩ : ∃ g, g = g12 + 1 := ⟨_, rfl⟩
      rw [← hg13e] at hl13 ⊢
      have hg13 : wr.heap.size ≤ g13 := by omega
      clear hg13e
      have HI4 := Lib.hid (HI.out.below HB.out)
      have HAL4 := Lib.hid (HAL.out.below HB.out)
      have hs4 := HB.out.size
      have HD12 := Lib.hid hd12
      have HL13 := Lib.hid hl13
      have hg12l : g12 < w4.heap.size := by obtain ⟨_, _, _, _, _, _, _, _, h1, _⟩ := hd12; exact lt_of_at h1
      have hg13l := lt_of_at hl13
      have HI4' : Hid (BI w g5 base 5 D fs ats a x (.slice A8 k8 c8) u9 w4) := by
        have h1 := HI4.out
        rw [← HK8.out] at h1
        exact h1
      clear hd12 hl13
      rcases HAC.out with ⟨rfl, _⟩ | ⟨rfl, hle6, hroom⟩ | ⟨rfl, a', rfl, rfl, rfl, rfl, hled⟩
      · go_wp2_with fail
        go_roundw
        case rel => exact ⟨i + 1, D, fs, ats, a, x, by omega, by go_num, HI4'⟩
        case measure => simp [intOf]; omega
      · obtain ⟨k0, k1, k2, k3, kf⟩ := cells_log HI4.out.lb
        rw [hdm] at hroom hle6
        go_wp2_with fail
        refine (room_any 2 16 a x dm w4 (by decide) (by decide) (by omega) (by omega)).mono ?_
        rintro e w5 ⟨rfl, hb5⟩
        have hroom' : roomB 16 (a : Int) (dm : Int) = false := hroom
        rw [hroom']
        have HI5 := Lib.hid (HI4'.out.below hb5)
        clear hb5 k0 k1 k2 k3 kf
        go_wp2_with fail
        go_roundw
        case rel => exact ⟨i + 1, D, fs, ats, a, x, by omega, by go_num, HI5⟩
        case measure => simp [intOf]; omega
      · have HLED := Lib.hid hled
        have HQB := Lib.hid (qbox_of HD12.out hled.q)
        obtain ⟨U, hU⟩ : ∃ U, U = w4.alloc (lgo 2 16 a x) := ⟨_, rfl⟩
        have hbU : Below w4.heap.size w4 U := by rw [hU]; exact (Below.refl _ _).alloc (Nat.le_refl _) _
        have hxU : U.heap[w4.heap.size]? = some (lgo 2 16 a x) := by rw [hU]; exact heap_alloc_new _ _
        obtain ⟨p0, p1, p2, p3, pf⟩ := cells_log hxU
        have hbas4 := HI4.out.hi
        have hatn : ats.length ≤ 16 := by have h1 := HI.out.led.bounds; have h2 := HI.out.led.n; omega
        have hrowU := HI4.out.row.below hbU
        obtain ⟨v9', w5, hr5, hrow5, hb5, hg5⟩ := hrowU.snoc w4.heap.size a x p0 p1 p2 p3 (by omega) (by have := hbU.size; omega)
        have hal5 := (HAL4.out.below hbU).other hrowU hg5
        have hUs := hbU.size
        have hs5 : U.heap.size ≤ w5.heap.size := hg5.size
        obtain ⟨X, hX⟩ : ∃ X, X = w5.alloc (.cells #[.int .i64 (x : Int), .slice A1 dm c1] 58) := ⟨_, rfl⟩
        have hbX : Below w5.heap.size w5 X := by rw [hX]; exact (Below.refl _ _).alloc (Nat.le_refl _) _
        have hxX : X.heap[w5.heap.size]? = some (.cells #[.int .i64 (x : Int), .slice A1 dm c1] 58 (0, 0)) := by rw [hX]; exact heap_alloc_new _ _
        have y0 : X.cell? ⟨w5.heap.size, 0, none⟩ = some (.int .i64 (x : Int)) := by rw [cell_of_row X _ 0 _ _ _ hxX]; rfl
        have y1 : X.cell? ⟨w5.heap.size, 1, none⟩ = some (.slice A1 d.length c1) := by rw [cell_of_row X _ 1 _ _ _ hxX, hdm]; rfl
        have halX := hal5.below hbX
        have hrowX := hrow5.below hbX
        have hXs := hbX.size
        obtain ⟨v8', w7, hr7, hal7, hb7, hg7⟩ := halX.snoc w5.heap.size (x : Int) A1 d c1 y0 y1 HO0.out (by rw [hdm]; exact hdc1) (by rw [hdm]; omega) (by omega) (by omega) (by have := HK8.out; omega) (by omega)
        have hrow7 := hrowX.other halX hg7
        have hs7 : X.heap.size ≤ w7.heap.size := hg7.size
        have hx5e : (5 + (k8 : Int)) = (x : Int) := by have := HX5K.out; omega
        have n5 : ∀ g', wr.heap.size ≤ g' → u9.ownBlock ≠ some g' := fun g' h2 e => by have := HI.out.row.lt e; omega
        have n7 : ∀ g', wr.heap.size ≤ g' → (Value.slice A8 k8 c8).ownBlock ≠ some g' := fun g' h2 e => by have := HAL.out.lt e; omega
        have HQB7 : Hid (QBox w7 g12 Eb) := (((HQB.out.below hbU).grown hled.q hg5 hrowU.mute (n5 _ hg12)).below hbX).grown hled.q hg7 halX.mute (n7 _ hg12)
        have HL7 : Hid (w7.heap[g13]? = some (lgo 2 16 (a' : Int) ((x + 1 : Nat) : Int))) := by
          have h1 := (hg5.block g13 (by omega) (fun e => n5 _ hg13 e.symm)).trans (box_at HL13.out hbU)
          exact (hg7.block g13 (by omega) (fun e => n7 _ hg13 e.symm)).trans (box_at h1 hbX)
        have H57 : Hid (∃ o, w7.heap[g5]? = some o ∧ Shp 0 o) := by
          obtain ⟨A5, c5, h1, _⟩ := HI4.out.box.below hbU
          exact ⟨_, (hb7.block g5 (by omega)).trans (box_at ((hb5.block g5 (by omega)).trans h1) hbX), shp0 _ _ _ _ _ _ _ _ (by decide)⟩
        have H77 : Hid (∃ o, w7.heap[g5 + 2]? = some o ∧ Shp 1 o) := ⟨_, (hb7.block (g5 + 2) (by omega)).trans (box_at ((hb5.block (g5 + 2) (by omega)).trans (box_at HI4.out.lb hbU)) hbX), shp1 _ _ _ _⟩
        have HB07 : Hid (Below w.heap.size w w7) := (((HI4.out.b.trans (hbU.mono HI4.out.b.size)).trans (hb5.mono (by omega))).trans (hbX.mono (by omega))).trans (hb7.mono (by omega))
        have HROW7 := Lib.hid hrow7
        have HAL7 := Lib.hid hal7
        have HR5 := Lib.hid hr5
        rw [hU] at HR5
        have HR7 := Lib.hid hr7
        rw [hX] at HR7
        have HLB4 := Lib.hid HI4.out.lb
        have hs47 : w4.heap.size ≤ w7.heap.size := by omega
        clear hled hU hbU hxU p0 p1 p2 p3 pf hr5 hrow5 hb5 hg5 HD12 hrowU hal5 hX hbX hxX y0 y1 halX hrowX hr7 hal7 hb7 hg7 hrow7 n5 n7 hXs hs7 hs5 hUs
        obtain ⟨k0, k1, k2, k3, kf⟩ := cells_log HLB4.out
        go_upto_region 15 with (first
          | (at_builtin; refine Go.Lib.wpList_append_run _ rfl (.tmp 66) (.tmp 68) 56 56 rfl _ _ rfl rfl v9' w5 HR5.out ?_))
        clear k0 k1 k2 k3 kf
        go_upto_region 16 with (first
          | (at_builtin; refine Go.Lib.wpList_append_run _ rfl (.tmp 70) (.tmp 76) 43 43 rfl _ _ rfl rfl v8' w7 HR7.out ?_))
        obtain ⟨A5, c5, hq5, hok5⟩ := HQB7.out
        have HQ5 := Lib.hid hq5
        have HOK5 := Lib.hid hok5
        have hfE : Fit Eb 0 := HLED.out.q.f
        clear hq5 hok5
        refine wp_region_acts (by kernel_rfl) (g5) (by omega) [kv (qv A5 c5), kv (.slice AK nk ck), lfE Eb 0 hfE 0, kv (lgv 2 16 (a' : Int) ((x + 1 : Nat) : Int)), lfDAt g5 Eb 0 hfE 0, lfLAt (g5 + 2) 2 16 (a' : Int) ((x + 1 : Nat) : Int)] [78, 79, 80, 81, 5, 7] [none, none, none, none, some 0, some 1] rfl (fun (_ : Array Bool) (w' : World) => w'.heap[g12]? = some (qo A5 c5) ∧ Okd w' (qv A5 c5) Eb ∧ w'.heap[g13]? = some (lgo 2 16 (a' : Int) ((x + 1 : Nat) : Int)) ∧ LgRow w' base v9' (ats ++ [(a, x)]) ∧ AlRow w w' base v8' (fs ++ [((x : Int), d)]) ∧ (∃ o, w'.heap[g5]? = some o ∧ Shp 0 o) ∧ (∃ o, w'.heap[g5 + 2]? = some o ∧ Shp 1 o)) ?hgam16 (by kernel_rfl) (backsB_spec (by kernel_rfl)) ?start16 ?step16  ?store16 ?fin16
        case hgam16 =>
          intro listed z9 w2 w3 hki hlo2 hb2 hg2
          obtain ⟨m1, m2, m3, m4, m4b, ⟨o5, m5, m5s⟩, ⟨o6, m6, m6s⟩⟩ := hg2
          exact ⟨box_at m1 hb2, m2.below hb2, box_at m3 hb2, m4.below hb2, m4b.below hb2, ⟨o5, box_at m5 hb2, m5s⟩, ⟨o6, box_at m6 hb2, m6s⟩⟩
        case start16 => exact ⟨HQ5.out, HOK5.out.below (below_dr0 _), HL7.out, HROW7.out.below (below_dr0 _), HAL7.out.below (below_dr0 _), H57.out, H77.out⟩
        case step16 =>
          intro z9 p9 listed a1 w2 hki ho h0 hclo hk hdep
          have hz9 : z9 < 6 := (Array.getElem?_eq_some_iff.1 ho).1
          have e1 := ev (show a1.eval (.tmp 1) = .slice AK nk ck from hk.frame 1 (frame_of (by kernel_rfl)))
          have e5 := ev (show a1.eval (.tmp 5) = .pointer (some ⟨g5, 0, none⟩) from hk.frame 5 (frame_of (by kernel_rfl)))
          have e7 := ev (show a1.eval (.tmp 7) = .pointer (some ⟨g5 + 2, 0, none⟩) from hk.frame 7 (frame_of (by kernel_rfl)))
          have e12 := ev (show a1.eval (.tmp 12) = .pointer (some ⟨g12, 0, none⟩) from hk.frame 12 (frame_of (by kernel_rfl)))
          have e13 := ev (show a1.eval (.tmp 13) = .pointer (some ⟨g13, 0, none⟩) from hk.frame 13 (frame_of (by kernel_rfl)))
          have hii : z9 = 0 ∨ z9 = 1 ∨ z9 = 2 ∨ z9 = 3 ∨ z9 = 4 ∨ z9 = 5 := by omega
          rcases hii with rfl | rfl | rfl | rfl | rfl | rfl
          · cases ho
            obtain ⟨k0, k1, k2, k3, kf⟩ := cells_of4 hk.gam.1
            refine wpOp_of rfl rfl (wp_value (v := qv A5 c5) ?_ rfl)
            go_simp
          · cases ho
            refine wpOp_of rfl rfl (wp_value (v := .slice AK nk ck) ?_ rfl)
            simp [execOp, e1, Act.eval]
          · cases ho
            have d0 := ev (show a1.eval (.tmp 78) = qv A5 c5 from hk.done 0 _ 78 rfl rfl (hdep ⟨0, .data⟩ (by simp) rfl))
            have d1 := ev (show a1.eval (.tmp 79) = .slice AK nk ck from hk.done 1 _ 79 rfl rfl (hdep ⟨1, .data⟩ (by simp) rfl))
            have HC := Lib.hid (HCR.out w2 (qv A5 c5) Eb (HB07.out.trans (hk.below.mono hgw)) hk.gam.2.1 HLED.out.q)
            refine wpOp_of rfl rfl ?_
            go_simp
            refine HC.out.mono ?_
            rintro e w3 ⟨v', rfl, hok3, hb3⟩
            exact ⟨_, rfl, OkE.of 0 hok3 (by rw [HLED.out.q.s]; decide), hb3⟩
          · cases ho
            obtain ⟨k0, k1, k2, k3, kf⟩ := cells_log hk.gam.2.2.1
            refine wpOp_of rfl rfl (wp_value (v := lgv 2 16 (a' : Int) ((x + 1 : Nat) : Int)) ?_ rfl)
            go_simp
          · exact absurd hki (by simp)
          · exact absurd hki (by simp)
        case store16 =>
          intro z9 K9 p9 listed a1 w2 hki ho h0 hclo hk hdep
          have hz9 : z9 < 6 := (Array.getElem?_eq_some_iff.1 ho).1
          have e1 := ev (show a1.eval (.tmp 1) = .slice AK nk ck from hk.frame 1 (frame_of (by kernel_rfl)))
          have e5 := ev (show a1.eval (.tmp 5) = .pointer (some ⟨g5, 0, none⟩) from hk.frame 5 (frame_of (by kernel_rfl)))
          have e7 := ev (show a1.eval (.tmp 7) = .pointer (some ⟨g5 + 2, 0, none⟩) from hk.frame 7 (frame_of (by kernel_rfl)))
          have e12 := ev (show a1.eval (.tmp 12) = .pointer (some ⟨g12, 0, none⟩) from hk.frame 12 (frame_of (by kernel_rfl)))
          have e13 := ev (show a1.eval (.tmp 13) = .pointer (some ⟨g13, 0, none⟩) from hk.frame 13 (frame_of (by kernel_rfl)))
          have hii : z9 = 0 ∨ z9 = 1 ∨ z9 = 2 ∨ z9 = 3 ∨ z9 = 4 ∨ z9 = 5 := by omega
          rcases hii with rfl | rfl | rfl | rfl | rfl | rfl
          · exact absurd hki (by simp)
          · exact absurd hki (by simp)
          · exact absurd hki (by simp)
          · exact absurd hki (by simp)
          · cases hki
            cases ho
            obtain ⟨m1, m2, m3, m4, m4b, ⟨o5, m5, m5s⟩, ⟨o6, m6, m6s⟩⟩ := hk.gam
            have M1 := Lib.hid m1
            have M2 := Lib.hid m2
            have M3 := Lib.hid m3
            have M4 := Lib.hid m4
            have M4b := Lib.hid m4b
            have M5 := Lib.hid m5
            have M5s := Lib.hid m5s
            have M6 := Lib.hid m6
            have M6s := Lib.hid m6s
            have hx : OkE w2 (a1.eval (.tmp 80)) Eb 0 := hk.done 2 _ 80 rfl rfl (hdep ⟨2, .data⟩ (by simp) rfl)
            obtain ⟨⟨Ax, nx, cx, Ax', mx, cx', Lx, Ox, hv, hnx⟩, hx2⟩ := hx
            have d2 := ev hv
            have HX : Hid (OkE w2 (dv Ax nx cx Ax' mx cx' Lx Ox) Eb 0) := by rw [← hv]; exact ⟨⟨_, _, _, _, _, _, _, _, hv, hnx⟩, hx2⟩
            obtain ⟨y0, y1, y2, y3, j0, j1, j2, j3, jf⟩ := cells_any0 m5 m5s
            clear hx2 m1 m2 m3 m4 m4b m5 m5s m6 m6s
            refine wpOp_of rfl rfl ?_
            go_simp
            have hrk := rk_disk M5.out M5s.out Ax nx cx Ax' mx cx' Lx Ox hnx
            exact ⟨rfl, dbox_st M5.out M5s.out hfE hnx HX.out, st4_below (Below.refl _ _) (Nat.le_refl _) _ _ _ _, hrk, (st4_far _ _ _ _ _ (by omega)).trans M1.out, M2.out.rk hfE hrk, (st4_far _ _ _ _ _ (by omega)).trans M3.out, M4.out.st4 _ _ _ _ (by omega), M4b.out.st4 _ _ _ _ (by omega), ⟨_, disk_at M5.out M5s.out _ _ _ _ _ _ _ _, shp0 _ _ _ _ _ _ _ _ hnx⟩, ⟨_, (st4_far _ _ _ _ _ (by omega)).trans M6.out, M6s.out⟩⟩
          · cases hki
            cases ho
            have d3 := ev (show a1.eval (.tmp 81) = lgv 2 16 (a' : Int) ((x + 1 : Nat) : Int) from hk.done 3 _ 81 rfl rfl (hdep ⟨3, .data⟩ (by simp) rfl))
            obtain ⟨m1, m2, m3, m4, m4b, ⟨o5, m5, m5s⟩, ⟨o6, m6, m6s⟩⟩ := hk.gam
            have M1 := Lib.hid m1
            have M2 := Lib.hid m2
            have M3 := Lib.hid m3
            have M4 := Lib.hid m4
            have M4b := Lib.hid m4b
            have M5 := Lib.hid m5
            have M5s := Lib.hid m5s
            have M6 := Lib.hid m6
            have M6s := Lib.hid m6s
            obtain ⟨y0, y1, y2, y3, j0, j1, j2, j3, jf⟩ := cells_any1 m6 m6s
            clear m1 m2 m3 m4 m4b m5 m5s m6 m6s
            refine wpOp_of rfl rfl ?_
            go_simp
            have hrk := rk_log M6.out M6s.out 2 16 (a' : Int) ((x + 1 : Nat) : Int)
            exact ⟨rfl, log_at M6.out M6s.out _ _ _ _, st4_below (Below.refl _ _) (by omega) _ _ _ _, hrk, (st4_far _ _ _ _ _ (by omega)).trans M1.out, M2.out.rk hfE hrk, (st4_far _ _ _ _ _ (by omega)).trans M3.out, M4.out.st4 _ _ _ _ (by omega), M4b.out.st4 _ _ _ _ (by omega), ⟨_, (st4_far _ _ _ _ _ (by omega)).trans M5.out, M5s.out⟩, ⟨_, log_at M6.out M6s.out _ _ _ _, shp1 _ _ _ _⟩⟩
        case fin16 =>
          intro listed a2 w2 hall hk
          have hact := keptA_all [78, 79, 80, 81] hk (by kernel_rfl)
          have h78 := hk.done 0 _ 78 rfl rfl (hall 0 (by decide))
          have h79 := hk.done 1 _ 79 rfl rfl (hall 1 (by decide))
          have h80 := hk.done 2 _ 80 rfl rfl (hall 2 (by decide))
          have h81 := hk.done 3 _ 81 rfl rfl (hall 3 (by decide))
          have s4 := hk.acts 4 _ rfl rfl (hall 4 (by decide))
          change PhK _ 4 (a2.eval (.tmp 5)) w2 at s4
          have s5 := hk.acts 5 _ rfl rfl (hall 5 (by decide))
          change PhK _ 5 (a2.eval (.tmp 7)) w2 at s5
          have HB := Lib.hid hk.below
          simp only [List.foldl_cons, List.foldl_nil, List.setIfInBounds_toArray, List.set_cons_succ, List.set_cons_zero] at hact
          generalize a2.eval (.tmp 78) = u78 at hact h78
          generalize a2.eval (.tmp 79) = u79 at hact h79
          generalize a2.eval (.tmp 80) = u80 at hact h80
          generalize a2.eval (.tmp 81) = u81 at hact h81
          rw [hact]
          clear hact
          have HI6 : Hid (BI w g5 base 5 Eb (fs ++ [((x : Int), d)]) (ats ++ [(a, x)]) a' (x + 1) v8' v9' w2) := ⟨HLED.out, qbox_of s4 HLED.out.q, s5, hk.gam.2.2.2.1, hk.gam.2.2.2.2.1, HB07.out.trans (HB.out.mono hgw), by have := HB.out.size; omega⟩
          obtain ⟨w6, rfl⟩ : ∃ x, x = w2 := ⟨w2, rfl⟩
          clear s4 s5 hk h78 h79 h80 h81
          go_wp2_with fail
          go_roundw
          case rel => exact ⟨i + 1, Eb, _, _, a', x + 1, by omega, by go_num, HI6⟩
          case measure => simp [intOf]; omega
    · rw [decide_eq_false hlt] at hs32
      subst hs32
      obtain ⟨A9, c9, rfl, hc9, hc99⟩ := HI.out.row.form
      have hlen : ats.length = k8 := by rw [HI.out.led.n]; exact HK8.out.symm
      rw [hlen] at hc9 ⊢
      have HLEN := Lib.hid hlen
      have HROW : Hid (LgRow wr base (.slice A9 k8 c9) ats) := by show LgRow _ _ _ _; rw [← hlen]; exact HI.out.row
      have HPD : Hid (Pend wr wr.heap.size A8 fs) := HAL.out.pend HI.out.b
      obtain ⟨Aq, cq, hbq, hokq⟩ := HI.out.box
      have HBQ := Lib.hid hbq
      have HOKQ := Lib.hid hokq
      have HLB := Lib.hid HI.out.lb
      have hgwr : g5 + 2 < wr.heap.size := lt_of_at HI.out.lb
      have HAT : Hid (∀ j, j < k8 → ∃ g9, A9 = some ⟨g9, 0, none⟩) := fun j hj => by
        obtain ⟨g9, e9, _⟩ := HROW.out.at_ (i := j) (by rw [hlen]; exact hj)
        exact ⟨g9, e9⟩
      have HA8 : Hid (0 < k8 → ∃ g8 o8, A8 = some ⟨g8, o8, none⟩) := fun h0 => by
        obtain ⟨b8, o8, _, _, e8, _⟩ := HPD.out 0 (by have := HK8.out; omega)
        exact ⟨b8, o8, e8⟩
      have hxb : 1 ≤ x ∧ x ≤ 300 := by have := HX5K.out; omega
      obtain ⟨wl, rfl⟩ : ∃ y, y = wr := ⟨wr, rfl⟩
      clear hlt hlen hbq hokq
      go_wp2_with fail
      go_loopw [15] (fun s15 w9 => ∃ j : Nat, j ≤ k8 ∧ s15 = .int .i64 j ∧ Hid (Below wl.heap.size wl w9)) (fun s15 _ => k8 - (intOf s15).toNat)
      case atStart => exact ⟨0, Nat.zero_le _, rfl, Below.refl _ _⟩
      case round =>
        obtain ⟨j, hj, rfl, HX⟩ := hrel
        by_cases hlt2 : j < k8
        · have hjl : (j : Int) < k8 := by omega
          obtain ⟨g9, rfl⟩ := HAT.out j hlt2
          obtain ⟨g8, o8, rfl⟩ := HA8.out (by omega)
          have hja : j < ats.length := by have := HLEN.out; omega
          obtain ⟨g9', e9, hg9, f0, f1, f2, f3⟩ := HROW.out.at_ hja
          cases e9
          obtain ⟨hsc, haj16, hxj1, hxj2⟩ := from_at HI.out.led j hja
          obtain ⟨aj, haj⟩ : ∃ aj, aj = ats[j].1 := ⟨_, rfl⟩
          obtain ⟨xj, hxj⟩ : ∃ xj, xj = ats[j].2 := ⟨_, rfl⟩
          rw [← haj] at f2 hsc haj16
          rw [← hxj] at f3 hsc hxj1 hxj2
          obtain ⟨fj, hfj⟩ : ∃ fj, fj = fs.drop j := ⟨_, rfl⟩
          rw [← hfj] at hsc
          have HFL : Hid (fj.length = k8 - j) := by show _ = _; rw [hfj, List.length_drop, HK8.out]
          have HPJ : Hid (∀ n', n' = o8 + j * 2 → Pend wl wl.heap.size (some ⟨g8, n', none⟩) fj) := fun n' hn' => by rw [hfj]; exact pend_drop HPD.out j hn'
          have HCK : Hid (g9 < wl.heap.size ∧ wl.cell? ⟨g9, j * 4, none⟩ = some (.int .i64 2) ∧ wl.cell? ⟨g9, j * 4 + 1, none⟩ = some (.int .i64 16) ∧ wl.cell? ⟨g9, j * 4 + 2, none⟩ = some (.int .i64 (aj : Int)) ∧ wl.cell? ⟨g9, j * 4 + 3, none⟩ = some (.int .i64 (xj : Int))) := ⟨hg9, f0, f1, f2, f3⟩
          have HSC : Hid (∀ (W : World), Below wl.heap.size wl W → Calls Try.prog 21 #[qv Aq cq, lgv 2 16 (aj : Int) (xj : Int)] W (ScanP W fj 2 16 a x)) := fun W hb => scan_any W (qv Aq cq) D 0 2 16 aj xj fj a x (HOKQ.out.below hb) HI.out.led.q.f (by decide) HI.out.led.q.q.1 HI.out.led.q.q.2 (by decide) haj16 (by omega) (by omega) (by rw [HI.out.led.q.s]; decide) hsc
          clear f0 f1 f2 f3 hsc haj hxj hfj hg9
          go_upto_region 20 with fail
          refine wp_region_acts (by kernel_rfl) (wr.heap.size) (Nat.le_refl _) [kv (qv Aq cq), kv (.slice (some ⟨g9, 0, none⟩) k8 c9), kv (.int .i64 (j : Int)), kv (.pointer (some ⟨g9, j * 4, none⟩)), kv (lgv 2 16 (aj : Int) (xj : Int)), lfScP fj (lgv 2 16 (a : Int) (x : Int)), lfScP fj (lgv 2 16 (a : Int) (x : Int)), lfSlP fj, kv (lgv 2 16 (a : Int) (x : Int)), kv (.int .i64 0), lfBox 1 wr.heap.size, lfSlP fj, lfSL wr.heap.size 2 16 (a : Int) (x : Int), kv (.int .i64 0)] [89, 90, 91, 92, 93, 94, 88, 95, 96, 97, 17, 16, 17, 18] [none, none, none, none, none, none, none, none, none, none, none, none, some 1, none] rfl (fun _ _ => True) ?hgam20 (by kernel_rfl) (backsB_spec (by kernel_rfl)) ?start20 ?step20  ?store20 ?fin20
          case hgam20 =>
            intro listed z9 w2 w3 hki hlo2 hb2 hg2
            exact trivial
          case start20 => exact trivial
          case step20 =>
            intro z9 p9 listed a1 w2 hki ho h0 hclo hk hdep
            have hz9 : z9 < 14 := (Array.getElem?_eq_some_iff.1 ho).1
            have e5 := ev (show a1.eval (.tmp 5) = .pointer (some ⟨g5, 0, none⟩) from hk.frame 5 (frame_of (by kernel_rfl)))
            have e9 := ev (show a1.eval (.tmp 9) = .slice (some ⟨g9, 0, none⟩) k8 c9 from hk.frame 9 (frame_of (by kernel_rfl)))
            have e15 := ev (show a1.eval (.tmp 15) = .int .i64 (j : Int) from hk.frame 15 (frame_of (by kernel_rfl)))
            have hii : z9 = 0 ∨ z9 = 1 ∨ z9 = 2 ∨ z9 = 3 ∨ z9 = 4 ∨ z9 = 5 ∨ z9 = 6 ∨ z9 = 7 ∨ z9 = 8 ∨ z9 = 9 ∨ z9 = 10 ∨ z9 = 11 ∨ z9 = 12 ∨ z9 = 13 := by omega
            rcases hii with rfl | rfl | rfl | rfl | rfl | rfl | rfl | rfl | rfl | rfl | rfl | rfl | rfl | rfl
            · cases ho
              obtain ⟨k0, k1, k2, k3, kf⟩ := cells_of4 (box_at (box_at HBQ.out HX.out) hk.below)
              refine wpOp_of rfl rfl (wp_value (v := qv Aq cq) ?_ rfl)
              go_simp
            · cases ho
              refine wpOp_of rfl rfl (wp_value (v := .slice (some ⟨g9, 0, none⟩) k8 c9) ?_ rfl)
              simp [execOp, e9, Act.eval]
            · cases ho
              refine wpOp_of rfl rfl (wp_value (v := .int .i64 (j : Int)) ?_ rfl)
              simp [execOp, e15, Act.eval]
            · cases ho
              have d1 := ev (show a1.eval (.tmp 90) = .slice (some ⟨g9, 0, none⟩) k8 c9 from hk.done 1 _ 90 rfl rfl (hdep ⟨1, .data⟩ (by simp) rfl))
              have d2 := ev (show a1.eval (.tmp 91) = .int .i64 (j : Int) from hk.done 2 _ 91 rfl rfl (hdep ⟨2, .data⟩ (by simp) rfl))
              refine wpOp_of rfl rfl (wp_value (v := .pointer (some ⟨g9, j * 4, none⟩)) ?_ rfl)
              go_simp
            · cases ho
              have d3 := ev (show a1.eval (.tmp 92) = .pointer (some ⟨g9, j * 4, none⟩) from hk.done 3 _ 92 rfl rfl (hdep ⟨3, .data⟩ (by simp) rfl))
              obtain ⟨z1, z2, z3, z4, z5⟩ := HCK.out
              have hbx := HX.out.trans (hk.below.mono HX.out.size)
              have y2 := (hbx.cell (p := ⟨g9, j * 4, none⟩) z1).trans z2
              have y3 := (hbx.cell (p := ⟨g9, j * 4 + 1, none⟩) z1).trans z3
              have y4 := (hbx.cell (p := ⟨g9, j * 4 + 2, none⟩) z1).trans z4
              have y5 := (hbx.cell (p := ⟨g9, j * 4 + 3, none⟩) z1).trans z5
              clear z1 z2 z3 z4 z5 hbx
              refine wpOp_of rfl rfl (wp_value (v := lgv 2 16 (aj : Int) (xj : Int)) ?_ rfl)
              go_simp
            · cases ho
              have d0 := ev (show a1.eval (.tmp 89) = qv Aq cq from hk.done 0 _ 89 rfl rfl (hdep ⟨0, .data⟩ (by simp) rfl))
              have d4 := ev (show a1.eval (.tmp 93) = lgv 2 16 (aj : Int) (xj : Int) from hk.done 4 _ 93 rfl rfl (hdep ⟨4, .data⟩ (by simp) rfl))
              have HC := Lib.hid (HSC.out w2 (HX.out.trans (hk.below.mono HX.out.size)))
              refine wpOp_of rfl rfl ?_
              go_simp
              refine HC.out.mono ?_
              rintro e w3 ⟨AA, cc, rfl, hp3, _, hcc3, hb3⟩
              exact ⟨_, rfl, ⟨_, _, rfl, hp3, hcc3⟩, hb3⟩
            · cases ho
              obtain ⟨AA, cc, hv, hp, hcc⟩ := hk.done 5 _ 94 rfl rfl (hdep ⟨5, .data⟩ (by simp) rfl)
              have d5 := ev hv
              refine wpOp_of rfl rfl (wp_value ?_ ⟨AA, cc, rfl, hp, hcc⟩)
              simp [execOp, d5, Act.eval]
            · cases ho
              obtain ⟨AA, cc, hv, hp, hcc⟩ := hk.done 6 _ 88 rfl rfl (hdep ⟨6, .data⟩ (by simp) rfl)
              have d6 := ev hv
              refine wpOp_of rfl rfl (wp_value (v := .slice AA fj.length cc) ?_ ⟨AA, cc, rfl, hp, hcc⟩)
              clear hp
              go_simp
            · cases ho
              obtain ⟨AA, cc, hv, hp, hcc⟩ := hk.done 6 _ 88 rfl rfl (hdep ⟨6, .data⟩ (by simp) rfl)
              have d6 := ev hv
              clear hp
              refine wpOp_of rfl rfl (wp_value (v := lgv 2 16 (a : Int) (x : Int)) ?_ rfl)
              go_simp
            · cases ho
              obtain ⟨AA, cc, hv, hp, hcc⟩ := hk.done 6 _ 88 rfl rfl (hdep ⟨6, .data⟩ (by simp) rfl)
              have d6 := ev hv
              clear hp
              refine wpOp_of rfl rfl (wp_value (v := .int .i64 0) ?_ rfl)
              go_simp
            · cases ho
              refine wpOp_of rfl rfl ?_
              go_simp
              exact ⟨_, rfl, ⟨_, _, rfl, hk.below.size, box_new _ _, shp1 _ _ _ _⟩, (Below.refl _ _).alloc (Nat.le_refl _) _⟩
            · cases ho
              obtain ⟨AA, cc, hv, hp, hcc⟩ := hk.done 7 _ 95 rfl rfl (hdep ⟨7, .data⟩ (by simp) rfl)
              have d7 := ev hv
              refine wpOp_of rfl rfl (wp_value ?_ ⟨AA, cc, rfl, hp, hcc⟩)
              simp [execOp, d7, Act.eval]
            · exact absurd hki (by simp)
            · cases ho
              have d9 := ev (show a1.eval (.tmp 97) = .int .i64 0 from hk.done 9 _ 97 rfl rfl (hdep ⟨9, .data⟩ (by simp) rfl))
              refine wpOp_of rfl rfl (wp_value (v := .int .i64 0) ?_ rfl)
              simp [execOp, d9, Act.eval]
          case store20 =>
            intro z9 K9 p9 listed a1 w2 hki ho h0 hclo hk hdep
            have hz9 : z9 < 14 := (Array.getElem?_eq_some_iff.1 ho).1
            have e5 := ev (show a1.eval (.tmp 5) = .pointer (some ⟨g5, 0, none⟩) from hk.frame 5 (frame_of (by kernel_rfl)))
            have e9 := ev (show a1.eval (.tmp 9) = .slice (some ⟨g9, 0, none⟩) k8 c9 from hk.frame 9 (frame_of (by kernel_rfl)))
            have e15 := ev (show a1.eval (.tmp 15) = .int .i64 (j : Int) from hk.frame 15 (frame_of (by kernel_rfl)))
            have hii : z9 = 0 ∨ z9 = 1 ∨ z9 = 2 ∨ z9 = 3 ∨ z9 = 4 ∨ z9 = 5 ∨ z9 = 6 ∨ z9 = 7 ∨ z9 = 8 ∨ z9 = 9 ∨ z9 = 10 ∨ z9 = 11 ∨ z9 = 12 ∨ z9 = 13 := by omega
            rcases hii with rfl | rfl | rfl | rfl | rfl | rfl | rfl | rfl | rfl | rfl | rfl | rfl | rfl | rfl
            · exact absurd hki (by simp)
            · exact absurd hki (by simp)
            · exact absurd hki (by simp)
            · exact absurd hki (by simp)
            · exact absurd hki (by simp)
            · exact absurd hki (by simp)
            · exact absurd hki (by simp)
            · exact absurd hki (by simp)
            · exact absurd hki (by simp)
            · exact absurd hki (by simp)
            · exact absurd hki (by simp)
            · exact absurd hki (by simp)
            · cases hki
              cases ho
              have d8 := ev (show a1.eval (.tmp 96) = lgv 2 16 (a : Int) (x : Int) from hk.done 8 _ 96 rfl rfl (hdep ⟨8, .data⟩ (by simp) rfl))
              obtain ⟨g, o1, hg, hge, hgo, hgs⟩ := hk.done 10 _ 17 rfl rfl (hdep ⟨10, .data⟩ (by simp) rfl)
              have d10 := ev hg
              obtain ⟨y0, y1, y2, y3, j0, j1, j2, j3, jf⟩ := cells_any1 hgo hgs
              refine wpOp_of rfl rfl ?_
              go_simp
              exact ⟨rfl, ⟨g, hg, hge, log_at hgo hgs _ _ _ _⟩, st4_below (Below.refl _ _) hge _ _ _ _, rk_log hgo hgs _ _ _ _, trivial⟩
            · exact absurd hki (by simp)
          case fin20 =>
            intro listed a2 w2 hall hk
            have hact := keptA_all [89, 90, 91, 92, 93, 94, 88, 95, 96, 97, 17, 16, 18] hk (by kernel_rfl)
            have h89 := hk.done 0 _ 89 rfl rfl (hall 0 (by decide))
            have h90 := hk.done 1 _ 90 rfl rfl (hall 1 (by decide))
            have h91 := hk.done 2 _ 91 rfl rfl (hall 2 (by decide))
            have h92 := hk.done 3 _ 92 rfl rfl (hall 3 (by decide))
            have h93 := hk.done 4 _ 93 rfl rfl (hall 4 (by decide))
            have h94 := hk.done 5 _ 94 rfl rfl (hall 5 (by decide))
            have h88 := hk.done 6 _ 88 rfl rfl (hall 6 (by decide))
            have h95 := hk.done 7 _ 95 rfl rfl (hall 7 (by decide))
            have h96 := hk.done 8 _ 96 rfl rfl (hall 8 (by decide))
            have h97 := hk.done 9 _ 97 rfl rfl (hall 9 (by decide))
            have h17 := hk.done 10 _ 17 rfl rfl (hall 10 (by decide))
            have h16 := hk.done 11 _ 16 rfl rfl (hall 11 (by decide))
            have h18 := hk.done 13 _ 18 rfl rfl (hall 13 (by decide))
            have s12 := hk.acts 12 _ rfl rfl (hall 12 (by decide))
            change PhK _ 12 (a2.eval (.tmp 17)) w2 at s12
            have HB := Lib.hid hk.below
            simp only [List.foldl_cons, List.foldl_nil, List.setIfInBounds_toArray, List.set_cons_succ, List.set_cons_zero] at hact
            generalize a2.eval (.tmp 89) = u89 at hact h89
            generalize a2.eval (.tmp 90) = u90 at hact h90
            generalize a2.eval (.tmp 91) = u91 at hact h91
            generalize a2.eval (.tmp 92) = u92 at hact h92
            generalize a2.eval (.tmp 93) = u93 at hact h93
            generalize a2.eval (.tmp 94) = u94 at hact h94
            generalize a2.eval (.tmp 88) = u88 at hact h88
            generalize a2.eval (.tmp 95) = u95 at hact h95
            generalize a2.eval (.tmp 96) = u96 at hact h96
            generalize a2.eval (.tmp 97) = u97 at hact h97
            generalize a2.eval (.tmp 17) = u17 at hact h17 s12
            generalize a2.eval (.tmp 16) = u16 at hact h16
            generalize a2.eval (.tmp 18) = u18 at hact h18
            rw [hact]
            clear hact
            obtain rfl : u18 = .int .i64 0 := h18
            obtain ⟨AG, cG, rfl, hpG, hcG⟩ := h16
            obtain ⟨g17, rfl, hg17, hl17⟩ := s12
            obtain ⟨w20, rfl⟩ : ∃ x, x = w2 := ⟨w2, rfl⟩
            have HX20 : Hid (Below wl.heap.size wl w20) := HX.out.trans (HB.out.mono HX.out.size)
            obtain ⟨k0, k1, k2, k3, kf⟩ := cells_log hl17
            obtain ⟨r0, r1, r2, r3, rf⟩ := cells_log (box_at HLB.out HX20.out)
            have HSM : Hid (∀ n' m' c', n' = o8 + j * 2 → m' = k8 - j → Calls Try.prog 23 #[.slice AG fj.length cG, .slice (some ⟨g8, n', none⟩) m' c'] w20 fun e w' => e = .returned (.bool true) ∧ Below w20.heap.size w20 w') := fun n' m' c' e1 e2 => by
              have h1 := HFL.out
              have h2 := ((HPJ.out n' e1).below HX20.out (Nat.le_refl _)).more HX20.out.size
              have := same6_any AG (some ⟨g8, n', none⟩) cG c' fj w20 hpG h2 (by omega)
              rw [e2, ← h1]
              exact this
            have HLw := Lib.hid hl17
            clear hk hpG hl17 h89 h90 h91 h92 h93 h94 h88 h95 h96 h97 h17
            have hkc : k8 ≤ c8 := hc8
            go_wp2_with fail
            refine (HSM.out _ _ _ (by omega) (by omega)).mono ?_
            rintro e w21 ⟨rfl, hb21⟩
            obtain ⟨q0, q1, q2, q3, qf⟩ := cells_log (box_at HLw.out hb21)
            have HX21 := Lib.hid (HX20.out.trans (hb21.mono HX20.out.size))
            obtain ⟨t0, t1, t2, t3, tf⟩ := cells_log (box_at HLB.out HX21.out)
            clear hb21 k0 k1 k2 k3 kf r0 r1 r2 r3 rf
            go_wp2_with fail
            go_roundw
            case rel => exact ⟨j + 1, by omega, by go_num, HX21⟩
            case measure => simp [intOf]; omega
        · obtain rfl : j = k8 := by omega
          have HSC : Hid (∀ (W : World), Below wl.heap.size wl W → Calls Try.prog 21 #[qv Aq cq, lgv 2 16 (a : Int) (x : Int)] W (ScanP W [] 2 16 a x)) := fun W hb => scan_any W (qv Aq cq) D 0 2 16 a x [] a x (HOKQ.out.below hb) HI.out.led.q.f (by decide) HI.out.led.q.q.1 HI.out.led.q.q.2 (by decide) ha16 (by omega) (by omega) (by rw [HI.out.led.q.s]; decide) (at_end HI.out.led)
          go_upto_region 23 with fail
          obtain ⟨p0, p1, p2, p3, pf⟩ := cells_of4 (box_at HBQ.out HX.out)
          obtain ⟨k0, k1, k2, k3, kf⟩ := cells_log (box_at HLB.out HX.out)
          go_wp2_with fail
          refine (HSC.out wr HX.out).mono ?_
          rintro e w22 ⟨AG, cG, rfl, -, -, -, hb22⟩
          clear p0 p1 p2 p3 pf k0 k1 k2 k3 kf
          obtain ⟨w23, hw23⟩ : ∃ w23, w23 = w22.alloc (lgo 2 16 (a : Int) (x : Int)) := ⟨_, rfl⟩
          have hb23 : Below w22.heap.size w22 w23 := by rw [hw23]; exact (Below.refl _ _).alloc (Nat.le_refl _) _
          have hl20 : w23.heap[w22.heap.size]? = some (lgo 2 16 (a : Int) (x : Int)) := by rw [hw23]; exact heap_alloc_new _ _
          have HW23 := Lib.hid hw23
          have HL20 := Lib.hid hl20
          have HX23 : Hid (Below wl.heap.size wl w23) := (HX.out.trans (hb22.mono HX.out.size)).trans (hb23.mono (by have := HX.out.size; have := hb22.size; omega))
          clear hw23 hl20 hb22 hb23
          go_upto_region 24 with fail
          rw [← HW23.out]
          obtain ⟨k0, k1, k2, k3, kf⟩ := cells_log HL20.out
          obtain ⟨r0, r1, r2, r3, rf⟩ := cells_log (box_at HLB.out HX23.out)
          go_wp2_with fail
          refine (awake_any w23).mono ?_
          rintro e w24 ⟨rfl, hb24⟩
          have HB24 : Hid (Below w.heap.size w w24) := (HI.out.b.trans (HX23.out.mono HI.out.b.size)).trans (hb24.mono (by have := HX23.out.size; have := HI.out.b.size; omega))
          clear hb24 k0 k1 k2 k3 kf r0 r1 r2 r3 rf
          go_wp2_with fail
          go_ret
          exact ⟨rfl, HB24.out⟩
end Go.Proofs.Ytjcgggheablpeaa.Wal
