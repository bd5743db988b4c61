/- Contracts: Decode of what is sealed. -/
import Derived.Test.YtlieijbjbjnaiaaS6
namespace Go.Proofs.Ytlieijbjbjnaiaa.Sup
open Go.RowKit Crc Chk Frm Fra

theorem num_cut (l : List UInt8) (i k : Nat) (h : i + k ≤ 60) : num (((l.take 60).drop i).take k) = num ((l.drop i).take k) := by
  rw [List.drop_take, List.take_take, Nat.min_eq_left (by omega)]
theorem get_at (g i n k c B : Nat) (m : List UInt8) (W : World) (hr : Octs W B (some ⟨g, 0, none⟩) m) (hm : m.length = 60) (hn : n + i = 60) (hk : k < n) (hk7 : k ≤ 7) (hc : 60 ≤ c) (r : Int) (hR : (num ((m.drop i).take k) : Int) = r) :
    Calls Try.prog 26 #[.slice (some ⟨g, i, none⟩) n (c - i), .int .i64 k] W fun e w' => e = .returned (.tuple #[.int .i64 r, .slice (some ⟨g, i + k, none⟩) (n - k) (c - (i + k))]) ∧ Below W.heap.size W w' := by
  have h1 := hr.drop i
  have e1 : (⟨g, 0, none⟩ : Addr).add i = ⟨g, i, none⟩ := by unfold Addr.add; split <;> simp_all
  rw [e1, ← List.take_append_drop k (m.drop i)] at h1
  have := get_any ⟨g, i, none⟩ ((m.drop i).take k) ((m.drop i).drop k) n k (c - i) B W h1 (by simp; omega) (by simp; omega) (by simp; omega) (by omega) (by omega) hk7 r hR
  have e2 : (⟨g, i, none⟩ : Addr).add k = ⟨g, i + k, none⟩ := by unfold Addr.add; split <;> simp_all
  rw [e2, Nat.sub_sub] at this
  exact this.mono fun e w' ⟨a, b, d⟩ => ⟨a, d⟩
theorem enc_both (s : Sp) (W : World) : Calls Try.prog 14 #[sv s] W fun e w' => ∃ A k c, e = .returned (.tuple #[.slice A k c, .int .i64 (if mayB s = true then 0 else 1)]) ∧ (mayB s = true → Octs w' w'.heap.size A (encS s) ∧ k = 64) ∧ Below W.heap.size W w' := by
  cases hm : mayB s with
  | false => exact (enc_no s.g s.h s.n s.p W hm).mono fun e w' ⟨he, hb⟩ => ⟨none, 0, 0, by rw [he]; simp, (fun h => by simp at h), hb⟩
  | true =>
    refine (encS_any s W hm).mono fun e w' ⟨v, he, ho, hb⟩ => ?_
    obtain ⟨A, c, rfl, h2, h3⟩ := own_sl ho
    rw [encS_len] at he
    exact ⟨A, 64, c, by rw [he]; simp, (fun _ => ⟨h2, rfl⟩), hb⟩
set_option maxHeartbeats 3200000 in
theorem dec_at_go (ad : Addr) (l : List UInt8) (c B : Nat) (w : World) (h : Octs w B (some ad) l) (hB : B ≤ w.heap.size) (hl : l.length = 64) (hc : 64 ≤ c) (hs : soundB l = true) :
    Calls Try.prog 10 #[.slice (some ad) 64 c] w (DecD w (decS l)) := by
  obtain ⟨e, l1, l2⟩ := sum_split hl
  have HO := Lib.hid h
  have HX : Hid (∀ W, Below w.heap.size w W → Calls Try.prog 25 #[.slice (some ad) 64 c] W (Opened W (l.take 60))) := fun W hW => open_yes ad (l.take 60) (l.drop 60) 64 c B W (by rw [e]; exact HO.out.below hW hB) (by have := hW.size; omega) l2 (by omega) hc (by omega) (by unfold soundB at hs; exact of_decide_eq_true hs)
  have HB0 : Hid (Below w.heap.size w (w.alloc (.cells #[.int .i64 0, .int .i64 0, .int .i64 0, .int .i64 0] 23))) := (Below.refl _ _).alloc (Nat.le_refl _) _
  have HZ := Lib.hid (boxH_zero w)
  obtain ⟨s, hse⟩ : ∃ s, s = partS l := ⟨_, rfl⟩
  have g1 : (num (((l.take 60).drop 4).take 6) : Int) = s.g := by rw [num_cut _ _ _ (by omega), hse]; rfl
  have g2 : (num (((l.take 60).drop 10).take 1) : Int) = s.h := by rw [num_cut _ _ _ (by omega), hse]; rfl
  have g3 : (num (((l.take 60).drop 11).take 6) : Int) = s.n := by rw [num_cut _ _ _ (by omega), hse]; rfl
  have g4 : (num (((l.take 60).drop 17).take 2) : Int) = s.p := by rw [num_cut _ _ _ (by omega), hse]; rfl
  obtain ⟨m, hm⟩ : ∃ m, m = l.take 60 := ⟨_, rfl⟩
  rw [← hm] at HX l1 g1 g2 g3 g4
  have HG1 := fun g cp W B hr hcp => get_at g 4 56 6 cp B m W hr l1 rfl (by omega) (by omega) hcp s.g g1
  have HG2 := fun g cp W B hr hcp => get_at g 10 50 1 cp B m W hr l1 rfl (by omega) (by omega) hcp s.h g2
  have HG3 := fun g cp W B hr hcp => get_at g 11 49 6 cp B m W hr l1 rfl (by omega) (by omega) hcp s.n g3
  have HG4 := fun g cp W B hr hcp => get_at g 17 43 2 cp B m W hr l1 rfl (by omega) (by omega) hcp s.p g4
  replace HG1 := Lib.hid HG1
  replace HG2 := Lib.hid HG2
  replace HG3 := Lib.hid HG3
  replace HG4 := Lib.hid HG4
  have HSE := Lib.hid hse
  have HS := Lib.hid hs
  have HL := Lib.hid hl
  have HL1 := Lib.hid l1
  clear h e l1 l2 hs hl hm g1 g2 g3 g4 hse
  go_enter Try.func10, Try.ntmps10
  go_wp2_with fail
  refine (HX.out _ HB0.out).mono ?_
  rintro e w1 ⟨v1, rfl, hown1, hb1⟩
  have HZ1 := Lib.hid (HZ.out.below hb1 (by rw [alloc_size]; omega))
  have HB1 := Lib.hid (below_box hb1)
  have hz1 : w.heap.size < w1.heap.size := by have := hb1.size; rw [alloc_size] at this; omega
  clear hb1
  obtain ⟨g, cp, rfl, hg1, hg2, hcp⟩ := own_form hown1 (by rw [HL1.out]; omega)
  have HM := Lib.hid (octs_of_own hown1)
  rw [HL1.out] at hcp ⊢
  have hcp4 : ¬ cp = 4 := by omega
  clear hown1
  obtain ⟨W2, hW2⟩ : ∃ W2, W2 = w1.alloc (.cells #[.int .i64 0, .int .i64 0, .int .i64 0, .int .i64 0] 23) := ⟨_, rfl⟩
  have HR2 : Hid (BoxH w1.heap.size Sp.nil W2) := by rw [hW2]; exact boxH_zero w1
  have HB2 : Hid (Below w1.heap.size w1 W2) := by rw [hW2]; exact (Below.refl _ _).alloc (Nat.le_refl _) _
  have hz2 : W2.heap.size = w1.heap.size + 1 := by rw [hW2]; exact alloc_size _ _
  have HW2 := Lib.hid hW2
  have HZ2 := Lib.hid hz2
  clear hW2 hz2
  go_wp2_with fail
  rw [← HW2.out]
  have hr2 : w1.heap.size < W2.heap.size := by have := HZ2.out; omega
  refine (HG1.out g cp _ w1.heap.size (HM.out.below HB2.out (Nat.le_refl _)) hcp).mono ?_
  rintro e x3 ⟨rfl, hb3⟩
  have HC3 := Lib.hid (HR2.out.below hb3 hr2)
  have HD3 : Hid (Below w1.heap.size w1 x3) := HB2.out.trans (hb3.mono HB2.out.size)
  have hq3 : w1.heap.size < x3.heap.size := by have := hb3.size; omega
  obtain ⟨k0, k1, k2, k3, k4⟩ := HC3.out.cells
  obtain ⟨W3, hW3⟩ : ∃ W, W = x3.setCell ⟨w1.heap.size, 0, none⟩ (.int .i64 s.g) := ⟨_, rfl⟩
  have HR3 := Lib.hid (HC3.out.set0 s.g)
  have HB3 : Hid (Below w1.heap.size w1 W3) := by rw [hW3]; exact HD3.out.setCell (Nat.le_refl _) _
  have hr3 : w1.heap.size < W3.heap.size := by rw [hW3]; simpa using hq3
  rw [← hW3] at HR3
  have HW3 := Lib.hid hW3
  clear hb3 hW3
  go_wp2_with fail
  rw [← HW3.out]
  clear k0 k1 k2 k3 k4
  refine (HG2.out g cp _ w1.heap.size (HM.out.below HB3.out (Nat.le_refl _)) hcp).mono ?_
  rintro e x4 ⟨rfl, hb4⟩
  have HC4 := Lib.hid (HR3.out.below hb4 hr3)
  have HD4 : Hid (Below w1.heap.size w1 x4) := HB3.out.trans (hb4.mono HB3.out.size)
  have hq4 : w1.heap.size < x4.heap.size := by have := hb4.size; omega
  obtain ⟨k0, k1, k2, k3, k4⟩ := HC4.out.cells
  obtain ⟨W4, hW4⟩ : ∃ W, W = x4.setCell ⟨w1.heap.size, 1, none⟩ (.int .i64 s.h) := ⟨_, rfl⟩
  have HR4 := Lib.hid (HC4.out.set1 s.h)
  have HB4 : Hid (Below w1.heap.size w1 W4) := by rw [hW4]; exact HD4.out.setCell (Nat.le_refl _) _
  have hr4 : w1.heap.size < W4.heap.size := by rw [hW4]; simpa using hq4
  rw [← hW4] at HR4
  have HW4 := Lib.hid hW4
  clear hb4 hW4
  go_wp2_with fail
  rw [← HW4.out]
  clear k0 k1 k2 k3 k4
  refine (HG3.out g cp _ w1.heap.size (HM.out.below HB4.out (Nat.le_refl _)) hcp).mono ?_
  rintro e x5 ⟨rfl, hb5⟩
  have HC5 := Lib.hid (HR4.out.below hb5 hr4)
  have HD5 : Hid (Below w1.heap.size w1 x5) := HB4.out.trans (hb5.mono HB4.out.size)
  have hq5 : w1.heap.size < x5.heap.size := by have := hb5.size; omega
  obtain ⟨k0, k1, k2, k3, k4⟩ := HC5.out.cells
  obtain ⟨W5, hW5⟩ : ∃ W, W = x5.setCell ⟨w1.heap.size, 2, none⟩ (.int .i64 s.n) := ⟨_, rfl⟩
  have HR5 := Lib.hid (HC5.out.set2 s.n)
  have HB5 : Hid (Below w1.heap.size w1 W5) := by rw [hW5]; exact HD5.out.setCell (Nat.le_refl _) _
  have hr5 : w1.heap.size < W5.heap.size := by rw [hW5]; simpa using hq5
  rw [← hW5] at HR5
  have HW5 := Lib.hid hW5
  clear hb5 hW5
  go_wp2_with fail
  rw [← HW5.out]
  clear k0 k1 k2 k3 k4
  refine (HG4.out g cp _ w1.heap.size (HM.out.below HB5.out (Nat.le_refl _)) hcp).mono ?_
  rintro e x6 ⟨rfl, hb6⟩
  have HC6 := Lib.hid (HR5.out.below hb6 hr5)
  have HD6 : Hid (Below w1.heap.size w1 x6) := HB5.out.trans (hb6.mono HB5.out.size)
  have hq6 : w1.heap.size < x6.heap.size := by have := hb6.size; omega
  obtain ⟨k0, k1, k2, k3, k4⟩ := HC6.out.cells
  obtain ⟨W6, hW6⟩ : ∃ W, W = x6.setCell ⟨w1.heap.size, 3, none⟩ (.int .i64 s.p) := ⟨_, rfl⟩
  have HR6 := Lib.hid (HC6.out.set3 s.p)
  have HB6 : Hid (Below w1.heap.size w1 W6) := by rw [hW6]; exact HD6.out.setCell (Nat.le_refl _) _
  have hr6 : w1.heap.size < W6.heap.size := by rw [hW6]; simpa using hq6
  rw [← hW6] at HR6
  have HW6 := Lib.hid hW6
  clear hb6 hW6
  have HE : Hid (BoxH w1.heap.size s W6) := HR6.out
  obtain ⟨j0, j1, j2, j3, j4⟩ := HE.out.cells
  rw [HW6.out] at j0 j1 j2 j3 j4
  go_wp2_with fail
  rw [← HW6.out]
  clear k0 k1 k2 k3 k4
  refine (enc_both s _).mono ?_
  rintro e x7 ⟨A7, n7, c7, rfl, ho7, hb7⟩
  have HD7 : Hid (Below w1.heap.size w1 x7) := HB6.out.trans (hb7.mono HB6.out.size)
  have HT7 := Lib.hid (HZ1.out.below HD7.out hz1)
  have HS7 := Lib.hid (HE.out.below hb7 hr6)
  have HBw := Lib.hid (HB1.out.trans (HD7.out.mono HB1.out.size))
  have HOL := Lib.hid (HO.out.below HBw.out hB)
  obtain ⟨t0, t1, t2, t3, t4⟩ := HT7.out.cells
  obtain ⟨s0, s1, s2, s3, s4⟩ := HS7.out.cells
  have hne : w.heap.size ≠ w1.heap.size := by omega
  clear hb7
  cases hmay : mayB s with
  | false =>
    have HQ : Hid (decS l = (Sp.nil, 4)) := dec_form HL.out HS.out (fun h => by rw [← HSE.out, hmay] at h; exact absurd h.1 (by decide))
    clear ho7
    go_wp2_with fail
    refine bodyPost_ret (v := .tuple #[sv Sp.nil, .int .i64 4]) (by simp [results, Try.results10, go_sem, Sp.nil, t0, t1, t2, t3]) rfl ⟨by rw [HQ.out], ?_⟩
    exact st4s_below HBw.out (Nat.le_refl _) Sp.nil
  | true =>
    obtain ⟨o7, rfl⟩ := ho7 hmay
    have HEQ := Lib.hid (fun W => eq_any A7 (some ad) (encS s) l 64 64 c7 c x7.heap.size B W (encS_len s) HL.out)
    have HO7 := Lib.hid o7
    clear ho7 o7
    by_cases he : encS s = l
    · have HQ : Hid (decS l = (s, 0)) := by
        have := dec_yes HL.out HS.out (by rw [← HSE.out]; exact ⟨hmay, he⟩)
        rw [← HSE.out] at this
        exact this
      have hd : decide (encS s = l) = true := decide_eq_true he
      rw [hd] at HEQ
      clear he hd
      go_wp2_with fail
      refine (HEQ.out _ HO7.out HOL.out).mono ?_
      rintro e w' ⟨rfl, rfl⟩
      go_wp2_with fail
      refine bodyPost_ret (v := .tuple #[sv s, .int .i64 0]) (by simp [results, Try.results10, go_sem, t0, t1, t2, t3]) rfl ⟨by rw [HQ.out], ?_⟩
      exact st4s_below HBw.out (Nat.le_refl _) s
    · have HQ : Hid (decS l = (Sp.nil, 4)) := dec_form HL.out HS.out (fun h => by rw [← HSE.out] at h; exact he h.2)
      have hd : decide (encS s = l) = false := decide_eq_false he
      rw [hd] at HEQ
      clear he hd
      go_wp2_with fail
      refine (HEQ.out _ HO7.out HOL.out).mono ?_
      rintro e w' ⟨rfl, rfl⟩
      go_wp2_with fail
      refine bodyPost_ret (v := .tuple #[sv Sp.nil, .int .i64 4]) (by simp [results, Try.results10, go_sem, Sp.nil, t0, t1, t2, t3]) rfl ⟨by rw [HQ.out], ?_⟩
      exact st4s_below HBw.out (Nat.le_refl _) Sp.nil
theorem dec_any (A : Option Addr) (l : List UInt8) (n c B : Nat) (w : World) (h : Octs w B A l) (hB : B ≤ w.heap.size) (hl : l.length = n) (hc : n ≤ c) (hn : n ≤ 900000) :
    Calls Try.prog 10 #[.slice A n c] w (DecD w (decS l)) := by
  by_cases h64 : n = 64
  · subst h64
    obtain ⟨ad, rfl, -⟩ := h 0 (by omega)
    cases hs : soundB l with
    | false => rw [dec_sum hl hs]; exact dec_at_sum ad l c B w h hB hl hc hs
    | true => exact dec_at_go ad l c B w h hB hl hc hs
  · rw [dec_short (by omega)]
    exact dec_at_short A n c w h64 hn
end Go.Proofs.Ytlieijbjbjnaiaa.Sup
