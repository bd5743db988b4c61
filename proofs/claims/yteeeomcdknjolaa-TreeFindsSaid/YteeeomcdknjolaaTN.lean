/- How many pages: the document's Levels and Pages. -/
import Derived.Test.YteeeomcdknjolaaTA
namespace Go.Proofs.Yteeeomcdknjolaa.Tre
open Go.RowKit Crc Chk Frm Fra Nod

set_option maxHeartbeats 1600000 in
theorem rlevels_any (n : Int) (w : World) (h1 : -9223372036854775808 ≤ n) (h2 : n ≤ 3000) :
    Calls Try.prog 15 #[.int .i64 n] w fun e w' => ∃ v, e = .returned v ∧ OwnK w' w.heap.size v (levJ (lev0 n.toNat)) ∧ Below w.heap.size w w' := by
  have HL := Lib.hid (lev0_le h2)
  have HE : Hid (∀ k : Nat, 1 ≤ k → ¬ (5 * (k : Int) < n) → (k = 1 ∨ 5 * ((k : Int) - 1) < n) → k = lev0 n.toNat) := fun k h3 h4 h5 => lev0_of h3 (by omega) (by omega)
  have HPo := Lib.hid (lev0_pos n.toNat)
  obtain ⟨k0, hk0⟩ : ∃ k, k = lev0 n.toNat := ⟨_, rfl⟩
  rw [← hk0] at HL HE HPo ⊢
  clear hk0
  go_enter Try.func15, Try.ntmps15
  go_wp2_with fail
  go_loop [3] (fun x => ∃ k : Nat, x = .int .i64 k ∧ 1 ≤ k ∧ k ≤ 601 ∧ Hid (k = 1 ∨ 5 * ((k : Int) - 1) < n)) (fun x => 700 - (intOf x).toNat)
  case atStart => exact ⟨1, rfl, Nat.le_refl _, by omega, .inl rfl⟩
  case round =>
    obtain ⟨k, rfl, hk1, hk6, HC⟩ := hrel
    by_cases hlt : 5 * (k : Int) < n
    · go_wp2_with fail
      go_round
      case rel => exact ⟨k + 1, by go_num, by omega, by omega, .inr (by omega)⟩
      case measure => simp [intOf]; omega
    · have HK := Lib.hid (HE.out k hk1 (by omega) HC.out)
      obtain rfl : k = k0 := HK.out
      have HS : Hid (LevSt k k [(k : Int)]) := levSt_start HPo.out
      have HO : Hid (OwnK (w.alloc (.cells #[.int .i64 k] 3)) w.heap.size (.slice (some ⟨w.heap.size, 0, none⟩) 1 1) [(k : Int)]) :=
        World.ownsRow_lit w #[.int .i64 (k : Int)] 1 (Nat.le_refl _) (by decide) rfl
      have HB2 : Hid (Below w.heap.size w (w.alloc (.cells #[.int .i64 k] 3))) := (Below.refl _ _).alloc (Nat.le_refl _) _
      obtain ⟨w2, hw2⟩ : ∃ x, x = w.alloc (.cells #[.int .i64 k] 3) := ⟨_, rfl⟩
      rw [← hw2] at HO HB2
      have HW2 := Lib.hid hw2
      obtain ⟨K0, rfl⟩ : ∃ y, y = k := ⟨k, rfl⟩
      clear hw2
      go_upto_block 2 with fail
      rw [← HW2.out]
      go_wp2_with fail
      go_loopw [3, 4] (fun x y wr => ∃ (k : Nat) (L : List Int) (v : Value), x = .int .i64 k ∧ v = y ∧ Hid (LevSt K0 k L) ∧ Hid (OwnK wr w.heap.size v L) ∧ Hid (Below w.heap.size w wr)) (fun x _ _ => (intOf x).toNat)
      case atStart => exact ⟨K0, _, _, rfl, rfl, HS, HO, HB2⟩
      case round =>
        obtain ⟨k, L, v, rfl, rfl, HSt, HOw, HB⟩ := hrel
        have hkk := HSt.out.2.1
        by_cases hlt2 : 1 < k
        · have HU := Lib.hid (up_lt hlt2)
          have HN := Lib.hid (HSt.out.next hlt2)
          have HQ : Hid (∀ u : Nat, 1 ≤ u → ¬ 8 * u < k → (u = 1 ∨ 8 * (u - 1) < k) → u = up k) := fun u h3 h4 h5 => up_of (by omega) h3 h4 h5
          obtain ⟨v4, w4, hr4, ho4, hb4, hz4⟩ := run_appK wr w.heap.size v L HOw.out (up k : Nat) (by have := HSt.out.2.2.1; omega) HB.out.size
          have HR4 := Lib.hid hr4
          have HO4 := Lib.hid ho4
          have HB4 := Lib.hid (HB.out.trans hb4)
          obtain ⟨wl, rfl⟩ : ∃ y, y = wr := ⟨wr, rfl⟩
          clear hr4 ho4 hb4 hz4
          go_wp2_with fail
          go_loop [5] (fun x => ∃ u : Nat, x = .int .i64 u ∧ 1 ≤ u ∧ u ≤ 601 ∧ Hid (u = 1 ∨ 8 * (u - 1) < k)) (fun x => 700 - (intOf x).toNat)
          case atStart => exact ⟨1, rfl, Nat.le_refl _, by omega, .inl rfl⟩
          case round =>
            obtain ⟨u, rfl, hu1, hu6, HC2⟩ := hrel
            by_cases hlt3 : 8 * u < k
            · have hlt3i : 8 * (u : Int) < k := by omega
              go_wp2_with fail
              go_round
              case rel => exact ⟨u + 1, by go_num, by omega, by omega, .inr (by omega)⟩
              case measure => simp [intOf]; omega
            · have hlt3i : ¬ 8 * (u : Int) < k := by omega
              have HX := Lib.hid (HQ.out u hu1 hlt3 HC2.out)
              rw [← HX.out] at HR4
              go_wp2_with (at_builtin; refine Go.Lib.wpList_append_run _ rfl (.tmp 23) (.tmp 25) 32 32 rfl _ _ rfl rfl _ w4 HR4.out ?_)
              go_roundw
              case rel => exact ⟨up k, _, _, by rw [HX.out], rfl, HN, HO4, HB4⟩
              case measure => show u < k; rw [HX.out]; exact HU.out
        · have HF := HSt.out.fin hlt2
          rw [HF] at HOw
          clear HF HSt
          go_wp2_with fail
          go_ret
          exact ⟨_, rfl, HOw.out, HB.out⟩
set_option maxHeartbeats 800000 in
theorem rpages_any (n : Int) (w : World) (h1 : -9223372036854775808 ≤ n) (h2 : n ≤ 3000) :
    Calls Try.prog 13 #[.int .i64 n] w fun e w' => e = .returned (.int .i64 (pagesN n.toNat : Nat)) ∧ Below w.heap.size w w' := by
  have HV := Lib.hid (fun W => rlevels_any n W h1 h2)
  have HL := Lib.hid (lev_sums n.toNat (lev0_le h2))
  have HR := Lib.hid (levJ_sum n.toNat)
  have HG : Hid (∀ x ∈ levJ (lev0 n.toNat), 1 ≤ x ∧ x ≤ 600) := fun x hx => by have := levJ_rng hx (lev0_pos n.toNat); have := lev0_le h2; omega
  have HZ := Lib.hid (Nat.le_trans (levJ_len _ (lev0_pos n.toNat)) (lev0_le h2))
  obtain ⟨L, hL⟩ : ∃ k, k = levJ (lev0 n.toNat) := ⟨_, rfl⟩
  obtain ⟨t, ht⟩ : ∃ t, t = pagesN n.toNat := ⟨_, rfl⟩
  rw [← hL] at HV HL HR HG HZ
  rw [← ht] at HR ⊢
  clear hL ht h2
  go_enter Try.func13, Try.ntmps13
  go_wp2_with fail
  refine (HV.out _).mono ?_
  rintro e w1 ⟨v, rfl, ho, hb⟩
  obtain ⟨A, c, rfl, hc⟩ := row_sl ho
  have HK := Lib.hid (kds_of ho rfl (fun x hx => by have := HG.out x hx; omega))
  have HB := Lib.hid hb
  obtain ⟨m, hm⟩ : ∃ m, m = L.length := ⟨_, rfl⟩
  have HM := Lib.hid hm
  rw [← hm]
  have hz := HZ.out
  rw [← hm] at hz
  clear ho hb hm HV hc
  go_wp2_with fail
  go_loopw [4, 5] (fun x y wr => ∃ (k : Nat) (s : Int), k ≤ m ∧ x = .int .i64 s ∧ y = .int .i64 k ∧ Hid (s = (L.take k).sum) ∧ wr = w1) (fun _ y _ => m - (intOf y).toNat)
  case atStart => exact ⟨0, 0, Nat.zero_le _, rfl, rfl, (by show _ = _; simp), rfl⟩
  case round =>
    obtain ⟨k, s, hk, rfl, rfl, HSm, rfl⟩ := hrel
    by_cases hlt : k < m
    · have hlt' : k < L.length := by rw [← HM.out]; exact hlt
      obtain ⟨b0, o0, rfl, hb1, hc0, -, -⟩ := HK.out k hlt'
      have HN : Hid (s + L[k] = (L.take (k + 1)).sum) := by show _ = _; rw [HSm.out, sumI_take L k hlt']
      have h3 := HL.out (k + 1)
      rw [← HN.out] at h3
      obtain ⟨x, hx⟩ : ∃ x, x = L[k] := ⟨_, rfl⟩
      rw [← hx] at hc0 HN h3
      obtain ⟨h4, h5⟩ := h3
      clear hx hlt'
      go_wp2_with fail
      go_roundw
      case rel => exact ⟨k + 1, s + x, by omega, by go_num, by go_num, HN, by first | trivial | rfl⟩
      case measure => simp [intOf]; omega
    · obtain rfl : k = m := by omega
      go_wp2_with fail
      go_ret
      refine ⟨retv ?_, HB.out⟩
      rw [HSm.out, HM.out, List.take_length, HR.out]
end Go.Proofs.Yteeeomcdknjolaa.Tre
