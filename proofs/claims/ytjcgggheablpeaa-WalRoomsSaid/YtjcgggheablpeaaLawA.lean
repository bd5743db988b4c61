/- The walk of the law WalRooms. -/
import Derived.Test.YtjcgggheablpeaaW13
namespace Go.Proofs.Ytjcgggheablpeaa.Wal
open Go.RowKit Dis Dis.Dk

theorem sectZ_mono {n m : Int} (h0 : 0 ≤ n) (h : n ≤ m) (hm : 0 < sectZ m) : 0 < sectZ n ∧ sectZ n ≤ sectZ m := by
  unfold sectZ at hm ⊢
  split at hm
  · rw [if_pos (by omega), if_pos (by omega)]; omega
  · omega
theorem room_less {n a k m : Int} (h0 : 0 ≤ k) (h : k ≤ m) (hr : roomB n a m = true) : roomB n a k = true := by
  unfold roomB at hr ⊢
  rw [Bool.and_eq_true, Bool.and_eq_true] at hr ⊢
  obtain ⟨h1, h2, h3⟩ := hr
  have h2' : 0 < sectZ m := by simpa using h2
  have h3' : sectZ m < n - a := by simpa using h3
  have := sectZ_mono h0 h h2'
  exact ⟨h1, by simp; omega, by simp; omega⟩
theorem room_more {n a k : Int} (hr : roomB n a k = true) : roomB (n + 1) a k = true := by
  unfold roomB at hr ⊢
  rw [Bool.and_eq_true, Bool.and_eq_true, placedB_iff] at hr
  rw [Bool.and_eq_true, Bool.and_eq_true, placedB_iff]
  obtain ⟨h1, h2, h3⟩ := hr
  have h3' : sectZ k < n - a := by simpa using h3
  exact ⟨by omega, h2, by simp; omega⟩
abbrev rmv (f n a x p q v : Int) : Value := .agg #[.int .i64 f, .int .i64 n, .int .i64 a, .int .i64 x, .int .i64 p, .int .i64 q, .int .u8 v]
theorem cells_of7 {w : World} {g : Nat} {a b c d e f h : Value} {t : TypeId} (hh : w.heap[g]? = some (.cells #[a, b, c, d, e, f, h] t (0, 0))) :
    w.cell? ⟨g, 0, none⟩ = some a ∧ w.cell? ⟨g, 1, none⟩ = some b ∧ w.cell? ⟨g, 2, none⟩ = some c ∧ w.cell? ⟨g, 3, none⟩ = some d ∧ w.cell? ⟨g, 4, none⟩ = some e ∧ w.cell? ⟨g, 5, none⟩ = some f ∧ w.cell? ⟨g, 6, none⟩ = some h := by
  refine ⟨?_, ?_, ?_, ?_, ?_, ?_, ?_⟩
  · rw [cell_of_row w g 0 _ _ _ hh]; rfl
  · rw [cell_of_row w g 1 _ _ _ hh]; rfl
  · rw [cell_of_row w g 2 _ _ _ hh]; rfl
  · rw [cell_of_row w g 3 _ _ _ hh]; rfl
  · rw [cell_of_row w g 4 _ _ _ hh]; rfl
  · rw [cell_of_row w g 5 _ _ _ hh]; rfl
  · rw [cell_of_row w g 6 _ _ _ hh]; rfl
set_option maxRecDepth 100000 in
set_option maxHeartbeats 16000000 in
theorem rooms_any (f n a x p q : Int) (v : Nat) (w : World) (hn : -9223372036854775808 ≤ n) (hn2 : n ≤ 9223372036854775807) (ha : -9223372036854775808 ≤ a) (ha2 : a ≤ 9223372036854775807) (hv : v < 256) :
    Calls Try.prog 9 #[rmv f n a x p q v] w fun e w' => e = .returned (.bool true) ∧ Below w.heap.size w w' := by
  obtain ⟨w1, hw1⟩ : ∃ w1, w1 = w.alloc (.cells #[.int .i64 f, .int .i64 n, .int .i64 a, .int .i64 x, .int .i64 p, .int .i64 q, .int .u8 v] 70) := ⟨_, rfl⟩
  have hX : w1.heap[w.heap.size]? = some (.cells #[.int .i64 f, .int .i64 n, .int .i64 a, .int .i64 x, .int .i64 p, .int .i64 q, .int .u8 v] 70 (0, 0)) := by rw [hw1]; exact heap_alloc_new _ _
  have HB1 : Hid (Below w.heap.size w w1) := by rw [hw1]; exact (Below.refl _ _).alloc (Nat.le_refl _) _
  have HX := Lib.hid hX
  have HW := Lib.hid hw1
  clear hX hw1
  go_enter Try.func9, Try.ntmps9
  go_upto_region 1 with fail
  rw [← HW.out]
  refine wp_region_acts (by kernel_rfl) (w1.heap.size) (Nat.le_refl _) [kv (.pointer (some ⟨w.heap.size, 0, none⟩)), kv (lgv f n a x), kv (.pointer (some ⟨w.heap.size, 4, none⟩)), kv (.int .i64 p), kv (.pointer (some ⟨w.heap.size, 5, none⟩)), kv (.int .i64 q), kv (.pointer (some ⟨w.heap.size, 6, none⟩)), kv (.int .u8 v), lfBox 1 w1.heap.size, lfSL w1.heap.size f n a x, kv (.int .i64 p), kv (.int .i64 q), kv (.int .u8 v)] [13, 14, 15, 16, 17, 18, 19, 20, 3, 3, 4, 5, 6] [none, none, none, none, none, none, none, none, none, some 1, none, none, none] rfl (fun _ _ => True) ?hgam1 (by kernel_rfl) (backsB_spec (by kernel_rfl)) ?start1 ?step1  ?store1 ?fin1
  case hgam1 =>
    intro listed i w2 w3 hki hlo2 hb2 hg2
    exact trivial
  case start1 => exact trivial
  case step1 =>
    intro i o listed a1 w2 hki ho h0 hclo hk hdep
    have hi : i < 13 := (Array.getElem?_eq_some_iff.1 ho).1
    have e1 := ev (show a1.eval (.tmp 1) = .pointer (some ⟨w.heap.size, 0, none⟩) from hk.frame 1 (frame_of (by kernel_rfl)))
    obtain ⟨k0, k1, k2, k3, k4, k5, k6⟩ := cells_of7 (box_at HX.out hk.below)
    have hii : i = 0 ∨ i = 1 ∨ i = 2 ∨ i = 3 ∨ i = 4 ∨ i = 5 ∨ i = 6 ∨ i = 7 ∨ i = 8 ∨ i = 9 ∨ i = 10 ∨ i = 11 ∨ i = 12 := by omega
    rcases hii with rfl | rfl | rfl | rfl | rfl | rfl | rfl | rfl | rfl | rfl | rfl | rfl | rfl
    · cases ho
      refine wpOp_of rfl rfl (wp_value (v := .pointer (some ⟨w.heap.size, 0, none⟩)) ?_ rfl)
      go_simp
    · cases ho
      have d0 := ev (show a1.eval (.tmp 13) = .pointer (some ⟨w.heap.size, 0, none⟩) from hk.done 0 _ 13 rfl rfl (hdep ⟨0, .data⟩ (by simp) rfl))
      refine wpOp_of rfl rfl (wp_value (v := lgv f n a x) ?_ rfl)
      go_simp
    · cases ho
      refine wpOp_of rfl rfl (wp_value (v := .pointer (some ⟨w.heap.size, 4, none⟩)) ?_ rfl)
      go_simp
    · cases ho
      have d2 := ev (show a1.eval (.tmp 15) = .pointer (some ⟨w.heap.size, 4, none⟩) from hk.done 2 _ 15 rfl rfl (hdep ⟨2, .data⟩ (by simp) rfl))
      refine wpOp_of rfl rfl (wp_value (v := .int .i64 p) ?_ rfl)
      go_simp
    · cases ho
      refine wpOp_of rfl rfl (wp_value (v := .pointer (some ⟨w.heap.size, 5, none⟩)) ?_ rfl)
      go_simp
    · cases ho
      have d4 := ev (show a1.eval (.tmp 17) = .pointer (some ⟨w.heap.size, 5, none⟩) from hk.done 4 _ 17 rfl rfl (hdep ⟨4, .data⟩ (by simp) rfl))
      refine wpOp_of rfl rfl (wp_value (v := .int .i64 q) ?_ rfl)
      go_simp
    · cases ho
      refine wpOp_of rfl rfl (wp_value (v := .pointer (some ⟨w.heap.size, 6, none⟩)) ?_ rfl)
      go_simp
    · cases ho
      have d6 := ev (show a1.eval (.tmp 19) = .pointer (some ⟨w.heap.size, 6, none⟩) from hk.done 6 _ 19 rfl rfl (hdep ⟨6, .data⟩ (by simp) rfl))
      refine wpOp_of rfl rfl (wp_value (v := .int .u8 v) ?_ rfl)
      go_simp
    · cases ho
      refine wpOp_of rfl rfl ?_
      go_simp
      exact ⟨_, rfl, ⟨_, _, rfl, hk.below.size, box_new _ _, shp1 _ _ _ _⟩, (Below.refl _ _).alloc (Nat.le_refl _) _⟩
    · exact absurd hki (by simp)
    · cases ho
      have d3 := ev (show a1.eval (.tmp 16) = .int .i64 p from hk.done 3 _ 16 rfl rfl (hdep ⟨3, .data⟩ (by simp) rfl))
      refine wpOp_of rfl rfl (wp_value (v := .int .i64 p) ?_ rfl)
      simp [execOp, d3, Act.eval]
    · cases ho
      have d5 := ev (show a1.eval (.tmp 18) = .int .i64 q from hk.done 5 _ 18 rfl rfl (hdep ⟨5, .data⟩ (by simp) rfl))
      refine wpOp_of rfl rfl (wp_value (v := .int .i64 q) ?_ rfl)
      simp [execOp, d5, Act.eval]
    · cases ho
      have d7 := ev (show a1.eval (.tmp 20) = .int .u8 v from hk.done 7 _ 20 rfl rfl (hdep ⟨7, .data⟩ (by simp) rfl))
      refine wpOp_of rfl rfl (wp_value (v := .int .u8 v) ?_ rfl)
      simp [execOp, d7, Act.eval]
  case store1 =>
    intro i K o listed a1 w2 hki ho h0 hclo hk hdep
    have hi : i < 13 := (Array.getElem?_eq_some_iff.1 ho).1
    have e1 := ev (show a1.eval (.tmp 1) = .pointer (some ⟨w.heap.size, 0, none⟩) from hk.frame 1 (frame_of (by kernel_rfl)))
    have hii : i = 0 ∨ i = 1 ∨ i = 2 ∨ i = 3 ∨ i = 4 ∨ i = 5 ∨ i = 6 ∨ i = 7 ∨ i = 8 ∨ i = 9 ∨ i = 10 ∨ i = 11 ∨ i = 12 := by omega
    rcases hii with rfl | rfl | rfl | rfl | rfl | rfl | rfl | rfl | rfl | rfl | rfl | rfl | rfl
    · exact absurd hki (by simp)
    · exact absurd hki (by simp)
    · exact absurd hki (by simp)
    · exact absurd hki (by simp)
    · exact absurd hki (by simp)
    · exact absurd hki (by simp)
    · exact absurd hki (by simp)
    · exact absurd hki (by simp)
    · exact absurd hki (by simp)
    · cases hki
      cases ho
      have d1 := ev (show a1.eval (.tmp 14) = lgv f n a x from hk.done 1 _ 14 rfl rfl (hdep ⟨1, .data⟩ (by simp) rfl))
      obtain ⟨g, o1, hg, hge, hgo, hgs⟩ := hk.done 8 _ 3 rfl rfl (hdep ⟨8, .data⟩ (by simp) rfl)
      have d8 := ev hg
      obtain ⟨y0, y1, y2, y3, j0, j1, j2, j3, jf⟩ := cells_any1 hgo hgs
      refine wpOp_of rfl rfl ?_
      go_simp
      exact ⟨rfl, ⟨g, hg, hge, log_at hgo hgs _ _ _ _⟩, st4_below (Below.refl _ _) hge _ _ _ _, rk_log hgo hgs _ _ _ _, trivial⟩
    · exact absurd hki (by simp)
    · exact absurd hki (by simp)
    · exact absurd hki (by simp)
  case fin1 =>
    intro listed a2 w2 hall hk
    have hact := keptA_all [13, 14, 15, 16, 17, 18, 19, 20, 3, 4, 5, 6] hk (by kernel_rfl)
    have h13 := hk.done 0 _ 13 rfl rfl (hall 0 (by decide))
    have h14 := hk.done 1 _ 14 rfl rfl (hall 1 (by decide))
    have h15 := hk.done 2 _ 15 rfl rfl (hall 2 (by decide))
    have h16 := hk.done 3 _ 16 rfl rfl (hall 3 (by decide))
    have h17 := hk.done 4 _ 17 rfl rfl (hall 4 (by decide))
    have h18 := hk.done 5 _ 18 rfl rfl (hall 5 (by decide))
    have h19 := hk.done 6 _ 19 rfl rfl (hall 6 (by decide))
    have h20 := hk.done 7 _ 20 rfl rfl (hall 7 (by decide))
    have h3 := hk.done 8 _ 3 rfl rfl (hall 8 (by decide))
    have h4 := hk.done 10 _ 4 rfl rfl (hall 10 (by decide))
    have h5 := hk.done 11 _ 5 rfl rfl (hall 11 (by decide))
    have h6 := hk.done 12 _ 6 rfl rfl (hall 12 (by decide))
    have s9 := hk.acts 9 _ rfl rfl (hall 9 (by decide))
    change PhK _ 9 (a2.eval (.tmp 3)) w2 at s9
    have HB := Lib.hid hk.below
    simp only [List.foldl_cons, List.foldl_nil, List.setIfInBounds_toArray, List.set_cons_succ, List.set_cons_zero] at hact
    generalize a2.eval (.tmp 13) = u13 at hact h13
    generalize a2.eval (.tmp 14) = u14 at hact h14
    generalize a2.eval (.tmp 15) = u15 at hact h15
    generalize a2.eval (.tmp 16) = u16 at hact h16
    generalize a2.eval (.tmp 17) = u17 at hact h17
    generalize a2.eval (.tmp 18) = u18 at hact h18
    generalize a2.eval (.tmp 19) = u19 at hact h19
    generalize a2.eval (.tmp 20) = u20 at hact h20
    generalize a2.eval (.tmp 3) = u3 at hact h3 s9
    generalize a2.eval (.tmp 4) = u4 at hact h4
    generalize a2.eval (.tmp 5) = u5 at hact h5
    generalize a2.eval (.tmp 6) = u6 at hact h6
    rw [hact]
    clear hact
    obtain ⟨g3, rfl, hg3, hl3⟩ := s9
    obtain rfl : u4 = .int .i64 p := h4
    obtain rfl : u5 = .int .i64 q := h5
    obtain rfl : u6 = .int .u8 v := h6
    obtain ⟨w2', rfl⟩ : ∃ x, x = w2 := ⟨w2, rfl⟩
    have HBB2 := Lib.hid (HB1.out.trans (HB.out.mono HB1.out.size))
    have HL3 := Lib.hid hl3
    clear hl3 h3 hk h13 h14 h15 h16 h17 h18 h19 h20
    go_upto_region 2 with fail
    go_cut [38] from 21 to 38 (fun s38 wx => s38 = .bool false ∧ Below w2'.heap.size w2' wx)
    case first =>
      obtain ⟨k0, k1, k2, k3, kf⟩ := cells_log HL3.out
      by_cases c1 : p ≤ q
      · by_cases c2 : 0 ≤ p
        · have RM := Lib.hid (fun (W : World) (k : Int) => room_any f n a x k W hn hn2 ha ha2)
          go_wp2_with fail
          refine (RM.out w2' q).mono ?_
          rintro e w3 ⟨rfl, hb3⟩
          have HB3 := Lib.hid hb3
          obtain ⟨p0, p1, p2, p3, pf⟩ := cells_log (box_at HL3.out hb3)
          clear hb3
          cases hr : roomB n a q with
          | false =>
            clear hr
            go_wp2_with fail
            go_meet
            exact ⟨rfl, HB3.out⟩
          | true =>
            have HR2 : Hid (roomB n a p = true) := room_less c2 c1 hr
            clear hr
            go_wp2_with fail
            refine (RM.out w3 p).mono ?_
            rintro e w4 ⟨rfl, hb4⟩
            rw [HR2.out]
            have HB4 := Lib.hid (HB3.out.trans (hb4.mono HB3.out.size))
            clear hb4
            go_wp2_with fail
            go_meet
            exact ⟨rfl, HB4.out⟩
        · have c2' : decide (0 ≤ p) = false := by simpa using c2
          go_wp2_with fail
          go_meet
          exact ⟨rfl, Below.refl _ _⟩
      · have c1' : decide (p ≤ q) = false := by simpa using c1
        go_wp2_with fail
        go_meet
        exact ⟨rfl, Below.refl _ _⟩
    case rest =>
    obtain ⟨hs38, hb5⟩ := hcut
    obtain ⟨w5, rfl⟩ : ∃ x, x = wc := ⟨wc, rfl⟩
    subst hs38
    have HBB5 := Lib.hid (HBB2.out.trans (hb5.mono HBB2.out.size))
    clear hb5
    obtain ⟨W6, hW6⟩ : ∃ W6, W6 = w5.alloc (lgo 0 12 ((v : Int) % 11) 1) := ⟨_, rfl⟩
    have hb6 : Below w5.heap.size w5 W6 := by rw [hW6]; exact (Below.refl _ _).alloc (Nat.le_refl _) _
    have HL6 : Hid (W6.heap[w5.heap.size]? = some (lgo 0 12 ((v : Int) % 11) 1)) := by show _ = _; rw [hW6]; exact heap_alloc_new _ _
    have HBB6 := Lib.hid (HBB5.out.trans (hb6.mono HBB5.out.size))
    have HW6 := Lib.hid hW6
    clear hb6 hW6
    go_upto_region 6 with fail
    rw [← HW6.out]
    obtain ⟨kk, hkk, hkd⟩ : ∃ kk : Nat, kk ≤ 6000 ∧ ((0 ≤ p ∧ p ≤ 6000 ∧ p = kk) ∨ (¬ (0 ≤ p ∧ p ≤ 6000) ∧ kk = 300)) := by
      by_cases h : 0 ≤ p ∧ p ≤ 6000
      · exact ⟨p.toNat, by omega, .inl ⟨h.1, h.2, by omega⟩⟩
      · exact ⟨300, by decide, .inr ⟨h, rfl⟩⟩
    have HKD := Lib.hid hkd
    clear hkd
    obtain ⟨T, hT⟩ : ∃ T, T = decide (¬ (0 ≤ p ∧ p ≤ 6000)) := ⟨_, rfl⟩
    have HT := Lib.hid hT
    clear hT
    go_cut [49] from 44 to 49 (fun s49 wx => s49 = .bool T ∧ W6 = wx)
    case first =>
      by_cases c1 : p < 0
      · have HT2 : Hid (T = true) := by show _ = _; rw [HT.out]; simp; omega
        go_wp2_with fail
        go_meet
        exact ⟨by rw [HT2.out], rfl⟩
      · have c1' : decide (p < 0) = false := by simpa using c1
        by_cases c2 : 6000 < p
        · have HT2 : Hid (T = true) := by show _ = _; rw [HT.out]; simp; omega
          go_wp2_with fail
          go_meet
          exact ⟨by rw [HT2.out], rfl⟩
        · have c2' : decide (6000 < p) = false := by simpa using c2
          have HT2 : Hid (T = false) := by show _ = _; rw [HT.out]; simp; omega
          go_wp2_with fail
          go_meet
          exact ⟨by rw [HT2.out], rfl⟩
    case rest =>
    obtain ⟨hs49, rfl⟩ := hcut
    subst hs49
    go_upto_if 49 with fail
    go_cut [8] (fun s8 wx => s8 = .int .i64 (kk : Int) ∧ W6 = wx)
    case first =>
      cases hTv : T with
      | true =>
        have HE : Hid (kk = 300) := by
          have h1 := HT.out
          rw [hTv] at h1
          have h2 : ¬ (0 ≤ p ∧ p ≤ 6000) := of_decide_eq_true h1.symm
          rcases HKD.out with ⟨a, b, _⟩ | ⟨_, b⟩
          · exact absurd ⟨a, b⟩ h2
          · exact b
        clear hTv
        go_wp2_with fail
        go_meet
        exact ⟨by rw [HE.out]; rfl, rfl⟩
      | false =>
        have HE : Hid (p = kk) := by
          have h1 := HT.out
          rw [hTv] at h1
          have h2 : 0 ≤ p ∧ p ≤ 6000 := Decidable.of_not_not (of_decide_eq_false h1.symm)
          rcases HKD.out with ⟨_, _, b⟩ | ⟨b, _⟩
          · exact b
          · exact absurd h2 b
        clear hTv
        go_wp2_with fail
        go_meet
        exact ⟨by rw [HE.out], rfl⟩
    case rest =>
    obtain ⟨hs8, rfl⟩ := hcut
    subst hs8
    clear HT HKD
    obtain ⟨at', hat⟩ : ∃ at' : Nat, (v : Int) % 11 = (at' : Int) := ⟨v % 11, by omega⟩
    have hvm : at' < 11 := by omega
    rw [hat] at HL6
    clear hat HW6
    obtain ⟨k0, k1, k2, k3, kf⟩ := cells_log HL6.out
    obtain ⟨W7, hW7⟩ : ∃ W7, W7 = W6.alloc (lgo 0 13 (at' : Int) 1) := ⟨_, rfl⟩
    have hb7 : Below W6.heap.size W6 W7 := by rw [hW7]; exact (Below.refl _ _).alloc (Nat.le_refl _) _
    have HL7 : Hid (W7.heap[W6.heap.size]? = some (lgo 0 13 (at' : Int) 1)) := by show _ = _; rw [hW7]; exact heap_alloc_new _ _
    have HL67 := Lib.hid (box_at HL6.out hb7)
    have HBB7 := Lib.hid (HBB6.out.trans (hb7.mono HBB6.out.size))
    have hs67 : W6.heap.size < W7.heap.size := lt_of_at HL7.out
    have hg7l := lt_of_at HL67.out
    have HW7 := Lib.hid hW7
    clear hb7 hW7
    obtain ⟨dN, hdN⟩ : ∃ dN : List UInt8, dN = List.replicate kk 0 := ⟨_, rfl⟩
    have hdl : dN.length = kk := by rw [hdN, List.length_replicate]
    have HDN := Lib.hid hdN
    have HMK := Lib.hid (fun (W : World) => make5 kk (by omega) W)
    clear hdN
    rcases hRRb : appR (newD 13) 0 12 (at' : Int) 1 dN with ⟨Eb, ⟨g0b, g1b, g2b, g3b⟩, eb⟩
    have hfEb : Fit Eb (0 + 500) := by have := (appR_fit 0 12 (at' : Int) 1 dN (newD_fit (n := 13) (by decide) (by decide))).1; rw [hRRb] at this; exact this
    have hsEb : Eb.S.length = ((newD 13)).S.length := by have := (appR_fit 0 12 (at' : Int) 1 dN (newD_fit (n := 13) (by decide) (by decide))).2; rw [hRRb] at this; exact this
    have HAPb : Hid (∀ (W : World) (v : Value) (A : Option Addr) (c : Nat), Okd W v (newD 13) → Octs W W.heap.size A dN → Calls Try.prog 13 #[v, lgv 0 12 (at' : Int) 1, .slice A kk c] W fun e w' => ∃ v', e = .returned (.tuple #[v', lgv g0b g1b g2b g3b, .int .i64 eb]) ∧ OkE w' v' Eb eb ∧ Below W.heap.size W w') := fun W v A c h1 h2 => by
      have := append_at W v (newD 13) 0 0 12 (at' : Int) 1 A dN kk c hdl h1 (newD_fit (n := 13) (by decide) (by decide)) (by decide) (by rw [newD_len]; decide) (by decide) (by decide) (by omega) (by omega) (by decide) (by decide) (by decide) (by decide) h2 (by omega)
      unfold AppP at this
      rw [hRRb] at this
      exact this
    have HRRb := Lib.hid hRRb
    have HSEb := Lib.hid hsEb
    clear hRRb hsEb
    have HEB : Hid ((eb = 0 ∧ roomB 12 (at' : Int) (kk : Int) = true) ∨ (eb = 9 ∧ roomB 12 (at' : Int) (kk : Int) = false)) := by
      have hm := fit_may (newD_fit (n := 13) (by decide) (by decide)) (f := 0) (n := 12) (a := at') (x := 1) (by decide) (by omega) (by decide) (by decide) (by rw [newD_len]; decide)
      have h1 := app_done (d := dN) (newD_quiet 13) hm (by decide)
      have h2 : appR (newD 13) ((0 : Nat) : Int) ((12 : Nat) : Int) (at' : Int) ((1 : Nat) : Int) dN = (Eb, (g0b, g1b, g2b, g3b), eb) := HRRb.out
      rw [h2, hdl] at h1
      simp only at h1
      rcases h1 with ⟨_, h⟩ | ⟨h, _, h3⟩ | ⟨_, h3, _, h, _⟩
      · omega
      · exact .inr ⟨h, h3⟩
      · exact .inl ⟨h, h3⟩
    go_upto_region 10 with fail
    rw [← HW7.out]
    refine wp_region_acts (by kernel_rfl) (W7.heap.size) (Nat.le_refl _) [lfE (newD 13) 0 (newD_fit (n := 13) (by decide) (by decide)) 0, kv (lgv 0 12 (at' : Int) 1), kv (.int .i64 (kk : Int)), lfOctN kk dN, lfT3 Eb (0 + 500) hfEb (lgv g0b g1b g2b g3b) eb, lfT3 Eb (0 + 500) hfEb (lgv g0b g1b g2b g3b) eb, lfE Eb (0 + 500) hfEb eb, kv (lgv g0b g1b g2b g3b), kv (.int .i64 eb), lfBox 0 W7.heap.size, lfBox 1 W7.heap.size, lfSD W7.heap.size Eb (0 + 500) hfEb eb, lfSL W7.heap.size g0b g1b g2b g3b, kv (.int .i64 eb)] [56, 57, 58, 59, 60, 55, 61, 62, 63, 10, 11, 10, 11, 12] [none, none, none, none, none, none, none, none, none, none, none, some 0, some 1, none] rfl (fun _ _ => True) ?hgam4 (by kernel_rfl) (backsB_spec (by kernel_rfl)) ?start4 ?step4  ?store4 ?fin4
    case hgam4 =>
      intro listed i w2 w3 hki hlo2 hb2 hg2
      exact trivial
    case start4 => exact trivial
    case step4 =>
      intro i o listed a1 w2 hki ho h0 hclo hk hdep
      have hi : i < 14 := (Array.getElem?_eq_some_iff.1 ho).1
      have e7 := ev (show a1.eval (.tmp 7) = .pointer (some ⟨w5.heap.size, 0, none⟩) from hk.frame 7 (frame_of (by kernel_rfl)))
      have e8 := ev (show a1.eval (.tmp 8) = .int .i64 (kk : Int) from hk.frame 8 (frame_of (by kernel_rfl)))
      have hii : i = 0 ∨ i = 1 ∨ i = 2 ∨ i = 3 ∨ i = 4 ∨ i = 5 ∨ i = 6 ∨ i = 7 ∨ i = 8 ∨ i = 9 ∨ i = 10 ∨ i = 11 ∨ i = 12 ∨ i = 13 := by omega
      rcases hii with rfl | rfl | rfl | rfl | rfl | rfl | rfl | rfl | rfl | rfl | rfl | rfl | rfl | rfl
      · cases ho
        refine wpOp_of rfl rfl ?_
        go_simp
        refine (some_any 13 w2 (by decide) (by decide) (by decide)).mono ?_
        rintro e w3 ⟨v0, rfl, hok3, hb3⟩
        exact ⟨_, rfl, hok3, hb3⟩
      · cases ho
        obtain ⟨k0, k1, k2, k3, kf⟩ := cells_log (box_at HL67.out hk.below)
        refine wpOp_of rfl rfl (wp_value (v := lgv 0 12 (at' : Int) 1) ?_ rfl)
        go_simp
      · cases ho
        refine wpOp_of rfl rfl (wp_value (v := .int .i64 (kk : Int)) ?_ rfl)
        simp [execOp, e8, Act.eval]
      · cases ho
        have d2 := ev (show a1.eval (.tmp 58) = .int .i64 (kk : Int) from hk.done 2 _ 58 rfl rfl (hdep ⟨2, .data⟩ (by simp) rfl))
        have hmk := HMK.out w2
        refine wpOp_of rfl rfl ?_
        go_simp
        refine ⟨_, rfl, ⟨_, _, rfl, by rw [HDN.out]; exact (octs_made w2 kk).more (by simp)⟩, (Below.refl _ _).alloc (Nat.le_refl _) _⟩
      · cases ho
        have d1 := ev (show a1.eval (.tmp 57) = lgv 0 12 (at' : Int) 1 from hk.done 1 _ 57 rfl rfl (hdep ⟨1, .data⟩ (by simp) rfl))
        have hx : OkE w2 (a1.eval (.tmp 56)) (newD 13) 0 := hk.done 0 _ 56 rfl rfl (hdep ⟨0, .data⟩ (by simp) rfl)
        obtain ⟨⟨Ax, nx, cx, Ax', mx, cx', Lx, Ox, hv, hnx⟩, hx2⟩ := hx
        have d0 := ev hv
        have hokx := hx2 (.inl rfl)
        rw [hv] at hokx
        clear hx2
        obtain ⟨Ad, cd, hvd, hox⟩ := hk.done 3 _ 59 rfl rfl (hdep ⟨3, .data⟩ (by simp) rfl)
        have d3 := ev hvd
        have HC := Lib.hid (fun c => HAPb.out w2 _ _ c hokx hox)
        clear hokx hox
        refine wpOp_of rfl rfl ?_
        go_simp
        refine (HC.out _).mono ?_
        rintro e w3 ⟨v', rfl, hok3, hb3⟩
        exact ⟨_, rfl, ⟨_, rfl, hok3⟩, hb3⟩
      · cases ho
        obtain ⟨xx, hv, hx⟩ := hk.done 4 _ 60 rfl rfl (hdep ⟨4, .data⟩ (by simp) rfl)
        have d4 := ev hv
        refine wpOp_of rfl rfl (wp_value ?_ ⟨xx, rfl, hx⟩)
        simp [execOp, d4, Act.eval]
      · cases ho
        obtain ⟨xx, hv, hx⟩ := hk.done 5 _ 55 rfl rfl (hdep ⟨5, .data⟩ (by simp) rfl)
        have d5 := ev hv
        refine wpOp_of rfl rfl (wp_value (v := xx) ?_ hx)
        clear hx
        go_simp
      · cases ho
        obtain ⟨xx, hv, hx⟩ := hk.done 5 _ 55 rfl rfl (hdep ⟨5, .data⟩ (by simp) rfl)
        have d5 := ev hv
        clear hx
        refine wpOp_of rfl rfl (wp_value (v := lgv g0b g1b g2b g3b) ?_ rfl)
        go_simp
      · cases ho
        obtain ⟨xx, hv, hx⟩ := hk.done 5 _ 55 rfl rfl (hdep ⟨5, .data⟩ (by simp) rfl)
        have d5 := ev hv
        clear hx
        refine wpOp_of rfl rfl (wp_value (v := .int .i64 eb) ?_ rfl)
        go_simp
      · cases ho
        refine wpOp_of rfl rfl ?_
        go_simp
        exact ⟨_, rfl, ⟨_, _, rfl, hk.below.size, box_new _ _, shp0 _ _ _ _ _ _ _ _ (by decide)⟩, (Below.refl _ _).alloc (Nat.le_refl _) _⟩
      · cases ho
        refine wpOp_of rfl rfl ?_
        go_simp
        exact ⟨_, rfl, ⟨_, _, rfl, hk.below.size, box_new _ _, shp1 _ _ _ _⟩, (Below.refl _ _).alloc (Nat.le_refl _) _⟩
      · exact absurd hki (by simp)
      · exact absurd hki (by simp)
      · cases ho
        have d8 := ev (show a1.eval (.tmp 63) = .int .i64 eb from hk.done 8 _ 63 rfl rfl (hdep ⟨8, .data⟩ (by simp) rfl))
        refine wpOp_of rfl rfl (wp_value (v := .int .i64 eb) ?_ rfl)
        simp [execOp, d8, Act.eval]
    case store4 =>
      intro i K o listed a1 w2 hki ho h0 hclo hk hdep
      have hi : i < 14 := (Array.getElem?_eq_some_iff.1 ho).1
      have e7 := ev (show a1.eval (.tmp 7) = .pointer (some ⟨w5.heap.size, 0, none⟩) from hk.frame 7 (frame_of (by kernel_rfl)))
      have e8 := ev (show a1.eval (.tmp 8) = .int .i64 (kk : Int) from hk.frame 8 (frame_of (by kernel_rfl)))
      have hii : i = 0 ∨ i = 1 ∨ i = 2 ∨ i = 3 ∨ i = 4 ∨ i = 5 ∨ i = 6 ∨ i = 7 ∨ i = 8 ∨ i = 9 ∨ i = 10 ∨ i = 11 ∨ i = 12 ∨ i = 13 := by omega
      rcases hii with rfl | rfl | rfl | rfl | rfl | rfl | rfl | rfl | rfl | rfl | rfl | rfl | rfl | rfl
      · exact absurd hki (by simp)
      · exact absurd hki (by simp)
      · exact absurd hki (by simp)
      · exact absurd hki (by simp)
      · exact absurd hki (by simp)
      · exact absurd hki (by simp)
      · exact absurd hki (by simp)
      · exact absurd hki (by simp)
      · exact absurd hki (by simp)
      · exact absurd hki (by simp)
      · exact absurd hki (by simp)
      · cases hki
        cases ho
        have hx : OkE w2 (a1.eval (.tmp 61)) Eb eb := hk.done 6 _ 61 rfl rfl (hdep ⟨6, .data⟩ (by simp) rfl)
        obtain ⟨⟨Ax, nx, cx, Ax', mx, cx', Lx, Ox, hv, hnx⟩, hx2⟩ := hx
        have d6 := ev hv
        have HX : Hid (OkE w2 (dv Ax nx cx Ax' mx cx' Lx Ox) Eb eb) := by rw [← hv]; exact ⟨⟨_, _, _, _, _, _, _, _, hv, hnx⟩, hx2⟩
        obtain ⟨g, o1, hg, hge, hgo, hgs⟩ := hk.done 9 _ 10 rfl rfl (hdep ⟨9, .data⟩ (by simp) rfl)
        have d9 := ev hg
        obtain ⟨y0, y1, y2, y3, j0, j1, j2, j3, jf⟩ := cells_any0 hgo hgs
        have HGO := Lib.hid hgo
        have HGS := Lib.hid hgs
        clear hx2 hgo hgs
        refine wpOp_of rfl rfl ?_
        go_simp
        exact ⟨rfl, ⟨g, hg, hge, dbox_st HGO.out HGS.out hfEb hnx HX.out⟩, st4_below (Below.refl _ _) hge _ _ _ _, rk_disk HGO.out HGS.out _ _ _ _ _ _ _ _ hnx, trivial⟩
      · cases hki
        cases ho
        have d7 := ev (show a1.eval (.tmp 62) = lgv g0b g1b g2b g3b from hk.done 7 _ 62 rfl rfl (hdep ⟨7, .data⟩ (by simp) rfl))
        obtain ⟨g, o1, hg, hge, hgo, hgs⟩ := hk.done 10 _ 11 rfl rfl (hdep ⟨10, .data⟩ (by simp) rfl)
        have d10 := ev hg
        obtain ⟨y0, y1, y2, y3, j0, j1, j2, j3, jf⟩ := cells_any1 hgo hgs
        refine wpOp_of rfl rfl ?_
        go_simp
        exact ⟨rfl, ⟨g, hg, hge, log_at hgo hgs _ _ _ _⟩, st4_below (Below.refl _ _) hge _ _ _ _, rk_log hgo hgs _ _ _ _, trivial⟩
      · exact absurd hki (by simp)
    case fin4 =>
      intro listed a2 w2 hall hk
      have hact := keptA_all [56, 57, 58, 59, 60, 55, 61, 62, 63, 10, 11, 12] hk (by kernel_rfl)
      have h56 := hk.done 0 _ 56 rfl rfl (hall 0 (by decide))
      have h57 := hk.done 1 _ 57 rfl rfl (hall 1 (by decide))
      have h58 := hk.done 2 _ 58 rfl rfl (hall 2 (by decide))
      have h59 := hk.done 3 _ 59 rfl rfl (hall 3 (by decide))
      have h60 := hk.done 4 _ 60 rfl rfl (hall 4 (by decide))
      have h55 := hk.done 5 _ 55 rfl rfl (hall 5 (by decide))
      have h61 := hk.done 6 _ 61 rfl rfl (hall 6 (by decide))
      have h62 := hk.done 7 _ 62 rfl rfl (hall 7 (by decide))
      have h63 := hk.done 8 _ 63 rfl rfl (hall 8 (by decide))
      have h10 := hk.done 9 _ 10 rfl rfl (hall 9 (by decide))
      have h11 := hk.done 10 _ 11 rfl rfl (hall 10 (by decide))
      have h12 := hk.done 13 _ 12 rfl rfl (hall 13 (by decide))
      have s11 := hk.acts 11 _ rfl rfl (hall 11 (by decide))
      change PhK _ 11 (a2.eval (.tmp 10)) w2 at s11
      have s12 := hk.acts 12 _ rfl rfl (hall 12 (by decide))
      change PhK _ 12 (a2.eval (.tmp 11)) w2 at s12
      have HB := Lib.hid hk.below
      simp only [List.foldl_cons, List.foldl_nil, List.setIfInBounds_toArray, List.set_cons_succ, List.set_cons_zero] at hact
      generalize a2.eval (.tmp 56) = u56 at hact h56
      generalize a2.eval (.tmp 57) = u57 at hact h57
      generalize a2.eval (.tmp 58) = u58 at hact h58
      generalize a2.eval (.tmp 59) = u59 at hact h59
      generalize a2.eval (.tmp 60) = u60 at hact h60
      generalize a2.eval (.tmp 55) = u55 at hact h55
      generalize a2.eval (.tmp 61) = u61 at hact h61
      generalize a2.eval (.tmp 62) = u62 at hact h62
      generalize a2.eval (.tmp 63) = u63 at hact h63
      generalize a2.eval (.tmp 10) = u10 at hact h10 s11
      generalize a2.eval (.tmp 11) = u11 at hact h11 s12
      generalize a2.eval (.tmp 12) = u12 at hact h12
      rw [hact]
      clear hact
      obtain rfl : u12 = .int .i64 eb := h12
      obtain ⟨w8, rfl⟩ : ∃ x, x = w2 := ⟨w2, rfl⟩
      have HL8 := Lib.hid (box_at HL67.out HB.out)
      have HM8 := Lib.hid (box_at HL7.out HB.out)
      have HBB8 := Lib.hid (HBB7.out.trans (HB.out.mono HBB7.out.size))
      clear hk s11 s12 h10 h11 h55 h56 h57 h58 h59 h60 h61 h62 h63
      obtain ⟨k0, k1, k2, k3, kf⟩ := cells_log HL8.out
      have RM := Lib.hid (fun (n' : Int) (h1 : -9223372036854775808 ≤ n') (h2 : n' ≤ 9223372036854775807) (W : World) => room_any 0 n' (at' : Int) 1 (kk : Int) W h1 h2 (by omega) (by omega))
      go_wp2_with fail
      refine (RM.out 12 (by decide) (by decide) w8).mono ?_
      rintro e w9 ⟨rfl, hb9⟩
      have HB9 := Lib.hid (HBB8.out.trans (hb9.mono HBB8.out.size))
      have HL9 := Lib.hid (box_at HL8.out hb9)
      have HM9 := Lib.hid (box_at HM8.out hb9)
      clear hb9 k0 k1 k2 k3 kf
      obtain ⟨k0, k1, k2, k3, kf⟩ := cells_log HL9.out
      obtain ⟨p0, p1, p2, p3, pf⟩ := cells_log HM9.out
      rcases HEB.out with ⟨rfl, hr⟩ | ⟨rfl, hr⟩
      · have HR13 : Hid (roomB 13 (at' : Int) (kk : Int) = true) := room_more (n := 12) hr
        have HR12 := Lib.hid hr
        rw [HR12.out]
        clear hr
        go_wp2_with fail
        refine (RM.out 13 (by decide) (by decide) w9).mono ?_
        rintro e w10 ⟨rfl, hb10⟩
        rw [HR13.out]
        have HB10 := Lib.hid (HB9.out.trans (hb10.mono HB9.out.size))
        have HL10 := Lib.hid (box_at HL9.out hb10)
        clear hb10 k0 k1 k2 k3 kf p0 p1 p2 p3 pf
        obtain ⟨k0, k1, k2, k3, kf⟩ := cells_log HL10.out
        go_wp2_with fail
        refine (RM.out 12 (by decide) (by decide) w10).mono ?_
        rintro e w11 ⟨rfl, hb11⟩
        rw [HR12.out]
        have HB11 := Lib.hid (HB10.out.trans (hb11.mono HB10.out.size))
        clear hb11
        go_wp2_with fail
        refine (awake_any w11).mono ?_
        rintro e w12 ⟨rfl, hb12⟩
        have HB12 := Lib.hid (HB11.out.trans (hb12.mono HB11.out.size))
        clear hb12
        go_wp2_with fail
        go_ret
        exact ⟨rfl, HB12.out⟩
      · have HR12 := Lib.hid hr
        rw [HR12.out]
        clear hr
        go_wp2_with fail
        refine (RM.out 12 (by decide) (by decide) w9).mono ?_
        rintro e w11 ⟨rfl, hb11⟩
        rw [HR12.out]
        have HB11 := Lib.hid (HB9.out.trans (hb11.mono HB9.out.size))
        clear hb11
        go_wp2_with fail
        refine (awake_any w11).mono ?_
        rintro e w12 ⟨rfl, hb12⟩
        have HB12 := Lib.hid (HB11.out.trans (hb12.mono HB11.out.size))
        clear hb12
        go_wp2_with fail
        go_ret
        exact ⟨rfl, HB12.out⟩
end Go.Proofs.Ytjcgggheablpeaa.Wal
