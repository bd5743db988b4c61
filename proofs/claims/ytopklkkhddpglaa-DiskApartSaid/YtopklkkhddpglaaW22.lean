/- Contracts: DiskApart, the walk. -/
import Derived.Test.YtopklkkhddpglaaW21
namespace Go.Proofs.Ytopklkkhddpglaa
open Go.RowKit Dk
def tA (q : UInt8) (n : Nat) : ByteArray := text (List.replicate (64 * n) q)
theorem tA_size (q : UInt8) (n : Nat) : (tA q n).size = 64 * n := by simp [tA, text, ByteArray.size]
set_option maxRecDepth 100000 in
set_option maxHeartbeats 16000000 in
theorem apart_any (x0 x1 x2 x3 x4 : Nat) (w : World) (b0 : x0 < 256) (b1 : x1 < 256) (b2 : x2 < 256) (b3 : x3 < 256) (b4 : x4 < 256) :
    Calls Try.prog 6 #[.agg #[.int .u8 x0, .int .u8 x1, .int .u8 x2, .int .u8 x3, .int .u8 x4]] w fun e w' => e = .returned (.bool true) ∧ Below w.heap.size w w' := by
  obtain ⟨i, hi⟩ : ∃ i, i = x0 % 8 := ⟨_, rfl⟩
  obtain ⟨q1, hq1⟩ : ∃ q, q = x1 % 5 := ⟨_, rfl⟩
  obtain ⟨q2, hq2⟩ : ∃ q, q = x2 % 5 := ⟨_, rfl⟩
  obtain ⟨n, hn⟩ : ∃ n, n = 1 + q1 := ⟨_, rfl⟩
  obtain ⟨m, hm⟩ : ∃ m, m = 1 + q2 := ⟨_, rfl⟩
  obtain ⟨j, hj⟩ : ∃ j, j = i + n := ⟨_, rfl⟩
  obtain ⟨k, hk⟩ : ∃ k, k = n + m := ⟨_, rfl⟩
  have f1 : (x0 : Int).tmod 8 = i := by rw [Int.tmod_eq_emod_of_nonneg (by omega)]; omega
  have f2 : (x1 : Int).tmod 5 = q1 := by rw [Int.tmod_eq_emod_of_nonneg (by omega)]; omega
  have f3 : (x2 : Int).tmod 5 = q2 := by rw [Int.tmod_eq_emod_of_nonneg (by omega)]; omega
  have f4 : (1 : Int) + q1 = n := by omega
  have f5 : (1 : Int) + q2 = m := by omega
  have f6 : (i : Int) + n = j := by omega
  have HN := Lib.hid (show i + n = j ∧ n + m = k ∧ i + k ≤ 20 ∧ j + m ≤ 20 ∧ 1 ≤ n ∧ n ≤ 100 ∧ 1 ≤ m ∧ m ≤ 100 ∧ n ≤ 5 ∧ m ≤ 5 ∧ i ≤ 8 from by omega)
  obtain ⟨c, hc⟩ : ∃ c : UInt8, (c.toNat : Int) = x3 := ⟨UInt8.ofNat x3, by simp; omega⟩
  obtain ⟨d, hd⟩ : ∃ d : UInt8, (d.toNat : Int) = x4 := ⟨UInt8.ofNat x4, by simp; omega⟩
  have HFc : Hid (∀ W : World, Calls Try.prog 19 #[.int .u8 x3, .int .i64 n] W fun e w' => e = .returned (.slice (some ⟨W.heap.size, 0, none⟩) (64 * n) (64 * n)) ∧ Octs w' (W.heap.size + 1) (some ⟨W.heap.size, 0, none⟩) (List.replicate (64 * n) c) ∧ W.heap.size < w'.heap.size ∧ Below W.heap.size W w') := fun W => by
    have := fill_any c n W (by omega)
    rwa [hc] at this
  have HFd : Hid (∀ W : World, Calls Try.prog 19 #[.int .u8 x4, .int .i64 m] W fun e w' => e = .returned (.slice (some ⟨W.heap.size, 0, none⟩) (64 * m) (64 * m)) ∧ Octs w' (W.heap.size + 1) (some ⟨W.heap.size, 0, none⟩) (List.replicate (64 * m) d) ∧ W.heap.size < w'.heap.size ∧ Below W.heap.size W w') := fun W => by
    have := fill_any d m W (by omega)
    rwa [hd] at this
  have HNEW : Hid (∀ W : World, Calls Try.prog 15 #[.int .i64 20] W fun e w' => ∃ A c, e = .returned (.tuple #[dv A 20 c none 0 0 (-1) false, .int .i64 0]) ∧ Dsk w' A 20 c none 0 0 twenty [] ∧ Below W.heap.size W w') := fun W =>
    (new_any 20 W (by decide) (by decide)).mono fun e w' ⟨A, c, he, hc, hp, hb⟩ => ⟨A, c, he, ⟨hp, (fun i hi => by cases hi), by simp [twenty], rfl, hc, Nat.le_refl _⟩, hb⟩
  clear hi hq1 hq2 hn hm hj hk hc hd
  have g1 : (x1 : Int) < 256 := by omega
  have g2 : (x2 : Int) < 256 := by omega
  have g3 : (n : Int) ≤ 20 := by have := HN.out; omega
  have g4 : (m : Int) ≤ 20 := by have := HN.out; omega
  have g5 : (j : Int) ≤ 20 := by have := HN.out; omega
  have g6 : (i : Int) ≤ 20 := by have := HN.out; omega
  have hB0 : Below w.heap.size w (w.alloc (.cells #[.int .u8 x0, .int .u8 x1, .int .u8 x2, .int .u8 x3, .int .u8 x4] 47)) := (Below.refl _ _).alloc (Nat.le_refl _) _
  have B00 := Lib.hid hB0
  clear hB0
  go_enter Try.func6, Try.ntmps6
  go_wp2_with fail
  go_quiet (fail)
  go_upto_region 3 with fail
  refine (HNEW.out _).mono ?_
  rintro e w1 ⟨A, c', rfl, hD, hb1⟩
  have DS := Lib.hid hD
  have B0 : Hid (Below w.heap.size w w1) := by
    have hbx : ∀ q, Below w.heap.size w (World.drewN (w.alloc (.cells #[.int .u8 x0, .int .u8 x1, .int .u8 x2, .int .u8 x3, .int .u8 x4] 47)) q) := fun q => ⟨B00.out.os, B00.out.tape, B00.out.output, B00.out.size, B00.out.block⟩
    exact Below.trans (hbx _) (hb1.mono (hbx _).size)
  clear hD hb1 B00 HNEW
  go_upto_region 3 with fail
  have hS : Below w1.heap.size w1 (w1.alloc (.cells #[.slice A 20 c', .slice none 0 0, .int .i64 (-1), .bool false] 25)) := (Below.refl _ _).alloc (Nat.le_refl _) _
  have BX8 : Hid ((w1.alloc (.cells #[.slice A 20 c', .slice none 0 0, .int .i64 (-1), .bool false] 25)).heap[w1.heap.size]? = some (.cells #[.slice A 20 c', .slice none 0 0, .int .i64 (-1), .bool false] 25 (0, 0))) := box_new _ _
  replace DS := Lib.hid (DS.out.below hS)
  replace B0 := Lib.hid (B0.out.trans (hS.mono B0.out.size))
  obtain ⟨wS, hw⟩ : ∃ wS, wS = w1.alloc (.cells #[.slice A 20 c', .slice none 0 0, .int .i64 (-1), .bool false] 25) := ⟨_, rfl⟩
  rw [← hw] at hS BX8 DS B0 ⊢
  obtain ⟨g8, hg⟩ : ∃ g8, g8 = w1.heap.size := ⟨_, rfl⟩
  rw [← hg] at BX8 ⊢
  clear hw hg hS
  have BX8s := BX8
  have DSs := DS
  have B0s := B0
  go_upto_region 7 with fail
  have HS8 : Hid (may twenty [] (-1) = true) := may_twenty
  have HS1 : Hid (may twenty ([] ++ wsA (i : Int) (fill c n)) (-1) = true) := may_app HS8.out c i n (by have := HN.out; rw [twenty_len]; omega)
  have HS2 : Hid (may twenty (([] ++ wsA (i : Int) (fill c n)) ++ wsA (j : Int) (fill d m)) (-1) = true) := may_app HS1.out d j m (by have := HN.out; rw [twenty_len]; omega)
  have HS3 : Hid (may twenty ([] ++ wsA (j : Int) (fill d m)) (-1) = true) := may_app HS8.out d j m (by have := HN.out; rw [twenty_len]; omega)
  have HS4 : Hid (may twenty (([] ++ wsA (j : Int) (fill d m)) ++ wsA (i : Int) (fill c n)) (-1) = true) := may_app HS3.out c i n (by have := HN.out; rw [twenty_len]; omega)
  have HW7 := Lib.hid (fun (W : World) (g : Nat) (hb : Below wS.heap.size wS W) (ho : Octs W W.heap.size (some ⟨g, 0, none⟩) (List.replicate (64 * n) c)) => wr_any (m := 0) n n i g c (DS.out.below hb) HS8.out (by decide) (fun _ => ⟨rfl, rfl⟩) (by have := HN.out; omega) (by have := HN.out; omega) (by have := HN.out; omega) (by omega) ho)
  clear f1 f2 f3 f4 f5 f6 g1 g2
  have f7 : (n : Int) + m = k := by have := HN.out; omega
  go_cut [14, 15] from 54 to 62 (fun s14 s15 wx => Bxd wS A 20 c' n (-1) false twenty ([] ++ wsA (i : Int) (fill c n)) s14 wx ∧ s15 = .int .i64 0)
  case first =>
    refine wp_region_store (S := 10) (X := 14) (by kernel_rfl) (Phi [.val (dv A 20 c' none 0 0 (-1) false), .val (.int .i64 i), .val (.int .u8 x3), .val (.int .i64 n), lfF c (64 * n), lfT A 20 c' n (-1) false twenty ([] ++ wsA (i : Int) (fill c n)) 0, lfT A 20 c' n (-1) false twenty ([] ++ wsA (i : Int) (fill c n)) 0, lfD A 20 c' n (-1) false twenty ([] ++ wsA (i : Int) (fill c n)), .val (.int .i64 0), lfB wS.heap.size, ⟨fun _ _ => True, fun _ _ _ _ _ => trivial⟩, .val (.int .i64 0)]) (phi_stab _) (psiV 11 0) ?hpsia (fun v wx => Bxd wS A 20 c' n (-1) false twenty ([] ++ wsA (i : Int) (fill c n)) v wx) (by kernel_rfl) (backsB_spec (by kernel_rfl)) ?stepa ?storea ?behinda ?fina (by decide)
    case hpsia =>
      intro i v wx h
      refine ⟨?_, ?_⟩
      · rintro (rfl | rfl)
        · obtain ⟨A1, c1, e, _⟩ := h
          exact ⟨_, e⟩
        · obtain ⟨A1, c1, e, _⟩ := h
          exact ⟨_, e⟩
      · rintro (rfl | rfl) <;> exact h
    case stepa =>
      intro z o listed a1 w2 hiz ho hbl hk hdep
      have hzz : z < 12 := (Array.getElem?_eq_some_iff.1 ho).1
      have e8 := ev (show a1.eval (.tmp 8) = .pointer (some ⟨g8, 0, none⟩) from hk.frame 8 (frame_of (by kernel_rfl)))
      have e10 := ev (show a1.eval (.tmp 10) = .int .i64 i from hk.frame 10 (frame_of (by kernel_rfl)))
      have e6 := ev (show a1.eval (.tmp 6) = .int .u8 x3 from hk.frame 6 (frame_of (by kernel_rfl)))
      have e11 := ev (show a1.eval (.tmp 11) = .int .i64 n from hk.frame 11 (frame_of (by kernel_rfl)))
      obtain ⟨k0, k1, k2, k3, kf⟩ := cells_of4 (box_at BX8.out hbl)
      clear kf
      have hii : z = 0 ∨ z = 1 ∨ z = 2 ∨ z = 3 ∨ z = 4 ∨ z = 5 ∨ z = 6 ∨ z = 7 ∨ z = 8 ∨ z = 9 ∨ z = 11 := by omega
      rcases hii with rfl | rfl | rfl | rfl | rfl | rfl | rfl | rfl | rfl | rfl | rfl
      · cases ho
        refine ⟨rfl, wp_value (v := dv A 20 c' none 0 0 (-1) false) ?_ rfl⟩
        go_simp
      · cases ho
        refine ⟨rfl, wp_value (v := .int .i64 i) ?_ rfl⟩
        simp [execOp, e10, Act.eval]
      · cases ho
        refine ⟨rfl, wp_value (v := .int .u8 x3) ?_ rfl⟩
        simp [execOp, e6, Act.eval]
      · cases ho
        refine ⟨rfl, wp_value (v := .int .i64 n) ?_ rfl⟩
        simp [execOp, e11, Act.eval]
      · cases ho
        have d2 := ev (show a1.eval (.tmp 57) = .int .u8 x3 from hk.done 2 _ 57 rfl rfl (hdep ⟨2, .data⟩ (by simp) rfl))
        have d3 := ev (show a1.eval (.tmp 58) = .int .i64 n from hk.done 3 _ 58 rfl rfl (hdep ⟨3, .data⟩ (by simp) rfl))
        refine ⟨rfl, ?_⟩
        go_simp
        refine (HFc.out w2).mono ?_
        rintro e w3 ⟨rfl, hoc, hsz, hb2⟩
        exact ⟨_, rfl, ⟨_, by simp, hoc.more (by omega)⟩, hb2⟩
      · cases ho
        have d0 := ev (show a1.eval (.tmp 55) = dv A 20 c' none 0 0 (-1) false from hk.done 0 _ 55 rfl rfl (hdep ⟨0, .data⟩ (by simp) rfl))
        have d1 := ev (show a1.eval (.tmp 56) = .int .i64 i from hk.done 1 _ 56 rfl rfl (hdep ⟨1, .data⟩ (by simp) rfl))
        obtain ⟨gf, hgf, hoc⟩ := hk.done 4 _ 59 rfl rfl (hdep ⟨4, .data⟩ (by simp) rfl)
        have d4 := ev hgf
        have hw := HW7.out w2 gf hbl hoc
        clear hoc
        refine ⟨rfl, ?_⟩
        go_simp
        refine hw.mono ?_
        rintro e w3 ⟨A1, c1, rfl, hD, hz, hb2⟩
        exact ⟨_, rfl, ⟨A1, c1, rfl, hD, hz⟩, hb2⟩
      · cases ho
        obtain ⟨A1, c1, hv, hD, hz⟩ := hk.done 5 _ 60 rfl rfl (hdep ⟨5, .data⟩ (by simp) rfl)
        have d5 := ev hv
        refine ⟨rfl, wp_value ?_ ⟨A1, c1, rfl, hD, hz⟩⟩
        simp [execOp, d5, Act.eval]
      · cases ho
        obtain ⟨A1, c1, hv, hD, hz⟩ := hk.done 6 _ 54 rfl rfl (hdep ⟨6, .data⟩ (by simp) rfl)
        have d6 := ev hv
        refine ⟨rfl, wp_value ?_ ⟨A1, c1, rfl, hD, hz⟩⟩
        clear hD hz
        go_simp
      · cases ho
        obtain ⟨A1, c1, hv, hD, hz⟩ := hk.done 6 _ 54 rfl rfl (hdep ⟨6, .data⟩ (by simp) rfl)
        have d6 := ev hv
        clear hD hz
        refine ⟨rfl, wp_value (v := .int .i64 0) ?_ rfl⟩
        go_simp
      · cases ho
        refine ⟨rfl, ?_⟩
        go_simp
        exact ⟨_, rfl, ⟨_, rfl, hbl.size, box_new _ _⟩, (Below.refl _ _).alloc (Nat.le_refl _) _⟩
      · cases ho
        have d8 := ev (show a1.eval (.tmp 62) = .int .i64 0 from hk.done 8 _ 62 rfl rfl (hdep ⟨8, .data⟩ (by simp) rfl))
        refine ⟨rfl, wp_value (v := .int .i64 0) ?_ rfl⟩
        simp [execOp, d8, Act.eval]
    case storea =>
      intro o listed a1 w2 ho hc hbl hk hdep
      cases ho
      obtain ⟨A1, c1, hv, hD, hz⟩ := hk.done 7 _ 61 rfl rfl (hdep ⟨7, .data⟩ (by simp) rfl)
      have d7 := ev hv
      have HD1 := Lib.hid hD
      have HZ1 := Lib.hid hz
      clear hD hz
      have l9 := hdep ⟨9, .data⟩ (by simp) rfl
      obtain ⟨g, hg, hge, hgz⟩ := hk.done 9 _ 14 rfl rfl l9
      have d9 := ev hg
      have HGZ := Lib.hid hgz
      obtain ⟨k0, k1, k2, k3, kf⟩ := cells_of4 hgz
      clear hgz
      refine ⟨rfl, ?_, fun j o' hj hd => ?_⟩
      · go_simp
        exact ⟨g, A1, c1, rfl, hge, st4_at HGZ.out _ _ _ _, HD1.out.box (sec_of HS1.out) HGZ.out _ _ _ _, HZ1.out, st4_below hbl hge _ _ _ _⟩
      · have hj9 : j < 12 := (Array.getElem?_eq_some_iff.1 hj).1
        have hjj : j = 0 ∨ j = 1 ∨ j = 2 ∨ j = 3 ∨ j = 4 ∨ j = 5 ∨ j = 6 ∨ j = 7 ∨ j = 8 ∨ j = 9 ∨ j = 10 ∨ j = 11 := by omega
        rcases hjj with rfl | rfl | rfl | rfl | rfl | rfl | rfl | rfl | rfl | rfl | rfl | rfl <;> first | exact l9 | (cases hj; exact absurd hd (by decide))
    case behinda =>
      intro z o listed a1 w2 hiz ho h0 h9 hc hwf hk hdep
      have hzz : z < 12 := (Array.getElem?_eq_some_iff.1 ho).1
      have l7 := hc.2 10 _ rfl h9 ⟨7, .data⟩ (by simp) rfl
      have l6 := hc.2 7 _ rfl l7 ⟨6, .data⟩ (by simp) rfl
      have l5 := hc.2 6 _ rfl l6 ⟨5, .data⟩ (by simp) rfl
      have l4 := hc.2 5 _ rfl l5 ⟨4, .data⟩ (by simp) rfl
      have l3 := hc.2 4 _ rfl l4 ⟨3, .data⟩ (by simp) rfl
      have l2 := hc.2 4 _ rfl l4 ⟨2, .data⟩ (by simp) rfl
      have l1 := hc.2 5 _ rfl l5 ⟨1, .data⟩ (by simp) rfl
      have l0 := hc.2 5 _ rfl l5 ⟨0, .data⟩ (by simp) rfl
      have l9 := hc.2 10 _ rfl h9 ⟨9, .data⟩ (by simp) rfl
      have hn := getD_tf h0
      have hii : z = 0 ∨ z = 1 ∨ z = 2 ∨ z = 3 ∨ z = 4 ∨ z = 5 ∨ z = 6 ∨ z = 7 ∨ z = 8 ∨ z = 9 ∨ z = 11 := by omega
      rcases hii with rfl | rfl | rfl | rfl | rfl | rfl | rfl | rfl | rfl | rfl | rfl
      · rw [l0] at hn; cases hn
      · rw [l1] at hn; cases hn
      · rw [l2] at hn; cases hn
      · rw [l3] at hn; cases hn
      · rw [l4] at hn; cases hn
      · rw [l5] at hn; cases hn
      · rw [l6] at hn; cases hn
      · rw [l7] at hn; cases hn
      · cases ho
        obtain ⟨x, hx⟩ := (hk.done 6 _ 54 rfl rfl l6).1 (.inr rfl)
        have d6 := ev hx
        refine ⟨rfl, .int .i64 0, ?_, (fun h => by rcases h with h | h <;> cases h), fun _ => rfl⟩
        go_simp
      · rw [l9] at hn; cases hn
      · cases ho
        have l8 := hdep ⟨8, .data⟩ (by simp) rfl
        have d8 := ev ((hk.done 8 _ 62 rfl rfl l8).2 (.inl rfl))
        refine ⟨rfl, .int .i64 0, ?_, (fun h => by rcases h with h | h <;> cases h), fun _ => rfl⟩
        simp [execOp, d8, Act.eval]
    case fina =>
      intro listed a2 w2 hall hwf hk
      have hE : a2.eval (.tmp 15) = .int .i64 0 := (hk.done 11 _ 15 rfl rfl (hall 11 (by decide))).2 (.inr rfl)
      have hact := fr_all [55, 56, 57, 58, 59, 60, 54, 61, 62, 14, 15] hk (by kernel_rfl)
      simp only [List.foldl_cons, List.foldl_nil, List.setIfInBounds_toArray, List.set_cons_succ, List.set_cons_zero] at hact
      generalize a2.eval (.tmp 55) = u55 at hact
      generalize a2.eval (.tmp 56) = u56 at hact
      generalize a2.eval (.tmp 57) = u57 at hact
      generalize a2.eval (.tmp 58) = u58 at hact
      generalize a2.eval (.tmp 59) = u59 at hact
      generalize a2.eval (.tmp 60) = u60 at hact
      generalize a2.eval (.tmp 54) = u54 at hact
      generalize a2.eval (.tmp 61) = u61 at hact
      generalize a2.eval (.tmp 62) = u62 at hact
      generalize a2.eval (.tmp 14) = u14 at hact hwf
      generalize a2.eval (.tmp 15) = u15 at hact hE
      rw [hact]
      clear hact
      go_wp2
      go_meet
      exact ⟨hwf, hE⟩
  case rest =>
    obtain ⟨⟨gx, A1, c1, rfl, hgx, hcx, hDx, hz1, hbx⟩, rfl⟩ := hcut
    have HBT := Lib.hid hbx
    have HGX := Lib.hid hgx
    replace DS := Lib.hid (DS.out.below hbx)
    replace B0 := Lib.hid (B0.out.trans (hbx.mono B0.out.size))
    replace BX8 := Lib.hid (box_at BX8.out hbx)
    have BXX := Lib.hid hcx
    have DX := Lib.hid hDx
    have HZ1 := Lib.hid hz1
    clear hcx hDx hbx hgx hz1
    have HW8 := Lib.hid (fun (W : World) (g : Nat) (hb : Below wc.heap.size wc W) (ho : Octs W W.heap.size (some ⟨g, 0, none⟩) (List.replicate (64 * m) d)) => wr_any k m j g d (DX.out.below hb) HS1.out (by have := HN.out; omega) HZ1.out (by have := HN.out; omega) (by have := HN.out; omega) (by have := HN.out; omega) (by have := HN.out; omega) ho)
    go_upto_region 8 with fail
    go_cut [16] from 63 to 71 (fun s16 wx => s16 = .int .i64 0 ∧ Bxe wS gx A 20 c' k twenty (([] ++ wsA (i : Int) (fill c n)) ++ wsA (j : Int) (fill d m)) wx)
    case first =>
      refine wp_region_store (S := 9) (X := 14) (by kernel_rfl) (Phi [.val (dv A 20 c' A1 n c1 (-1) false), .val (.int .i64 j), .val (.int .u8 x4), .val (.int .i64 m), lfF d (64 * m), lfT A 20 c' k (-1) false twenty (([] ++ wsA (i : Int) (fill c n)) ++ wsA (j : Int) (fill d m)) 0, lfT A 20 c' k (-1) false twenty (([] ++ wsA (i : Int) (fill c n)) ++ wsA (j : Int) (fill d m)) 0, lfD A 20 c' k (-1) false twenty (([] ++ wsA (i : Int) (fill c n)) ++ wsA (j : Int) (fill d m)), .val (.int .i64 0), ⟨fun _ _ => True, fun _ _ _ _ _ => trivial⟩, .val (.int .i64 0)]) (phi_stab _) (psiV 10 0) ?hpsib (fun _ wx => Bxe wS gx A 20 c' k twenty (([] ++ wsA (i : Int) (fill c n)) ++ wsA (j : Int) (fill d m)) wx) (by kernel_rfl) (backsB_spec (by kernel_rfl)) ?stepb ?storeb ?behindb ?finb (by decide)
      case hpsib =>
        intro i v wx h
        refine ⟨?_, ?_⟩
        · rintro (rfl | rfl)
          · obtain ⟨A1, c1, e, _⟩ := h
            exact ⟨_, e⟩
          · obtain ⟨A1, c1, e, _⟩ := h
            exact ⟨_, e⟩
        · rintro (rfl | rfl) <;> exact h
      case stepb =>
        intro z o listed a1 w2 hiz ho hbl hk hdep
        have hzz : z < 11 := (Array.getElem?_eq_some_iff.1 ho).1
        have e14 := ev (show a1.eval (.tmp 14) = .pointer (some ⟨gx, 0, none⟩) from hk.frame 14 (frame_of (by kernel_rfl)))
        have e12 := ev (show a1.eval (.tmp 12) = .int .i64 j from hk.frame 12 (frame_of (by kernel_rfl)))
        have e7 := ev (show a1.eval (.tmp 7) = .int .u8 x4 from hk.frame 7 (frame_of (by kernel_rfl)))
        have e13 := ev (show a1.eval (.tmp 13) = .int .i64 m from hk.frame 13 (frame_of (by kernel_rfl)))
        obtain ⟨k0, k1, k2, k3, kf⟩ := cells_of4 (box_at BXX.out hbl)
        clear kf
        have hii : z = 0 ∨ z = 1 ∨ z = 2 ∨ z = 3 ∨ z = 4 ∨ z = 5 ∨ z = 6 ∨ z = 7 ∨ z = 8 ∨ z = 10 := by omega
        rcases hii with rfl | rfl | rfl | rfl | rfl | rfl | rfl | rfl | rfl | rfl
        · cases ho
          refine ⟨rfl, wp_value (v := dv A 20 c' A1 n c1 (-1) false) ?_ rfl⟩
          go_simp
        · cases ho
          refine ⟨rfl, wp_value (v := .int .i64 j) ?_ rfl⟩
          simp [execOp, e12, Act.eval]
        · cases ho
          refine ⟨rfl, wp_value (v := .int .u8 x4) ?_ rfl⟩
          simp [execOp, e7, Act.eval]
        · cases ho
          refine ⟨rfl, wp_value (v := .int .i64 m) ?_ rfl⟩
          simp [execOp, e13, Act.eval]
        · cases ho
          have d2 := ev (show a1.eval (.tmp 66) = .int .u8 x4 from hk.done 2 _ 66 rfl rfl (hdep ⟨2, .data⟩ (by simp) rfl))
          have d3 := ev (show a1.eval (.tmp 67) = .int .i64 m from hk.done 3 _ 67 rfl rfl (hdep ⟨3, .data⟩ (by simp) rfl))
          refine ⟨rfl, ?_⟩
          go_simp
          refine (HFd.out w2).mono ?_
          rintro e w3 ⟨rfl, hoc, hsz, hb2⟩
          exact ⟨_, rfl, ⟨_, by simp, hoc.more (by omega)⟩, hb2⟩
        · cases ho
          have d0 := ev (show a1.eval (.tmp 64) = dv A 20 c' A1 n c1 (-1) false from hk.done 0 _ 64 rfl rfl (hdep ⟨0, .data⟩ (by simp) rfl))
          have d1 := ev (show a1.eval (.tmp 65) = .int .i64 j from hk.done 1 _ 65 rfl rfl (hdep ⟨1, .data⟩ (by simp) rfl))
          obtain ⟨gf, hgf, hoc⟩ := hk.done 4 _ 68 rfl rfl (hdep ⟨4, .data⟩ (by simp) rfl)
          have d4 := ev hgf
          have hw := HW8.out w2 gf hbl hoc
          clear hoc
          refine ⟨rfl, ?_⟩
          go_simp
          refine hw.mono ?_
          rintro e w3 ⟨A1, c1, rfl, hD, hz, hb2⟩
          exact ⟨_, rfl, ⟨A1, c1, rfl, hD, hz⟩, hb2⟩
        · cases ho
          obtain ⟨A1, c1, hv, hD, hz⟩ := hk.done 5 _ 69 rfl rfl (hdep ⟨5, .data⟩ (by simp) rfl)
          have d5 := ev hv
          refine ⟨rfl, wp_value ?_ ⟨A1, c1, rfl, hD, hz⟩⟩
          simp [execOp, d5, Act.eval]
        · cases ho
          obtain ⟨A1, c1, hv, hD, hz⟩ := hk.done 6 _ 63 rfl rfl (hdep ⟨6, .data⟩ (by simp) rfl)
          have d6 := ev hv
          refine ⟨rfl, wp_value ?_ ⟨A1, c1, rfl, hD, hz⟩⟩
          clear hD hz
          go_simp
        · cases ho
          obtain ⟨A1, c1, hv, hD, hz⟩ := hk.done 6 _ 63 rfl rfl (hdep ⟨6, .data⟩ (by simp) rfl)
          have d6 := ev hv
          clear hD hz
          refine ⟨rfl, wp_value (v := .int .i64 0) ?_ rfl⟩
          go_simp
        · cases ho
          have d8 := ev (show a1.eval (.tmp 71) = .int .i64 0 from hk.done 8 _ 71 rfl rfl (hdep ⟨8, .data⟩ (by simp) rfl))
          refine ⟨rfl, wp_value (v := .int .i64 0) ?_ rfl⟩
          simp [execOp, d8, Act.eval]
      case storeb =>
        intro o listed a1 w2 ho hc hbl hk hdep
        cases ho
        obtain ⟨A1, c1, hv, hD, hz⟩ := hk.done 7 _ 70 rfl rfl (hdep ⟨7, .data⟩ (by simp) rfl)
        have d7 := ev hv
        have HD1 := Lib.hid hD
        have HZ1 := Lib.hid hz
        clear hD hz
        have eX := ev (show a1.eval (.tmp 14) = .pointer (some ⟨gx, 0, none⟩) from hk.frame 14 (frame_of (by kernel_rfl)))
        have HGZ := Lib.hid (box_at BXX.out hbl)
        obtain ⟨k0, k1, k2, k3, kf⟩ := cells_of4 HGZ.out
        refine ⟨rfl, ?_, fun j o' hj hd => ?_⟩
        · go_simp
          exact ⟨A1, c1, st4_at HGZ.out _ _ _ _, HD1.out.box2 (sec_of HS2.out) HGZ.out (by decide) (by have := HN.out; omega) _ _ _ _, HZ1.out, st4_below (HBT.out.trans (hbl.mono HBT.out.size)) HGX.out _ _ _ _⟩
        · have hj9 : j < 11 := (Array.getElem?_eq_some_iff.1 hj).1
          have hjj : j = 0 ∨ j = 1 ∨ j = 2 ∨ j = 3 ∨ j = 4 ∨ j = 5 ∨ j = 6 ∨ j = 7 ∨ j = 8 ∨ j = 9 ∨ j = 10 := by omega
          rcases hjj with rfl | rfl | rfl | rfl | rfl | rfl | rfl | rfl | rfl | rfl | rfl <;> (cases hj; exact absurd hd (by decide))
      case behindb =>
        intro z o listed a1 w2 hiz ho h0 h9 hc hwf hk hdep
        have hzz : z < 11 := (Array.getElem?_eq_some_iff.1 ho).1
        have l7 := hc.2 9 _ rfl h9 ⟨7, .data⟩ (by simp) rfl
        have l6 := hc.2 7 _ rfl l7 ⟨6, .data⟩ (by simp) rfl
        have l5 := hc.2 6 _ rfl l6 ⟨5, .data⟩ (by simp) rfl
        have l4 := hc.2 5 _ rfl l5 ⟨4, .data⟩ (by simp) rfl
        have l3 := hc.2 4 _ rfl l4 ⟨3, .data⟩ (by simp) rfl
        have l2 := hc.2 4 _ rfl l4 ⟨2, .data⟩ (by simp) rfl
        have l1 := hc.2 5 _ rfl l5 ⟨1, .data⟩ (by simp) rfl
        have l0 := hc.2 5 _ rfl l5 ⟨0, .data⟩ (by simp) rfl
        have hn := getD_tf h0
        have hii : z = 0 ∨ z = 1 ∨ z = 2 ∨ z = 3 ∨ z = 4 ∨ z = 5 ∨ z = 6 ∨ z = 7 ∨ z = 8 ∨ z = 10 := by omega
        rcases hii with rfl | rfl | rfl | rfl | rfl | rfl | rfl | rfl | rfl | rfl
        · rw [l0] at hn; cases hn
        · rw [l1] at hn; cases hn
        · rw [l2] at hn; cases hn
        · rw [l3] at hn; cases hn
        · rw [l4] at hn; cases hn
        · rw [l5] at hn; cases hn
        · rw [l6] at hn; cases hn
        · rw [l7] at hn; cases hn
        · cases ho
          obtain ⟨x, hx⟩ := (hk.done 6 _ 63 rfl rfl l6).1 (.inr rfl)
          have d6 := ev hx
          refine ⟨rfl, .int .i64 0, ?_, (fun h => by rcases h with h | h <;> cases h), fun _ => rfl⟩
          go_simp
        · cases ho
          have l8 := hdep ⟨8, .data⟩ (by simp) rfl
          have d8 := ev ((hk.done 8 _ 71 rfl rfl l8).2 (.inl rfl))
          refine ⟨rfl, .int .i64 0, ?_, (fun h => by rcases h with h | h <;> cases h), fun _ => rfl⟩
          simp [execOp, d8, Act.eval]
      case finb =>
        intro listed a2 w2 hall hwf hk
        have hE : a2.eval (.tmp 16) = .int .i64 0 := (hk.done 10 _ 16 rfl rfl (hall 10 (by decide))).2 (.inr rfl)
        have hact := fr_all [64, 65, 66, 67, 68, 69, 63, 70, 71, 16] hk (by kernel_rfl)
        simp only [List.foldl_cons, List.foldl_nil, List.setIfInBounds_toArray, List.set_cons_succ, List.set_cons_zero] at hact
        generalize a2.eval (.tmp 64) = u64 at hact
        generalize a2.eval (.tmp 65) = u65 at hact
        generalize a2.eval (.tmp 66) = u66 at hact
        generalize a2.eval (.tmp 67) = u67 at hact
        generalize a2.eval (.tmp 68) = u68 at hact
        generalize a2.eval (.tmp 69) = u69 at hact
        generalize a2.eval (.tmp 63) = u63 at hact
        generalize a2.eval (.tmp 70) = u70 at hact
        generalize a2.eval (.tmp 71) = u71 at hact
        generalize a2.eval (.tmp 16) = u16 at hact hE
        rw [hact]
        clear hact
        go_wp2
        go_meet
        exact ⟨hE, hwf⟩
    case rest =>
      obtain ⟨rfl, A2, c2, hcx, hDx, hz2, hbx⟩ := hcut
      obtain ⟨wT, rfl⟩ : ∃ x, x = wc := ⟨wc, rfl⟩
      have BX8 := Lib.hid (box_at BX8s.out hbx)
      have DS := Lib.hid (DSs.out.below hbx)
      have B0 := Lib.hid (B0s.out.trans (hbx.mono B0s.out.size))
      have BXX := Lib.hid hcx
      have DX := Lib.hid hDx
      clear hcx hDx hbx hz2 BX8s DSs B0s
      have BX8t := BX8
      have DSt := DS
      have B0t := B0
      have BXXt := BXX
      have DXt := DX
      have HW9 := Lib.hid (fun (W : World) (g : Nat) (hb : Below wT.heap.size wT W) (ho : Octs W W.heap.size (some ⟨g, 0, none⟩) (List.replicate (64 * m) d)) => wr_any (m := 0) m m j g d (DS.out.below hb) HS8.out (by decide) (fun _ => ⟨rfl, rfl⟩) (by have := HN.out; omega) (by have := HN.out; omega) (by have := HN.out; omega) (by omega) ho)
      go_upto_region 9 with fail
      go_cut [17, 18] from 72 to 80 (fun s17 s18 wx => Bxd wT A 20 c' m (-1) false twenty ([] ++ wsA (j : Int) (fill d m)) s17 wx ∧ s18 = .int .i64 0)
      case first =>
        refine wp_region_store (S := 10) (X := 17) (by kernel_rfl) (Phi [.val (dv A 20 c' none 0 0 (-1) false), .val (.int .i64 j), .val (.int .u8 x4), .val (.int .i64 m), lfF d (64 * m), lfT A 20 c' m (-1) false twenty ([] ++ wsA (j : Int) (fill d m)) 0, lfT A 20 c' m (-1) false twenty ([] ++ wsA (j : Int) (fill d m)) 0, lfD A 20 c' m (-1) false twenty ([] ++ wsA (j : Int) (fill d m)), .val (.int .i64 0), lfB wT.heap.size, ⟨fun _ _ => True, fun _ _ _ _ _ => trivial⟩, .val (.int .i64 0)]) (phi_stab _) (psiV 11 0) ?hpsic (fun v wx => Bxd wT A 20 c' m (-1) false twenty ([] ++ wsA (j : Int) (fill d m)) v wx) (by kernel_rfl) (backsB_spec (by kernel_rfl)) ?stepc ?storec ?behindc ?finc (by decide)
        case hpsic =>
          intro i v wx h
          refine ⟨?_, ?_⟩
          · rintro (rfl | rfl)
            · obtain ⟨A1, c1, e, _⟩ := h
              exact ⟨_, e⟩
            · obtain ⟨A1, c1, e, _⟩ := h
              exact ⟨_, e⟩
          · rintro (rfl | rfl) <;> exact h
        case stepc =>
          intro z o listed a1 w2 hiz ho hbl hk hdep
          have hzz : z < 12 := (Array.getElem?_eq_some_iff.1 ho).1
          have e8 := ev (show a1.eval (.tmp 8) = .pointer (some ⟨g8, 0, none⟩) from hk.frame 8 (frame_of (by kernel_rfl)))
          have e12 := ev (show a1.eval (.tmp 12) = .int .i64 j from hk.frame 12 (frame_of (by kernel_rfl)))
          have e7 := ev (show a1.eval (.tmp 7) = .int .u8 x4 from hk.frame 7 (frame_of (by kernel_rfl)))
          have e13 := ev (show a1.eval (.tmp 13) = .int .i64 m from hk.frame 13 (frame_of (by kernel_rfl)))
          obtain ⟨k0, k1, k2, k3, kf⟩ := cells_of4 (box_at BX8.out hbl)
          clear kf
          have hii : z = 0 ∨ z = 1 ∨ z = 2 ∨ z = 3 ∨ z = 4 ∨ z = 5 ∨ z = 6 ∨ z = 7 ∨ z = 8 ∨ z = 9 ∨ z = 11 := by omega
          rcases hii with rfl | rfl | rfl | rfl | rfl | rfl | rfl | rfl | rfl | rfl | rfl
          · cases ho
            refine ⟨rfl, wp_value (v := dv A 20 c' none 0 0 (-1) false) ?_ rfl⟩
            go_simp
          · cases ho
            refine ⟨rfl, wp_value (v := .int .i64 j) ?_ rfl⟩
            simp [execOp, e12, Act.eval]
          · cases ho
            refine ⟨rfl, wp_value (v := .int .u8 x4) ?_ rfl⟩
            simp [execOp, e7, Act.eval]
          · cases ho
            refine ⟨rfl, wp_value (v := .int .i64 m) ?_ rfl⟩
            simp [execOp, e13, Act.eval]
          · cases ho
            have d2 := ev (show a1.eval (.tmp 75) = .int .u8 x4 from hk.done 2 _ 75 rfl rfl (hdep ⟨2, .data⟩ (by simp) rfl))
            have d3 := ev (show a1.eval (.tmp 76) = .int .i64 m from hk.done 3 _ 76 rfl rfl (hdep ⟨3, .data⟩ (by simp) rfl))
            refine ⟨rfl, ?_⟩
            go_simp
            refine (HFd.out w2).mono ?_
            rintro e w3 ⟨rfl, hoc, hsz, hb2⟩
            exact ⟨_, rfl, ⟨_, by simp, hoc.more (by omega)⟩, hb2⟩
          · cases ho
            have d0 := ev (show a1.eval (.tmp 73) = dv A 20 c' none 0 0 (-1) false from hk.done 0 _ 73 rfl rfl (hdep ⟨0, .data⟩ (by simp) rfl))
            have d1 := ev (show a1.eval (.tmp 74) = .int .i64 j from hk.done 1 _ 74 rfl rfl (hdep ⟨1, .data⟩ (by simp) rfl))
            obtain ⟨gf, hgf, hoc⟩ := hk.done 4 _ 77 rfl rfl (hdep ⟨4, .data⟩ (by simp) rfl)
            have d4 := ev hgf
            have hw := HW9.out w2 gf hbl hoc
            clear hoc
            refine ⟨rfl, ?_⟩
            go_simp
            refine hw.mono ?_
            rintro e w3 ⟨A1, c1, rfl, hD, hz, hb2⟩
            exact ⟨_, rfl, ⟨A1, c1, rfl, hD, hz⟩, hb2⟩
          · cases ho
            obtain ⟨A1, c1, hv, hD, hz⟩ := hk.done 5 _ 78 rfl rfl (hdep ⟨5, .data⟩ (by simp) rfl)
            have d5 := ev hv
            refine ⟨rfl, wp_value ?_ ⟨A1, c1, rfl, hD, hz⟩⟩
            simp [execOp, d5, Act.eval]
          · cases ho
            obtain ⟨A1, c1, hv, hD, hz⟩ := hk.done 6 _ 72 rfl rfl (hdep ⟨6, .data⟩ (by simp) rfl)
            have d6 := ev hv
            refine ⟨rfl, wp_value ?_ ⟨A1, c1, rfl, hD, hz⟩⟩
            clear hD hz
            go_simp
          · cases ho
            obtain ⟨A1, c1, hv, hD, hz⟩ := hk.done 6 _ 72 rfl rfl (hdep ⟨6, .data⟩ (by simp) rfl)
            have d6 := ev hv
            clear hD hz
            refine ⟨rfl, wp_value (v := .int .i64 0) ?_ rfl⟩
            go_simp
          · cases ho
            refine ⟨rfl, ?_⟩
            go_simp
            exact ⟨_, rfl, ⟨_, rfl, hbl.size, box_new _ _⟩, (Below.refl _ _).alloc (Nat.le_refl _) _⟩
          · cases ho
            have d8 := ev (show a1.eval (.tmp 80) = .int .i64 0 from hk.done 8 _ 80 rfl rfl (hdep ⟨8, .data⟩ (by simp) rfl))
            refine ⟨rfl, wp_value (v := .int .i64 0) ?_ rfl⟩
            simp [execOp, d8, Act.eval]
        case storec =>
          intro o listed a1 w2 ho hc hbl hk hdep
          cases ho
          obtain ⟨A1, c1, hv, hD, hz⟩ := hk.done 7 _ 79 rfl rfl (hdep ⟨7, .data⟩ (by simp) rfl)
          have d7 := ev hv
          have HD1 := Lib.hid hD
          have HZ1 := Lib.hid hz
          clear hD hz
          have l9 := hdep ⟨9, .data⟩ (by simp) rfl
          obtain ⟨g, hg, hge, hgz⟩ := hk.done 9 _ 17 rfl rfl l9
          have d9 := ev hg
          have HGZ := Lib.hid hgz
          obtain ⟨k0, k1, k2, k3, kf⟩ := cells_of4 hgz
          clear hgz
          refine ⟨rfl, ?_, fun j o' hj hd => ?_⟩
          · go_simp
            exact ⟨g, A1, c1, rfl, hge, st4_at HGZ.out _ _ _ _, HD1.out.box (sec_of HS3.out) HGZ.out _ _ _ _, HZ1.out, st4_below hbl hge _ _ _ _⟩
          · have hj9 : j < 12 := (Array.getElem?_eq_some_iff.1 hj).1
            have hjj : j = 0 ∨ j = 1 ∨ j = 2 ∨ j = 3 ∨ j = 4 ∨ j = 5 ∨ j = 6 ∨ j = 7 ∨ j = 8 ∨ j = 9 ∨ j = 10 ∨ j = 11 := by omega
            rcases hjj with rfl | rfl | rfl | rfl | rfl | rfl | rfl | rfl | rfl | rfl | rfl | rfl <;> first | exact l9 | (cases hj; exact absurd hd (by decide))
        case behindc =>
          intro z o listed a1 w2 hiz ho h0 h9 hc hwf hk hdep
          have hzz : z < 12 := (Array.getElem?_eq_some_iff.1 ho).1
          have l7 := hc.2 10 _ rfl h9 ⟨7, .data⟩ (by simp) rfl
          have l6 := hc.2 7 _ rfl l7 ⟨6, .data⟩ (by simp) rfl
          have l5 := hc.2 6 _ rfl l6 ⟨5, .data⟩ (by simp) rfl
          have l4 := hc.2 5 _ rfl l5 ⟨4, .data⟩ (by simp) rfl
          have l3 := hc.2 4 _ rfl l4 ⟨3, .data⟩ (by simp) rfl
          have l2 := hc.2 4 _ rfl l4 ⟨2, .data⟩ (by simp) rfl
          have l1 := hc.2 5 _ rfl l5 ⟨1, .data⟩ (by simp) rfl
          have l0 := hc.2 5 _ rfl l5 ⟨0, .data⟩ (by simp) rfl
          have l9 := hc.2 10 _ rfl h9 ⟨9, .data⟩ (by simp) rfl
          have hn := getD_tf h0
          have hii : z = 0 ∨ z = 1 ∨ z = 2 ∨ z = 3 ∨ z = 4 ∨ z = 5 ∨ z = 6 ∨ z = 7 ∨ z = 8 ∨ z = 9 ∨ z = 11 := by omega
          rcases hii with rfl | rfl | rfl | rfl | rfl | rfl | rfl | rfl | rfl | rfl | rfl
          · rw [l0] at hn; cases hn
          · rw [l1] at hn; cases hn
          · rw [l2] at hn; cases hn
          · rw [l3] at hn; cases hn
          · rw [l4] at hn; cases hn
          · rw [l5] at hn; cases hn
          · rw [l6] at hn; cases hn
          · rw [l7] at hn; cases hn
          · cases ho
            obtain ⟨x, hx⟩ := (hk.done 6 _ 72 rfl rfl l6).1 (.inr rfl)
            have d6 := ev hx
            refine ⟨rfl, .int .i64 0, ?_, (fun h => by rcases h with h | h <;> cases h), fun _ => rfl⟩
            go_simp
          · rw [l9] at hn; cases hn
          · cases ho
            have l8 := hdep ⟨8, .data⟩ (by simp) rfl
            have d8 := ev ((hk.done 8 _ 80 rfl rfl l8).2 (.inl rfl))
            refine ⟨rfl, .int .i64 0, ?_, (fun h => by rcases h with h | h <;> cases h), fun _ => rfl⟩
            simp [execOp, d8, Act.eval]
        case finc =>
          intro listed a2 w2 hall hwf hk
          have hE : a2.eval (.tmp 18) = .int .i64 0 := (hk.done 11 _ 18 rfl rfl (hall 11 (by decide))).2 (.inr rfl)
          have hact := fr_all [73, 74, 75, 76, 77, 78, 72, 79, 80, 17, 18] hk (by kernel_rfl)
          simp only [List.foldl_cons, List.foldl_nil, List.setIfInBounds_toArray, List.set_cons_succ, List.set_cons_zero] at hact
          generalize a2.eval (.tmp 73) = u73 at hact
          generalize a2.eval (.tmp 74) = u74 at hact
          generalize a2.eval (.tmp 75) = u75 at hact
          generalize a2.eval (.tmp 76) = u76 at hact
          generalize a2.eval (.tmp 77) = u77 at hact
          generalize a2.eval (.tmp 78) = u78 at hact
          generalize a2.eval (.tmp 72) = u72 at hact
          generalize a2.eval (.tmp 79) = u79 at hact
          generalize a2.eval (.tmp 80) = u80 at hact
          generalize a2.eval (.tmp 17) = u17 at hact hwf
          generalize a2.eval (.tmp 18) = u18 at hact hE
          rw [hact]
          clear hact
          go_wp2
          go_meet
          exact ⟨hwf, hE⟩
      case rest =>
        obtain ⟨⟨gy, A3, c3, rfl, hgy, hcy, hDy, hz3, hby⟩, rfl⟩ := hcut
        have HBT := Lib.hid hby
        have HGY := Lib.hid hgy
        have BXY := Lib.hid hcy
        have DY := Lib.hid hDy
        have HZ3 := Lib.hid hz3
        clear hcy hDy hby hgy hz3
        have HW10 := Lib.hid (fun (W : World) (g : Nat) (hb : Below wc.heap.size wc W) (ho : Octs W W.heap.size (some ⟨g, 0, none⟩) (List.replicate (64 * n) c)) => wr_any k n i g c (DY.out.below hb) HS3.out (by have := HN.out; omega) HZ3.out (by have := HN.out; omega) (by have := HN.out; omega) (by have := HN.out; omega) (by have := HN.out; omega) ho)
        go_upto_region 10 with fail
        go_cut [19] from 81 to 89 (fun s19 wx => s19 = .int .i64 0 ∧ Bxe wT gy A 20 c' k twenty (([] ++ wsA (j : Int) (fill d m)) ++ wsA (i : Int) (fill c n)) wx)
        case first =>
          refine wp_region_store (S := 9) (X := 17) (by kernel_rfl) (Phi [.val (dv A 20 c' A3 m c3 (-1) false), .val (.int .i64 i), .val (.int .u8 x3), .val (.int .i64 n), lfF c (64 * n), lfT A 20 c' k (-1) false twenty (([] ++ wsA (j : Int) (fill d m)) ++ wsA (i : Int) (fill c n)) 0, lfT A 20 c' k (-1) false twenty (([] ++ wsA (j : Int) (fill d m)) ++ wsA (i : Int) (fill c n)) 0, lfD A 20 c' k (-1) false twenty (([] ++ wsA (j : Int) (fill d m)) ++ wsA (i : Int) (fill c n)), .val (.int .i64 0), ⟨fun _ _ => True, fun _ _ _ _ _ => trivial⟩, .val (.int .i64 0)]) (phi_stab _) (psiV 10 0) ?hpsid (fun _ wx => Bxe wT gy A 20 c' k twenty (([] ++ wsA (j : Int) (fill d m)) ++ wsA (i : Int) (fill c n)) wx) (by kernel_rfl) (backsB_spec (by kernel_rfl)) ?stepd ?stored ?behindd ?find (by decide)
          case hpsid =>
            intro i v wx h
            refine ⟨?_, ?_⟩
            · rintro (rfl | rfl)
              · obtain ⟨A1, c1, e, _⟩ := h
                exact ⟨_, e⟩
              · obtain ⟨A1, c1, e, _⟩ := h
                exact ⟨_, e⟩
            · rintro (rfl | rfl) <;> exact h
          case stepd =>
            intro z o listed a1 w2 hiz ho hbl hk hdep
            have hzz : z < 11 := (Array.getElem?_eq_some_iff.1 ho).1
            have e17 := ev (show a1.eval (.tmp 17) = .pointer (some ⟨gy, 0, none⟩) from hk.frame 17 (frame_of (by kernel_rfl)))
            have e10 := ev (show a1.eval (.tmp 10) = .int .i64 i from hk.frame 10 (frame_of (by kernel_rfl)))
            have e6 := ev (show a1.eval (.tmp 6) = .int .u8 x3 from hk.frame 6 (frame_of (by kernel_rfl)))
            have e11 := ev (show a1.eval (.tmp 11) = .int .i64 n from hk.frame 11 (frame_of (by kernel_rfl)))
            obtain ⟨k0, k1, k2, k3, kf⟩ := cells_of4 (box_at BXY.out hbl)
            clear kf
            have hii : z = 0 ∨ z = 1 ∨ z = 2 ∨ z = 3 ∨ z = 4 ∨ z = 5 ∨ z = 6 ∨ z = 7 ∨ z = 8 ∨ z = 10 := by omega
            rcases hii with rfl | rfl | rfl | rfl | rfl | rfl | rfl | rfl | rfl | rfl
            · cases ho
              refine ⟨rfl, wp_value (v := dv A 20 c' A3 m c3 (-1) false) ?_ rfl⟩
              go_simp
            · cases ho
              refine ⟨rfl, wp_value (v := .int .i64 i) ?_ rfl⟩
              simp [execOp, e10, Act.eval]
            · cases ho
              refine ⟨rfl, wp_value (v := .int .u8 x3) ?_ rfl⟩
              simp [execOp, e6, Act.eval]
            · cases ho
              refine ⟨rfl, wp_value (v := .int .i64 n) ?_ rfl⟩
              simp [execOp, e11, Act.eval]
            · cases ho
              have d2 := ev (show a1.eval (.tmp 84) = .int .u8 x3 from hk.done 2 _ 84 rfl rfl (hdep ⟨2, .data⟩ (by simp) rfl))
              have d3 := ev (show a1.eval (.tmp 85) = .int .i64 n from hk.done 3 _ 85 rfl rfl (hdep ⟨3, .data⟩ (by simp) rfl))
              refine ⟨rfl, ?_⟩
              go_simp
              refine (HFc.out w2).mono ?_
              rintro e w3 ⟨rfl, hoc, hsz, hb2⟩
              exact ⟨_, rfl, ⟨_, by simp, hoc.more (by omega)⟩, hb2⟩
            · cases ho
              have d0 := ev (show a1.eval (.tmp 82) = dv A 20 c' A3 m c3 (-1) false from hk.done 0 _ 82 rfl rfl (hdep ⟨0, .data⟩ (by simp) rfl))
              have d1 := ev (show a1.eval (.tmp 83) = .int .i64 i from hk.done 1 _ 83 rfl rfl (hdep ⟨1, .data⟩ (by simp) rfl))
              obtain ⟨gf, hgf, hoc⟩ := hk.done 4 _ 86 rfl rfl (hdep ⟨4, .data⟩ (by simp) rfl)
              have d4 := ev hgf
              have hw := HW10.out w2 gf hbl hoc
              clear hoc
              refine ⟨rfl, ?_⟩
              go_simp
              refine hw.mono ?_
              rintro e w3 ⟨A1, c1, rfl, hD, hz, hb2⟩
              exact ⟨_, rfl, ⟨A1, c1, rfl, hD, hz⟩, hb2⟩
            · cases ho
              obtain ⟨A1, c1, hv, hD, hz⟩ := hk.done 5 _ 87 rfl rfl (hdep ⟨5, .data⟩ (by simp) rfl)
              have d5 := ev hv
              refine ⟨rfl, wp_value ?_ ⟨A1, c1, rfl, hD, hz⟩⟩
              simp [execOp, d5, Act.eval]
            · cases ho
              obtain ⟨A1, c1, hv, hD, hz⟩ := hk.done 6 _ 81 rfl rfl (hdep ⟨6, .data⟩ (by simp) rfl)
              have d6 := ev hv
              refine ⟨rfl, wp_value ?_ ⟨A1, c1, rfl, hD, hz⟩⟩
              clear hD hz
              go_simp
            · cases ho
              obtain ⟨A1, c1, hv, hD, hz⟩ := hk.done 6 _ 81 rfl rfl (hdep ⟨6, .data⟩ (by simp) rfl)
              have d6 := ev hv
              clear hD hz
              refine ⟨rfl, wp_value (v := .int .i64 0) ?_ rfl⟩
              go_simp
            · cases ho
              have d8 := ev (show a1.eval (.tmp 89) = .int .i64 0 from hk.done 8 _ 89 rfl rfl (hdep ⟨8, .data⟩ (by simp) rfl))
              refine ⟨rfl, wp_value (v := .int .i64 0) ?_ rfl⟩
              simp [execOp, d8, Act.eval]
          case stored =>
            intro o listed a1 w2 ho hc hbl hk hdep
            cases ho
            obtain ⟨A1, c1, hv, hD, hz⟩ := hk.done 7 _ 88 rfl rfl (hdep ⟨7, .data⟩ (by simp) rfl)
            have d7 := ev hv
            have HD1 := Lib.hid hD
            have HZ1 := Lib.hid hz
            clear hD hz
            have eX := ev (show a1.eval (.tmp 17) = .pointer (some ⟨gy, 0, none⟩) from hk.frame 17 (frame_of (by kernel_rfl)))
            have HGZ := Lib.hid (box_at BXY.out hbl)
            obtain ⟨k0, k1, k2, k3, kf⟩ := cells_of4 HGZ.out
            refine ⟨rfl, ?_, fun j o' hj hd => ?_⟩
            · go_simp
              exact ⟨A1, c1, st4_at HGZ.out _ _ _ _, HD1.out.box2 (sec_of HS4.out) HGZ.out (by decide) (by have := HN.out; omega) _ _ _ _, HZ1.out, st4_below (HBT.out.trans (hbl.mono HBT.out.size)) HGY.out _ _ _ _⟩
            · have hj9 : j < 11 := (Array.getElem?_eq_some_iff.1 hj).1
              have hjj : j = 0 ∨ j = 1 ∨ j = 2 ∨ j = 3 ∨ j = 4 ∨ j = 5 ∨ j = 6 ∨ j = 7 ∨ j = 8 ∨ j = 9 ∨ j = 10 := by omega
              rcases hjj with rfl | rfl | rfl | rfl | rfl | rfl | rfl | rfl | rfl | rfl | rfl <;> (cases hj; exact absurd hd (by decide))
          case behindd =>
            intro z o listed a1 w2 hiz ho h0 h9 hc hwf hk hdep
            have hzz : z < 11 := (Array.getElem?_eq_some_iff.1 ho).1
            have l7 := hc.2 9 _ rfl h9 ⟨7, .data⟩ (by simp) rfl
            have l6 := hc.2 7 _ rfl l7 ⟨6, .data⟩ (by simp) rfl
            have l5 := hc.2 6 _ rfl l6 ⟨5, .data⟩ (by simp) rfl
            have l4 := hc.2 5 _ rfl l5 ⟨4, .data⟩ (by simp) rfl
            have l3 := hc.2 4 _ rfl l4 ⟨3, .data⟩ (by simp) rfl
            have l2 := hc.2 4 _ rfl l4 ⟨2, .data⟩ (by simp) rfl
            have l1 := hc.2 5 _ rfl l5 ⟨1, .data⟩ (by simp) rfl
            have l0 := hc.2 5 _ rfl l5 ⟨0, .data⟩ (by simp) rfl
            have hn := getD_tf h0
            have hii : z = 0 ∨ z = 1 ∨ z = 2 ∨ z = 3 ∨ z = 4 ∨ z = 5 ∨ z = 6 ∨ z = 7 ∨ z = 8 ∨ z = 10 := by omega
            rcases hii with rfl | rfl | rfl | rfl | rfl | rfl | rfl | rfl | rfl | rfl
            · rw [l0] at hn; cases hn
            · rw [l1] at hn; cases hn
            · rw [l2] at hn; cases hn
            · rw [l3] at hn; cases hn
            · rw [l4] at hn; cases hn
            · rw [l5] at hn; cases hn
            · rw [l6] at hn; cases hn
            · rw [l7] at hn; cases hn
            · cases ho
              obtain ⟨x, hx⟩ := (hk.done 6 _ 81 rfl rfl l6).1 (.inr rfl)
              have d6 := ev hx
              refine ⟨rfl, .int .i64 0, ?_, (fun h => by rcases h with h | h <;> cases h), fun _ => rfl⟩
              go_simp
            · cases ho
              have l8 := hdep ⟨8, .data⟩ (by simp) rfl
              have d8 := ev ((hk.done 8 _ 89 rfl rfl l8).2 (.inl rfl))
              refine ⟨rfl, .int .i64 0, ?_, (fun h => by rcases h with h | h <;> cases h), fun _ => rfl⟩
              simp [execOp, d8, Act.eval]
          case find =>
            intro listed a2 w2 hall hwf hk
            have hE : a2.eval (.tmp 19) = .int .i64 0 := (hk.done 10 _ 19 rfl rfl (hall 10 (by decide))).2 (.inr rfl)
            have hact := fr_all [82, 83, 84, 85, 86, 87, 81, 88, 89, 19] hk (by kernel_rfl)
            simp only [List.foldl_cons, List.foldl_nil, List.setIfInBounds_toArray, List.set_cons_succ, List.set_cons_zero] at hact
            generalize a2.eval (.tmp 82) = u82 at hact
            generalize a2.eval (.tmp 83) = u83 at hact
            generalize a2.eval (.tmp 84) = u84 at hact
            generalize a2.eval (.tmp 85) = u85 at hact
            generalize a2.eval (.tmp 86) = u86 at hact
            generalize a2.eval (.tmp 87) = u87 at hact
            generalize a2.eval (.tmp 81) = u81 at hact
            generalize a2.eval (.tmp 88) = u88 at hact
            generalize a2.eval (.tmp 89) = u89 at hact
            generalize a2.eval (.tmp 19) = u19 at hact hE
            rw [hact]
            clear hact
            go_wp2
            go_meet
            exact ⟨hE, hwf⟩
        case rest =>
          obtain ⟨rfl, A4, c4, hcy, hDy, hz4, hby⟩ := hcut
          obtain ⟨wU, rfl⟩ : ∃ x, x = wc := ⟨wc, rfl⟩
          have B0 := Lib.hid (B0t.out.trans (hby.mono B0t.out.size))
          have BXX := Lib.hid (box_at BXXt.out hby)
          have DX := Lib.hid (DXt.out.below hby)
          have BXY := Lib.hid hcy
          have DY := Lib.hid hDy
          clear hcy hDy hby hz4 BX8t DSt B0t BXXt DXt
          have HSP : Hid (spL (-1) false = -1) := (by decide : spL (-1) false = -1)
          obtain ⟨k0, k1, k2, k3, -⟩ := cells_of4 BXX.out
          go_upto_region 12 with fail
          clear k0 k1 k2 k3
          refine (flush_on A 20 c' A2 k c2 twenty (([] ++ wsA (i : Int) (fill c n)) ++ wsA (j : Int) (fill d m)) (-1) _ DX.out HS2.out (by have := HN.out; omega) (by decide) (by decide)).mono ?_
          rintro e w11 ⟨g20a, p20, rfl, hDn, hbn⟩
          replace B0 := Lib.hid (B0.out.trans (hbn.mono B0.out.size))
          replace BXX := Lib.hid (box_at BXX.out hbn)
          replace DX := Lib.hid (DX.out.below hbn)
          replace BXY := Lib.hid (box_at BXY.out hbn)
          replace DY := Lib.hid (DY.out.below hbn)
          have D20 := Lib.hid hDn
          clear hDn hbn
          rw [HSP.out]
          go_upto_region 12 with fail
          have hS : Below w11.heap.size w11 (w11.alloc (.cells #[.slice (some ⟨g20a, 0, none⟩) 20 p20, .slice none 0 0, .int .i64 (-1), .bool false] 25)) := (Below.refl _ _).alloc (Nat.le_refl _) _
          have BX20 : Hid ((w11.alloc (.cells #[.slice (some ⟨g20a, 0, none⟩) 20 p20, .slice none 0 0, .int .i64 (-1), .bool false] 25)).heap[w11.heap.size]? = some (.cells #[.slice (some ⟨g20a, 0, none⟩) 20 p20, .slice none 0 0, .int .i64 (-1), .bool false] 25 (0, 0))) := box_new _ _
          replace B0 := Lib.hid (B0.out.trans (hS.mono B0.out.size))
          replace BXX := Lib.hid (box_at BXX.out hS)
          replace DX := Lib.hid (DX.out.below hS)
          replace BXY := Lib.hid (box_at BXY.out hS)
          replace DY := Lib.hid (DY.out.below hS)
          replace D20 := Lib.hid (D20.out.below hS)
          obtain ⟨w12, hw⟩ : ∃ w12, w12 = w11.alloc (.cells #[.slice (some ⟨g20a, 0, none⟩) 20 p20, .slice none 0 0, .int .i64 (-1), .bool false] 25) := ⟨_, rfl⟩
          rw [← hw] at hS BX20 B0 BXX DX BXY DY D20 ⊢
          obtain ⟨g20, hg⟩ : ∃ g20, g20 = w11.heap.size := ⟨_, rfl⟩
          rw [← hg] at BX20 ⊢
          clear hw hg hS
          obtain ⟨k0, k1, k2, k3, -⟩ := cells_of4 BXY.out
          go_upto_region 13 with fail
          clear k0 k1 k2 k3
          refine (flush_on A 20 c' A4 k c4 twenty (([] ++ wsA (j : Int) (fill d m)) ++ wsA (i : Int) (fill c n)) (-1) _ DY.out HS4.out (by have := HN.out; omega) (by decide) (by decide)).mono ?_
          rintro e w13 ⟨g22a, p22, rfl, hDn, hbn⟩
          replace B0 := Lib.hid (B0.out.trans (hbn.mono B0.out.size))
          replace BXX := Lib.hid (box_at BXX.out hbn)
          replace DX := Lib.hid (DX.out.below hbn)
          replace BXY := Lib.hid (box_at BXY.out hbn)
          replace DY := Lib.hid (DY.out.below hbn)
          replace D20 := Lib.hid (D20.out.below hbn)
          replace BX20 := Lib.hid (box_at BX20.out hbn)
          have D22 := Lib.hid hDn
          clear hDn hbn
          rw [HSP.out]
          go_upto_region 13 with fail
          have hS : Below w13.heap.size w13 (w13.alloc (.cells #[.slice (some ⟨g22a, 0, none⟩) 20 p22, .slice none 0 0, .int .i64 (-1), .bool false] 25)) := (Below.refl _ _).alloc (Nat.le_refl _) _
          have BX22 : Hid ((w13.alloc (.cells #[.slice (some ⟨g22a, 0, none⟩) 20 p22, .slice none 0 0, .int .i64 (-1), .bool false] 25)).heap[w13.heap.size]? = some (.cells #[.slice (some ⟨g22a, 0, none⟩) 20 p22, .slice none 0 0, .int .i64 (-1), .bool false] 25 (0, 0))) := box_new _ _
          replace B0 := Lib.hid (B0.out.trans (hS.mono B0.out.size))
          replace BXX := Lib.hid (box_at BXX.out hS)
          replace DX := Lib.hid (DX.out.below hS)
          replace BXY := Lib.hid (box_at BXY.out hS)
          replace DY := Lib.hid (DY.out.below hS)
          replace D20 := Lib.hid (D20.out.below hS)
          replace BX20 := Lib.hid (box_at BX20.out hS)
          replace D22 := Lib.hid (D22.out.below hS)
          obtain ⟨w14, hw⟩ : ∃ w14, w14 = w13.alloc (.cells #[.slice (some ⟨g22a, 0, none⟩) 20 p22, .slice none 0 0, .int .i64 (-1), .bool false] 25) := ⟨_, rfl⟩
          rw [← hw] at hS BX22 B0 BXX DX BXY DY D20 BX20 D22 ⊢
          obtain ⟨g22, hg⟩ : ∃ g22, g22 = w13.heap.size := ⟨_, rfl⟩
          rw [← hg] at BX22 ⊢
          clear hw hg hS
          have HSW : Hid (done (fun _ => true) 0 (([] ++ wsA (j : Int) (fill d m)) ++ wsA (i : Int) (fill c n)) twenty = done (fun _ => true) 0 (([] ++ wsA (i : Int) (fill c n)) ++ wsA (j : Int) (fill d m)) twenty) := by
            obtain ⟨e1, e2, _⟩ := HN.out
            show _ = _
            subst e1
            simpa only [List.nil_append] using (two_swap c d i n m).symm
          have HRT : Hid (((((done (fun _ => true) 0 (([] ++ wsA (i : Int) (fill c n)) ++ wsA (j : Int) (fill d m)) twenty).drop i).take k).flatten) = List.replicate (64 * n) c ++ List.replicate (64 * m) d) := by
            obtain ⟨e1, e2, e3, _⟩ := HN.out
            show _ = _
            subst e1 e2
            simpa only [List.nil_append] using read_two c d i n m e3
          have HYD : Hid (may (done (fun _ => true) 0 (([] ++ wsA (i : Int) (fill c n)) ++ wsA (j : Int) (fill d m)) twenty) [] (-1) = true) := may_done HS2.out _ _ (by decide)
          have D22e := Lib.hid (HSW.out ▸ D22.out)
          obtain ⟨S9, hS9⟩ : ∃ S9, S9 = done (fun _ => true) 0 (([] ++ wsA (i : Int) (fill c n)) ++ wsA (j : Int) (fill d m)) twenty := ⟨_, rfl⟩
          rw [← hS9] at HRT HYD D20 D22e
          clear hS9 D22 HSW
          obtain ⟨k0, k1, k2, k3, -⟩ := cells_of4 BX20.out
          go_upto_region 16 with fail
          clear k0 k1 k2 k3
          refine (read_any (some ⟨g20a, 0, none⟩) 20 p20 S9 (-1) i k _ D20.out HYD.out (by have := HN.out; omega) (by have := HN.out; omega)).mono ?_
          rintro e w15 ⟨gr, pr, rfl, hOr, hbr⟩
          replace B0 := Lib.hid (B0.out.trans (hbr.mono B0.out.size))
          replace D20 := Lib.hid (D20.out.below hbr)
          replace D22e := Lib.hid (D22e.out.below hbr)
          replace BX20 := Lib.hid (box_at BX20.out hbr)
          replace BX22 := Lib.hid (box_at BX22.out hbr)
          rw [HRT.out] at hOr
          have HOR := Lib.hid hOr
          clear hOr hbr
          go_upto_region 16 with fail
          refine wp_region_by (by kernel_rfl) (Phi [.val (dv (some ⟨g20a, 0, none⟩) 20 p20 none 0 0 (-1) false), .val (dv (some ⟨g22a, 0, none⟩) 20 p22 none 0 0 (-1) false), .val (.bool true), .val (.bool true), .val (.slice (some ⟨gr, 0, none⟩) (64 * k) pr), .val (.string (tA c n ++ tA d m)), .val (.int .u8 x3), .val (.int .i64 n), lfF c (64 * n), .val (.string (tA c n)), .val (.int .u8 x4), .val (.int .i64 m), lfF d (64 * m), .val (.string (tA d m)), .val (.string (tA c n ++ tA d m)), .val (.bool true), .val (.bool true), .val (.bool true), .val (.int .i64 0), .val (.bool true), .val (.bool true), .val (.bool true), .val (.bool true), .val (.bool true), .val (.bool true)]) (phi_stab _) (by kernel_rfl) ?step16 ?fin16
          case step16 =>
            intro i_ o listed a1 w2 ho hk hdep
            have hi : i_ < 25 := (Array.getElem?_eq_some_iff.1 ho).1
            have e6 := ev (show a1.eval (.tmp 6) = .int .u8 x3 from hk.frame 6 (frame_of (by kernel_rfl)))
            have e7 := ev (show a1.eval (.tmp 7) = .int .u8 x4 from hk.frame 7 (frame_of (by kernel_rfl)))
            have e11 := ev (show a1.eval (.tmp 11) = .int .i64 n from hk.frame 11 (frame_of (by kernel_rfl)))
            have e13 := ev (show a1.eval (.tmp 13) = .int .i64 m from hk.frame 13 (frame_of (by kernel_rfl)))
            have e20 := ev (show a1.eval (.tmp 20) = .pointer (some ⟨g20, 0, none⟩) from hk.frame 20 (frame_of (by kernel_rfl)))
            have e22 := ev (show a1.eval (.tmp 22) = .pointer (some ⟨g22, 0, none⟩) from hk.frame 22 (frame_of (by kernel_rfl)))
            have e24 := ev (show a1.eval (.tmp 24) = .slice (some ⟨gr, 0, none⟩) (64 * k) pr from hk.frame 24 (frame_of (by kernel_rfl)))
            have e25 := ev (show a1.eval (.tmp 25) = .int .i64 0 from hk.frame 25 (frame_of (by kernel_rfl)))
            obtain ⟨k20, k21, k22, k23, kf2⟩ := cells_of4 (box_at BX20.out hk.below)
            obtain ⟨k30, k31, k32, k33, kf3⟩ := cells_of4 (box_at BX22.out hk.below)
            have v5 : (convert 38 9 (.slice (some ⟨gr, 0, none⟩) (64 * k) pr)).run Try.prog w2 = .ok (.string (tA c n ++ tA d m)) w2 := by
                    have := octs_text (HOR.out.below hk.below (Nat.le_refl _)) (c := pr)
                    rw [List.length_append, List.length_replicate, List.length_replicate, show 64 * n + 64 * m = 64 * k by have := HN.out; omega, ← text_app] at this
                    exact this
            clear kf2 kf3
            have hii : i_ = 0 ∨ i_ = 1 ∨ i_ = 2 ∨ i_ = 3 ∨ i_ = 4 ∨ i_ = 5 ∨ i_ = 6 ∨ i_ = 7 ∨ i_ = 8 ∨ i_ = 9 ∨ i_ = 10 ∨ i_ = 11 ∨ i_ = 12 ∨ i_ = 13 ∨ i_ = 14 ∨ i_ = 15 ∨ i_ = 16 ∨ i_ = 17 ∨ i_ = 18 ∨ i_ = 19 ∨ i_ = 20 ∨ i_ = 21 ∨ i_ = 22 ∨ i_ = 23 ∨ i_ = 24 := by omega
            rcases hii with rfl | rfl | rfl | rfl | rfl | rfl | rfl | rfl | rfl | rfl | rfl | rfl | rfl | rfl | rfl | rfl | rfl | rfl | rfl | rfl | rfl | rfl | rfl | rfl | rfl
            · cases ho
              refine wpOp_of rfl rfl (wp_value (v := dv (some ⟨g20a, 0, none⟩) 20 p20 none 0 0 (-1) false) ?_ rfl)
              go_simp
            · cases ho
              refine wpOp_of rfl rfl (wp_value (v := dv (some ⟨g22a, 0, none⟩) 20 p22 none 0 0 (-1) false) ?_ rfl)
              go_simp
            · cases ho
              have d0 := ev (show a1.eval (.tmp 135) = dv (some ⟨g20a, 0, none⟩) 20 p20 none 0 0 (-1) false from hk.done 0 _ 135 rfl rfl (hdep ⟨0, .data⟩ (by simp) rfl))
              have d1 := ev (show a1.eval (.tmp 136) = dv (some ⟨g22a, 0, none⟩) 20 p22 none 0 0 (-1) false from hk.done 1 _ 136 rfl rfl (hdep ⟨1, .data⟩ (by simp) rfl))
              refine wpOp_of rfl rfl ?_
              go_simp
              refine (same_yes (some ⟨g20a, 0, none⟩) 20 p20 none 0 0 (some ⟨g22a, 0, none⟩) p22 none 0 S9 [] (-1) false w2 (D20.out.below hk.below) (D22e.out.below hk.below) (by decide) (by decide)).mono ?_
              rintro e w3 ⟨rfl, hb2⟩
              exact ⟨_, rfl, rfl, hb2⟩
            · cases ho
              have d2 := ev (show a1.eval (.tmp 137) = .bool true from hk.done 2 _ 137 rfl rfl (hdep ⟨2, .data⟩ (by simp) rfl))
              refine wpOp_of rfl rfl (wp_value (v := .bool true) ?_ rfl)
              simp [execOp, d2, Act.eval]
            · cases ho
              refine wpOp_of rfl (wanted_of (t := 138) rfl rfl (hk.done 3 _ 138 rfl rfl (hdep ⟨3, .guard⟩ (by simp) rfl))) (wp_value (v := .slice (some ⟨gr, 0, none⟩) (64 * k) pr) ?_ rfl)
              simp [execOp, e24, Act.eval]
            · cases ho
              have d4 := ev (show a1.eval (.tmp 139) = .slice (some ⟨gr, 0, none⟩) (64 * k) pr from hk.done 4 _ 139 rfl rfl (hdep ⟨4, .data⟩ (by simp) rfl))
              refine wpOp_of rfl (wanted_of (t := 138) rfl rfl (hk.done 3 _ 138 rfl rfl (hdep ⟨3, .guard⟩ (by simp) rfl))) (wp_value (v := .string (tA c n ++ tA d m)) ?_ rfl)
              go_simp
            · cases ho
              refine wpOp_of rfl (wanted_of (t := 138) rfl rfl (hk.done 3 _ 138 rfl rfl (hdep ⟨3, .guard⟩ (by simp) rfl))) (wp_value (v := .int .u8 x3) ?_ rfl)
              simp [execOp, e6, Act.eval]
            · cases ho
              refine wpOp_of rfl (wanted_of (t := 138) rfl rfl (hk.done 3 _ 138 rfl rfl (hdep ⟨3, .guard⟩ (by simp) rfl))) (wp_value (v := .int .i64 n) ?_ rfl)
              simp [execOp, e11, Act.eval]
            · cases ho
              have d6 := ev (show a1.eval (.tmp 141) = .int .u8 x3 from hk.done 6 _ 141 rfl rfl (hdep ⟨6, .data⟩ (by simp) rfl))
              have d7 := ev (show a1.eval (.tmp 142) = .int .i64 n from hk.done 7 _ 142 rfl rfl (hdep ⟨7, .data⟩ (by simp) rfl))
              refine wpOp_of rfl (wanted_of (t := 138) rfl rfl (hk.done 3 _ 138 rfl rfl (hdep ⟨3, .guard⟩ (by simp) rfl))) ?_
              go_simp
              refine (HFc.out w2).mono ?_
              rintro e w3 ⟨rfl, hoc, hsz, hb2⟩
              exact ⟨_, rfl, ⟨_, by simp, hoc.more (by omega)⟩, hb2⟩
            · cases ho
              obtain ⟨g, hg, hoc⟩ := hk.done 8 _ 143 rfl rfl (hdep ⟨8, .data⟩ (by simp) rfl)
              have dd := ev hg
              have v9 : (convert 38 9 (.slice (some ⟨g, 0, none⟩) (64 * n) (64 * n))).run Try.prog w2 = .ok (.string (tA c n)) w2 := by have := octs_text hoc (c := 64 * n); rw [List.length_replicate] at this; exact this
              clear hoc
              refine wpOp_of rfl (wanted_of (t := 138) rfl rfl (hk.done 3 _ 138 rfl rfl (hdep ⟨3, .guard⟩ (by simp) rfl))) (wp_value (v := .string (tA c n)) ?_ rfl)
              go_simp
            · cases ho
              refine wpOp_of rfl (wanted_of (t := 138) rfl rfl (hk.done 3 _ 138 rfl rfl (hdep ⟨3, .guard⟩ (by simp) rfl))) (wp_value (v := .int .u8 x4) ?_ rfl)
              simp [execOp, e7, Act.eval]
            · cases ho
              refine wpOp_of rfl (wanted_of (t := 138) rfl rfl (hk.done 3 _ 138 rfl rfl (hdep ⟨3, .guard⟩ (by simp) rfl))) (wp_value (v := .int .i64 m) ?_ rfl)
              simp [execOp, e13, Act.eval]
            · cases ho
              have d10 := ev (show a1.eval (.tmp 145) = .int .u8 x4 from hk.done 10 _ 145 rfl rfl (hdep ⟨10, .data⟩ (by simp) rfl))
              have d11 := ev (show a1.eval (.tmp 146) = .int .i64 m from hk.done 11 _ 146 rfl rfl (hdep ⟨11, .data⟩ (by simp) rfl))
              refine wpOp_of rfl (wanted_of (t := 138) rfl rfl (hk.done 3 _ 138 rfl rfl (hdep ⟨3, .guard⟩ (by simp) rfl))) ?_
              go_simp
              refine (HFd.out w2).mono ?_
              rintro e w3 ⟨rfl, hoc, hsz, hb2⟩
              exact ⟨_, rfl, ⟨_, by simp, hoc.more (by omega)⟩, hb2⟩
            · cases ho
              obtain ⟨g, hg, hoc⟩ := hk.done 12 _ 147 rfl rfl (hdep ⟨12, .data⟩ (by simp) rfl)
              have dd := ev hg
              have v9 : (convert 38 9 (.slice (some ⟨g, 0, none⟩) (64 * m) (64 * m))).run Try.prog w2 = .ok (.string (tA d m)) w2 := by have := octs_text hoc (c := 64 * m); rw [List.length_replicate] at this; exact this
              clear hoc
              refine wpOp_of rfl (wanted_of (t := 138) rfl rfl (hk.done 3 _ 138 rfl rfl (hdep ⟨3, .guard⟩ (by simp) rfl))) (wp_value (v := .string (tA d m)) ?_ rfl)
              go_simp
            · cases ho
              have d9 := ev (show a1.eval (.tmp 144) = .string (tA c n) from hk.done 9 _ 144 rfl rfl (hdep ⟨9, .data⟩ (by simp) rfl))
              have d13 := ev (show a1.eval (.tmp 148) = .string (tA d m) from hk.done 13 _ 148 rfl rfl (hdep ⟨13, .data⟩ (by simp) rfl))
              refine wpOp_of rfl (wanted_of (t := 138) rfl rfl (hk.done 3 _ 138 rfl rfl (hdep ⟨3, .guard⟩ (by simp) rfl))) (wp_value (v := .string (tA c n ++ tA d m)) ?_ rfl)
              go_simp
              rw [tA_size, tA_size]
              have := HN.out
              omega
            · cases ho
              have d5 := ev (show a1.eval (.tmp 140) = .string (tA c n ++ tA d m) from hk.done 5 _ 140 rfl rfl (hdep ⟨5, .data⟩ (by simp) rfl))
              have d14 := ev (show a1.eval (.tmp 149) = .string (tA c n ++ tA d m) from hk.done 14 _ 149 rfl rfl (hdep ⟨14, .data⟩ (by simp) rfl))
              refine wpOp_of rfl (wanted_of (t := 138) rfl rfl (hk.done 3 _ 138 rfl rfl (hdep ⟨3, .guard⟩ (by simp) rfl))) (wp_value (v := .bool true) ?_ rfl)
              go_simp
            · cases ho
              have d3 := ev (show a1.eval (.tmp 138) = .bool true from hk.done 3 _ 138 rfl rfl (hdep ⟨3, .data⟩ (by simp) rfl))
              have d15 := ev (show a1.eval (.tmp 150) = .bool true from hk.done 15 _ 150 rfl rfl (hdep ⟨15, .data⟩ (by simp) rfl))
              refine wpOp_of rfl rfl (wp_value (v := .bool true) ?_ rfl)
              go_simp
            · cases ho
              have d16 := ev (show a1.eval (.tmp 151) = .bool true from hk.done 16 _ 151 rfl rfl (hdep ⟨16, .data⟩ (by simp) rfl))
              refine wpOp_of rfl rfl (wp_value (v := .bool true) ?_ rfl)
              simp [execOp, d16, Act.eval]
            · cases ho
              refine wpOp_of rfl (wanted_of (t := 152) rfl rfl (hk.done 17 _ 152 rfl rfl (hdep ⟨17, .guard⟩ (by simp) rfl))) (wp_value (v := .int .i64 0) ?_ rfl)
              simp [execOp, e25, Act.eval]
            · cases ho
              have d18 := ev (show a1.eval (.tmp 153) = .int .i64 0 from hk.done 18 _ 153 rfl rfl (hdep ⟨18, .data⟩ (by simp) rfl))
              refine wpOp_of rfl (wanted_of (t := 152) rfl rfl (hk.done 17 _ 152 rfl rfl (hdep ⟨17, .guard⟩ (by simp) rfl))) (wp_value (v := .bool true) ?_ rfl)
              go_simp
            · cases ho
              have d17 := ev (show a1.eval (.tmp 152) = .bool true from hk.done 17 _ 152 rfl rfl (hdep ⟨17, .data⟩ (by simp) rfl))
              have d19 := ev (show a1.eval (.tmp 154) = .bool true from hk.done 19 _ 154 rfl rfl (hdep ⟨19, .data⟩ (by simp) rfl))
              refine wpOp_of rfl rfl (wp_value (v := .bool true) ?_ rfl)
              go_simp
            · cases ho
              have d20 := ev (show a1.eval (.tmp 155) = .bool true from hk.done 20 _ 155 rfl rfl (hdep ⟨20, .data⟩ (by simp) rfl))
              refine wpOp_of rfl rfl (wp_value (v := .bool true) ?_ rfl)
              simp [execOp, d20, Act.eval]
            · cases ho
              refine wpOp_of rfl (wanted_of (t := 156) rfl rfl (hk.done 21 _ 156 rfl rfl (hdep ⟨21, .guard⟩ (by simp) rfl))) ?_
              go_simp
              refine (awake_any w2).mono ?_
              rintro e w3 ⟨rfl, hb2⟩
              exact ⟨_, rfl, rfl, hb2⟩
            · cases ho
              have d21 := ev (show a1.eval (.tmp 156) = .bool true from hk.done 21 _ 156 rfl rfl (hdep ⟨21, .data⟩ (by simp) rfl))
              have d22 := ev (show a1.eval (.tmp 157) = .bool true from hk.done 22 _ 157 rfl rfl (hdep ⟨22, .data⟩ (by simp) rfl))
              refine wpOp_of rfl rfl (wp_value (v := .bool true) ?_ rfl)
              go_simp
            · cases ho
              have d23 := ev (show a1.eval (.tmp 158) = .bool true from hk.done 23 _ 158 rfl rfl (hdep ⟨23, .data⟩ (by simp) rfl))
              refine wpOp_of rfl rfl (wp_value (v := .bool true) ?_ rfl)
              simp [execOp, d23, Act.eval]
          case fin16 =>
            intro listed a2 w2 hk hall
            have h0 : a2.eval (.tmp 2) = .bool true := hk.done 24 _ 2 rfl rfl (hall 24 (by decide))
            have hB := B0.out.trans (hk.below.mono B0.out.size)
            have e0 := ev h0
            go_wp2
            refine bodyPost_ret (v := .bool true) (by simp [results, Try.results6, go_sem, e0]) hk.defers ⟨rfl, hB⟩
end Go.Proofs.Ytopklkkhddpglaa
