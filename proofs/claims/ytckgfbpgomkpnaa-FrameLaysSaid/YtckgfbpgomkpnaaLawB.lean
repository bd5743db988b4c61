/- The walk of the law FrameLays. -/
import Derived.Test.YtckgfbpgomkpnaaLawA
import Derived.Test.YtckgfbpgomkpnaaAnyB
namespace Go.Proofs.Ytckgfbpgomkpnaa
open Go.RowKit Crc Chk Frm

theorem sectI_in {n : Int} (h : 0 ≤ n ∧ n ≤ 6000) : (20 + n + 63) / 64 = sectI n := by unfold sectI; rw [if_pos h]; omega
theorem sectI_out {n : Int} (h : ¬ (0 ≤ n ∧ n ≤ 6000)) : 0 = sectI n := by unfold sectI; rw [if_neg h]
theorem take100 (l : List UInt8) : (l.take 100).length = min 100 l.length := List.length_take ..
set_option maxRecDepth 100000 in
set_option maxHeartbeats 3200000 in
theorem lays_walk (s : Int) (A : Option Addr) (l : List UInt8) (c : Nat) (A2 : Option Addr) (l2 : List UInt8) (c2 : Nat) (n : Int) (w : World) (h : Octs w w.heap.size A l) (hc : l.length ≤ c) (hm : l.length ≤ 9223372036854775807)
    (h2 : Octs w w.heap.size A2 l2) (hc2 : l2.length ≤ c2) (hm2 : l2.length ≤ 9223372036854775807) :
    Calls Try.prog 3 #[.agg #[.int .i64 s, .slice A l.length c], .slice A2 l2.length c2, .int .i64 n] w fun e w' => e = .returned (.bool true) ∧ Below w.heap.size w w' := by
  have F1 := Lib.hid (fun W => few_any A l c W hc hm)
  obtain ⟨d, hd⟩ : ∃ d, d = fw l := ⟨_, rfl⟩
  have hdl : d.length ≤ 6001 := by rw [hd]; exact fw_len l
  have OD : Hid (Octs w w.heap.size A d) := by rw [hd]; exact fw_octs h
  rw [← hd] at F1
  obtain ⟨k, hk⟩ : ∃ k, k = d.length := ⟨_, rfl⟩
  have HK := Lib.hid hk
  rw [← hk] at F1 hdl
  obtain ⟨b, hb⟩ : ∃ b, b = l2.take 100 := ⟨_, rfl⟩
  have OB : Hid (Octs w w.heap.size A2 b) := by rw [hb]; exact h2.take 100
  obtain ⟨k2, hk2⟩ : ∃ k2, k2 = b.length := ⟨_, rfl⟩
  obtain ⟨n1, hn1⟩ : ∃ n1, n1 = l.length := ⟨_, rfl⟩
  obtain ⟨n2, hn2⟩ : ∃ n2, n2 = l2.length := ⟨_, rfl⟩
  have hkn : k2 = min 100 n2 := by rw [hk2, hb, hn2, take100]
  have HKN : Hid ((100 < n2 ∧ k2 = 100) ∨ (¬ 100 < n2 ∧ k2 = n2)) := by show _ ∨ _; omega
  have hk100 : k2 ≤ 100 := by omega
  have hk2c : k2 ≤ c2 := by omega
  have HK2 := Lib.hid hk2
  have HN := Lib.hid (sectI_in (n := n))
  have HN' := Lib.hid (sectI_out (n := n))
  obtain ⟨q, hq⟩ : ∃ q, q = sectI n := ⟨_, rfl⟩
  rw [← hq] at HN HN'
  have HQ := Lib.hid hq
  rw [← hn1] at F1 hc hm ⊢
  rw [← hn2] at hc2 hm2 ⊢
  obtain ⟨W1, hW1⟩ : ∃ W1, W1 = w.alloc (.cells #[.int .i64 s, .slice A k c] 24) := ⟨_, rfl⟩
  have HF : Hid (BoxF w.heap.size s A k c W1) := by rw [hW1]; exact boxF_new _ _ _ _ _
  have HZ1 : Hid (W1.heap.size = w.heap.size + 1) := by show _ = _; rw [hW1]; exact alloc_size _ _
  have HB1 : Hid (Below w.heap.size w W1) := by rw [hW1]; exact (Below.refl _ _).alloc (Nat.le_refl _) _
  have HW1 := Lib.hid hW1
  clear hd hk hb hk2 hn1 hn2 hkn hq h h2 hW1
  go_enter Try.func3, Try.ntmps3
  go_wp2_with fail
  refine (F1.out _).mono ?_
  rintro e w' ⟨rfl, rfl⟩
  go_upto_if 19 with fail
  rw [← HW1.out]
  go_cut [1] (fun s1 wx => s1 = .slice A2 k2 c2 ∧ W1 = wx)
  case first =>
    rcases HKN.out with ⟨x1, x2⟩ | ⟨x1, x2⟩
    all_goals
      have X2 := Lib.hid x2
      clear x2
      go_wp2_with fail
      go_meet
      exact ⟨by rw [X2.out], rfl⟩
  case rest =>
  obtain ⟨rfl, rfl⟩ := hcut
  obtain ⟨T, hT⟩ : ∃ T, T = decide (0 ≤ n ∧ n ≤ 6000) := ⟨_, rfl⟩
  have HT := Lib.hid hT
  clear hT
  go_upto_region 5 with fail
  go_cut [27] (fun s27 wx => s27 = .bool T ∧ W1 = wx)
  case first =>
    by_cases p1 : 0 ≤ n
    · by_cases p2 : n ≤ 6000
      · go_wp2_with fail
        go_meet
        exact ⟨by rw [HT.out]; simp [p1, p2], rfl⟩
      · have p2' : decide (n ≤ 6000) = false := by simpa using p2
        go_wp2_with fail
        go_meet
        exact ⟨by rw [HT.out]; simp [p2], rfl⟩
    · have p1' : decide (0 ≤ n) = false := by simpa using p1
      have HT3 : Hid (decide (0 ≤ n ∧ n ≤ 6000) = decide (0 ≤ n)) := by show _ = _; rw [decide_eq_decide]; omega
      have HT4 := Lib.hid p1'
      go_wp2_with fail
      go_meet
      exact ⟨by rw [HT.out, HT3.out]; first | rfl | rw [HT4.out], rfl⟩
  case rest =>
  obtain ⟨rfl, rfl⟩ := hcut
  go_upto_if 27 with fail
  go_cut [7] (fun s7 wx => s7 = .int .i64 q ∧ W1 = wx)
  case first =>
    cases hTv : T with
    | true =>
      have hp : 0 ≤ n ∧ n ≤ 6000 := by have := HT.out; rw [hTv] at this; simpa using this.symm
      have HE := Lib.hid (HN.out hp)
      have hp0 := hp.1
      have hp6 := hp.2
      clear hp hTv
      go_wp2_with fail
      go_meet
      exact ⟨by rw [← HE.out], rfl⟩
    | false =>
      have hp : ¬ (0 ≤ n ∧ n ≤ 6000) := by have := HT.out; rw [hTv] at this; simpa using this.symm
      have HE := Lib.hid (HN'.out hp)
      clear hp hTv
      go_wp2_with fail
      go_meet
      exact ⟨by rw [← HE.out], rfl⟩
  case rest =>
  obtain ⟨rfl, rfl⟩ := hcut
  have SE : Hid (∀ W, Calls Try.prog 12 #[.int .i64 n] W fun e w' => e = .returned (.int .i64 q) ∧ W = w') := fun W => by rw [HQ.out]; exact sect_any n W
  have h9 : k ≤ 9223372036854775807 := by omega
  cases hM : mayB s k with
  | false =>
    have HM := Lib.hid hM
    clear hM
    obtain ⟨f0, f1⟩ := HF.out
    go_wp2_with fail
    clear f0 f1
    refine (lay_no s A k c _ h9 HM.out).mono ?_
    rintro e w2 ⟨rfl, hb2⟩
    have HF2 := Lib.hid (HF.out.below hb2 (by have := HZ1.out; omega))
    have HB2 := Lib.hid (step HB1.out hb2)
    have hlo2 : w.heap.size < w2.heap.size := by have := HZ1.out; have := hb2.size; omega
    clear hb2
    go_wp2_with fail
    go_cut [47] from 37 to 47 (fun s47 wx => s47 = .bool false ∧ Below w2.heap.size w2 wx)
    case first =>
      refine wp_region_by (by kernel_rfl) (Phi [.val (.agg #[.int .i64 s, .slice A k c]), .val (.bool false), .val (.agg #[.int .i64 s, .slice A k c]), .val (.bool false), .val (.bool false), .val (.bool false), .val (.int .i64 n), .val (.int .i64 q), .val (.int .i64 q), .val (.bool false), .val (.bool false)]) (phi_stab _) (by kernel_rfl) ?step8 ?fin8
      case step8 =>
        intro i o listed a1 w2 ho hk hdep
        have hi : i < 11 := (Array.getElem?_eq_some_iff.1 ho).1
        have e2 := ev (show a1.eval (.tmp 2) = .int .i64 n from hk.frame 2 (frame_of (by kernel_rfl)))
        have e3 := ev (show a1.eval (.tmp 3) = .pointer (some ⟨w.heap.size, 0, none⟩) from hk.frame 3 (frame_of (by kernel_rfl)))
        have e7 := ev (show a1.eval (.tmp 7) = .int .i64 q from hk.frame 7 (frame_of (by kernel_rfl)))
        obtain ⟨k0, k1⟩ := HF2.out.below hk.below hlo2
        have hii : i = 0 ∨ i = 1 ∨ i = 2 ∨ i = 3 ∨ i = 4 ∨ i = 5 ∨ i = 6 ∨ i = 7 ∨ i = 8 ∨ i = 9 ∨ i = 10 := by omega
        rcases hii with rfl | rfl | rfl | rfl | rfl | rfl | rfl | rfl | rfl | rfl | rfl
        · cases ho
          refine wpOp_of rfl rfl (wp_value (v := .agg #[.int .i64 s, .slice A k c]) ?_ rfl)
          go_simp
        · cases ho
          have d0 := ev (show a1.eval (.tmp 37) = .agg #[.int .i64 s, .slice A k c] from hk.done 0 _ 37 rfl rfl (hdep ⟨0, .data⟩ (by simp) rfl))
          have HMx := Lib.hid (may_any s A k c w2 h9)
          rw [HM.out] at HMx
          refine wpOp_of rfl rfl ?_
          go_simp
          refine (HMx.out).mono ?_
          rintro e w3 ⟨rfl, hb2⟩
          exact ⟨_, rfl, rfl, hb2⟩
        · cases ho
          refine wpOp_of rfl rfl (wp_value (v := .agg #[.int .i64 s, .slice A k c]) ?_ rfl)
          go_simp
        · cases ho
          have d2 := ev (show a1.eval (.tmp 39) = .agg #[.int .i64 s, .slice A k c] from hk.done 2 _ 39 rfl rfl (hdep ⟨2, .data⟩ (by simp) rfl))
          have HMx := Lib.hid (rmay_any s A k c w2 h9)
          rw [HM.out] at HMx
          refine wpOp_of rfl rfl ?_
          go_simp
          refine (HMx.out).mono ?_
          rintro e w3 ⟨rfl, hb2⟩
          exact ⟨_, rfl, rfl, hb2⟩
        · cases ho
          have d1 := ev (show a1.eval (.tmp 38) = .bool false from hk.done 1 _ 38 rfl rfl (hdep ⟨1, .data⟩ (by simp) rfl))
          have d3 := ev (show a1.eval (.tmp 40) = .bool false from hk.done 3 _ 40 rfl rfl (hdep ⟨3, .data⟩ (by simp) rfl))
          refine wpOp_of rfl rfl (wp_value (v := .bool false) ?_ rfl)
          go_simp
        · cases ho
          have d4 := ev (show a1.eval (.tmp 41) = .bool false from hk.done 4 _ 41 rfl rfl (hdep ⟨4, .data⟩ (by simp) rfl))
          refine wpOp_of rfl rfl (wp_value (v := .bool false) ?_ rfl)
          simp [execOp, d4, Act.eval]
        · cases ho
          refine wpOp_of rfl (wanted_of (t := 42) rfl rfl (hk.done 5 _ 42 rfl rfl (hdep ⟨5, .guard⟩ (by simp) rfl))) (wp_value (v := .int .i64 n) ?_ rfl)
          simp [execOp, e2, Act.eval]
        · cases ho
          have d6 := ev (show a1.eval (.tmp 43) = .int .i64 n from hk.done 6 _ 43 rfl rfl (hdep ⟨6, .data⟩ (by simp) rfl))
          refine wpOp_of rfl (wanted_of (t := 42) rfl rfl (hk.done 5 _ 42 rfl rfl (hdep ⟨5, .guard⟩ (by simp) rfl))) ?_
          go_simp
          refine (SE.out w2).mono ?_
          rintro e w3 ⟨rfl, rfl⟩
          exact ⟨_, rfl, rfl, Below.refl _ _⟩
        · cases ho
          refine wpOp_of rfl (wanted_of (t := 42) rfl rfl (hk.done 5 _ 42 rfl rfl (hdep ⟨5, .guard⟩ (by simp) rfl))) (wp_value (v := .int .i64 q) ?_ rfl)
          simp [execOp, e7, Act.eval]
        · cases ho
          have d7 := ev (show a1.eval (.tmp 44) = .int .i64 q from hk.done 7 _ 44 rfl rfl (hdep ⟨7, .data⟩ (by simp) rfl))
          have d8 := ev (show a1.eval (.tmp 45) = .int .i64 q from hk.done 8 _ 45 rfl rfl (hdep ⟨8, .data⟩ (by simp) rfl))
          refine wpOp_of rfl (wanted_of (t := 42) rfl rfl (hk.done 5 _ 42 rfl rfl (hdep ⟨5, .guard⟩ (by simp) rfl))) (wp_value (v := .bool false) ?_ rfl)
          go_simp
        · cases ho
          have d5 := ev (show a1.eval (.tmp 42) = .bool false from hk.done 5 _ 42 rfl rfl (hdep ⟨5, .data⟩ (by simp) rfl))
          have d9 := ev (show a1.eval (.tmp 46) = .bool false from hk.done 9 _ 46 rfl rfl (hdep ⟨9, .data⟩ (by simp) rfl))
          refine wpOp_of rfl rfl (wp_value (v := .bool false) ?_ rfl)
          go_simp
      case fin8 =>
        intro listed a2 w2 hk hall
        have h47 : a2.eval (.tmp 47) = .bool false := hk.done 10 _ 47 rfl rfl (hall 10 (by decide))
        have hact := kept_all [37, 38, 39, 40, 41, 42, 43, 44, 45, 46, 47] hk (by kernel_rfl)
        have HB := Lib.hid hk.below
        simp only [List.foldl_cons, List.foldl_nil, List.setIfInBounds_toArray, List.set_cons_succ, List.set_cons_zero] at hact
        generalize a2.eval (.tmp 37) = u37 at hact
        generalize a2.eval (.tmp 38) = u38 at hact
        generalize a2.eval (.tmp 39) = u39 at hact
        generalize a2.eval (.tmp 40) = u40 at hact
        generalize a2.eval (.tmp 41) = u41 at hact
        generalize a2.eval (.tmp 42) = u42 at hact
        generalize a2.eval (.tmp 43) = u43 at hact
        generalize a2.eval (.tmp 44) = u44 at hact
        generalize a2.eval (.tmp 45) = u45 at hact
        generalize a2.eval (.tmp 46) = u46 at hact
        generalize a2.eval (.tmp 47) = u47 at hact h47
        rw [hact]
        clear hact
        go_wp2
        go_meet
        exact ⟨h47, HB.out⟩
    case rest =>
    obtain ⟨rfl, hbx⟩ := hcut
    have HF3 := Lib.hid (HF2.out.below hbx hlo2)
    have HB3 := Lib.hid (step HB2.out hbx)
    clear hbx
    obtain ⟨f0, f1⟩ := HF3.out
    go_wp2_with fail
    clear f0 f1
    refine (rmay_any s A k c _ h9).mono ?_
    rintro e w4 ⟨rfl, hb4⟩
    rw [HM.out]
    have HB4 := Lib.hid (step HB3.out hb4)
    clear hb4
    go_wp2_with fail
    refine (awake_any _).mono ?_
    rintro e w5 ⟨rfl, hb5⟩
    have HB5 := Lib.hid (step HB4.out hb5)
    clear hb5
    go_wp2_with fail
    go_ret
    exact ⟨rfl, HB5.out⟩
  | true =>
    have HM := Lib.hid hM
    obtain ⟨m1, m2, m3⟩ := mayB_iff.1 hM
    obtain ⟨s', rfl⟩ : ∃ s' : Nat, s = (s' : Int) := ⟨s.toNat, by omega⟩
    have m4 : 1 ≤ s' := by omega
    have m5 : s' ≤ 281474976710655 := by omega
    clear hM m1 m2
    obtain ⟨f0, f1⟩ := HF.out
    go_wp2_with fail
    clear f0 f1
    refine (lay_at s' A d k c w.heap.size W1 HK.out.symm (OD.out.below HB1.out (Nat.le_refl _)) HB1.out.size m4 m5 m3).mono ?_
    rintro e w2 ⟨v8, rfl, hown8, hb2⟩
    have HF2 := Lib.hid (HF.out.below hb2 (by have := HZ1.out; omega))
    have HB2 := Lib.hid (step HB1.out hb2)
    have hlo2 : w.heap.size < w2.heap.size := by have := HZ1.out; have := hb2.size; omega
    obtain ⟨A8, c8, rfl, o8, hc8⟩ := own_sl hown8
    have hz2 : w2.heap.size ≤ w2.heap.size := Nat.le_refl _
    have HO8 := Lib.hid o8
    obtain ⟨L, hL⟩ : ∃ L, L = lay s' d := ⟨_, rfl⟩
    have HLd := Lib.hid hL
    obtain ⟨u, hu⟩ : ∃ u, u = L.length := ⟨_, rfl⟩
    have hu2 : u = size d.length := by rw [hu, hL, lay_len]
    have hu3 : u ≤ 7000 := by have := size_ge d.length; have := HK.out; omega
    rw [← hL] at HO8 hc8 ⊢
    rw [← hu] at hc8 ⊢
    have HU := Lib.hid hu
    have HU2 := Lib.hid hu2
    clear hb2 hown8 o8 hL hu hu2
    go_wp2_with fail
    go_cut [47] from 37 to 47 (fun s47 wx => s47 = .bool false ∧ Below w2.heap.size w2 wx)
    case first =>
      refine wp_region_by (by kernel_rfl) (Phi [.val (.agg #[.int .i64 (s' : Int), .slice A k c]), .val (.bool true), .val (.agg #[.int .i64 (s' : Int), .slice A k c]), .val (.bool true), .val (.bool false), .val (.bool false), .val (.int .i64 n), .val (.int .i64 q), .val (.int .i64 q), .val (.bool false), .val (.bool false)]) (phi_stab _) (by kernel_rfl) ?step8 ?fin8
      case step8 =>
        intro i o listed a1 w2 ho hk hdep
        have hi : i < 11 := (Array.getElem?_eq_some_iff.1 ho).1
        have e2 := ev (show a1.eval (.tmp 2) = .int .i64 n from hk.frame 2 (frame_of (by kernel_rfl)))
        have e3 := ev (show a1.eval (.tmp 3) = .pointer (some ⟨w.heap.size, 0, none⟩) from hk.frame 3 (frame_of (by kernel_rfl)))
        have e7 := ev (show a1.eval (.tmp 7) = .int .i64 q from hk.frame 7 (frame_of (by kernel_rfl)))
        obtain ⟨k0, k1⟩ := HF2.out.below hk.below hlo2
        have hii : i = 0 ∨ i = 1 ∨ i = 2 ∨ i = 3 ∨ i = 4 ∨ i = 5 ∨ i = 6 ∨ i = 7 ∨ i = 8 ∨ i = 9 ∨ i = 10 := by omega
        rcases hii with rfl | rfl | rfl | rfl | rfl | rfl | rfl | rfl | rfl | rfl | rfl
        · cases ho
          refine wpOp_of rfl rfl (wp_value (v := .agg #[.int .i64 (s' : Int), .slice A k c]) ?_ rfl)
          go_simp
        · cases ho
          have d0 := ev (show a1.eval (.tmp 37) = .agg #[.int .i64 (s' : Int), .slice A k c] from hk.done 0 _ 37 rfl rfl (hdep ⟨0, .data⟩ (by simp) rfl))
          have HMx := Lib.hid (may_any s' A k c w2 h9)
          rw [HM.out] at HMx
          refine wpOp_of rfl rfl ?_
          go_simp
          refine (HMx.out).mono ?_
          rintro e w3 ⟨rfl, hb2⟩
          exact ⟨_, rfl, rfl, hb2⟩
        · cases ho
          refine wpOp_of rfl rfl (wp_value (v := .agg #[.int .i64 (s' : Int), .slice A k c]) ?_ rfl)
          go_simp
        · cases ho
          have d2 := ev (show a1.eval (.tmp 39) = .agg #[.int .i64 (s' : Int), .slice A k c] from hk.done 2 _ 39 rfl rfl (hdep ⟨2, .data⟩ (by simp) rfl))
          have HMx := Lib.hid (rmay_any s' A k c w2 h9)
          rw [HM.out] at HMx
          refine wpOp_of rfl rfl ?_
          go_simp
          refine (HMx.out).mono ?_
          rintro e w3 ⟨rfl, hb2⟩
          exact ⟨_, rfl, rfl, hb2⟩
        · cases ho
          have d1 := ev (show a1.eval (.tmp 38) = .bool true from hk.done 1 _ 38 rfl rfl (hdep ⟨1, .data⟩ (by simp) rfl))
          have d3 := ev (show a1.eval (.tmp 40) = .bool true from hk.done 3 _ 40 rfl rfl (hdep ⟨3, .data⟩ (by simp) rfl))
          refine wpOp_of rfl rfl (wp_value (v := .bool false) ?_ rfl)
          go_simp
        · cases ho
          have d4 := ev (show a1.eval (.tmp 41) = .bool false from hk.done 4 _ 41 rfl rfl (hdep ⟨4, .data⟩ (by simp) rfl))
          refine wpOp_of rfl rfl (wp_value (v := .bool false) ?_ rfl)
          simp [execOp, d4, Act.eval]
        · cases ho
          refine wpOp_of rfl (wanted_of (t := 42) rfl rfl (hk.done 5 _ 42 rfl rfl (hdep ⟨5, .guard⟩ (by simp) rfl))) (wp_value (v := .int .i64 n) ?_ rfl)
          simp [execOp, e2, Act.eval]
        · cases ho
          have d6 := ev (show a1.eval (.tmp 43) = .int .i64 n from hk.done 6 _ 43 rfl rfl (hdep ⟨6, .data⟩ (by simp) rfl))
          refine wpOp_of rfl (wanted_of (t := 42) rfl rfl (hk.done 5 _ 42 rfl rfl (hdep ⟨5, .guard⟩ (by simp) rfl))) ?_
          go_simp
          refine (SE.out w2).mono ?_
          rintro e w3 ⟨rfl, rfl⟩
          exact ⟨_, rfl, rfl, Below.refl _ _⟩
        · cases ho
          refine wpOp_of rfl (wanted_of (t := 42) rfl rfl (hk.done 5 _ 42 rfl rfl (hdep ⟨5, .guard⟩ (by simp) rfl))) (wp_value (v := .int .i64 q) ?_ rfl)
          simp [execOp, e7, Act.eval]
        · cases ho
          have d7 := ev (show a1.eval (.tmp 44) = .int .i64 q from hk.done 7 _ 44 rfl rfl (hdep ⟨7, .data⟩ (by simp) rfl))
          have d8 := ev (show a1.eval (.tmp 45) = .int .i64 q from hk.done 8 _ 45 rfl rfl (hdep ⟨8, .data⟩ (by simp) rfl))
          refine wpOp_of rfl (wanted_of (t := 42) rfl rfl (hk.done 5 _ 42 rfl rfl (hdep ⟨5, .guard⟩ (by simp) rfl))) (wp_value (v := .bool false) ?_ rfl)
          go_simp
        · cases ho
          have d5 := ev (show a1.eval (.tmp 42) = .bool false from hk.done 5 _ 42 rfl rfl (hdep ⟨5, .data⟩ (by simp) rfl))
          have d9 := ev (show a1.eval (.tmp 46) = .bool false from hk.done 9 _ 46 rfl rfl (hdep ⟨9, .data⟩ (by simp) rfl))
          refine wpOp_of rfl rfl (wp_value (v := .bool false) ?_ rfl)
          go_simp
      case fin8 =>
        intro listed a2 w2 hk hall
        have h47 : a2.eval (.tmp 47) = .bool false := hk.done 10 _ 47 rfl rfl (hall 10 (by decide))
        have hact := kept_all [37, 38, 39, 40, 41, 42, 43, 44, 45, 46, 47] hk (by kernel_rfl)
        have HB := Lib.hid hk.below
        simp only [List.foldl_cons, List.foldl_nil, List.setIfInBounds_toArray, List.set_cons_succ, List.set_cons_zero] at hact
        generalize a2.eval (.tmp 37) = u37 at hact
        generalize a2.eval (.tmp 38) = u38 at hact
        generalize a2.eval (.tmp 39) = u39 at hact
        generalize a2.eval (.tmp 40) = u40 at hact
        generalize a2.eval (.tmp 41) = u41 at hact
        generalize a2.eval (.tmp 42) = u42 at hact
        generalize a2.eval (.tmp 43) = u43 at hact
        generalize a2.eval (.tmp 44) = u44 at hact
        generalize a2.eval (.tmp 45) = u45 at hact
        generalize a2.eval (.tmp 46) = u46 at hact
        generalize a2.eval (.tmp 47) = u47 at hact h47
        rw [hact]
        clear hact
        go_wp2
        go_meet
        exact ⟨h47, HB.out⟩
    case rest =>
    obtain ⟨rfl, hbx⟩ := hcut
    have HF3 := Lib.hid (HF2.out.below hbx hlo2)
    have HB3 := Lib.hid (step HB2.out hbx)
    have HO83 := Lib.hid ((HO8.out.below hbx (Nat.le_refl _)).more hbx.size)
    have hlo3 : w.heap.size < wc.heap.size := Nat.lt_of_lt_of_le hlo2 hbx.size
    clear hbx HO8
    obtain ⟨f0, f1⟩ := HF3.out
    go_wp2_with fail
    clear f0 f1
    refine (rmay_any s' A k c _ h9).mono ?_
    rintro e w4 ⟨rfl, hb4⟩
    rw [HM.out]
    have HF4 := Lib.hid (HF3.out.below hb4 hlo3)
    have HB4 := Lib.hid (step HB3.out hb4)
    have HO84 := Lib.hid ((HO83.out.below hb4 (Nat.le_refl _)).more hb4.size)
    have hlo4 : w.heap.size < w4.heap.size := Nat.lt_of_lt_of_le hlo3 hb4.size
    clear hb4 HO83
    -- the two appends
    obtain ⟨V0, hV0⟩ : ∃ V0, V0 = w4.alloc (.cells #[] 5) := ⟨_, rfl⟩
    have hbV : Below w4.heap.size w4 V0 := by rw [hV0]; exact (Below.refl _ _).alloc (Nat.le_refl _) _
    have hown0 : Own V0 w4.heap.size (.slice (some ⟨w4.heap.size, 0, none⟩) 0 0) [] := by rw [hV0]; exact World.ownsRow_made w4 #[] 0 (Nat.le_refl _) (by unfold maxLen; omega) rfl
    obtain ⟨v5, w5, hrun5, hown5, hgrow5, _⟩ := run_app V0 w4.heap.size w4.heap.size _ [] hown0 A8 L c8 (HO84.out.below hbV (Nat.le_refl _)) (by have := HU.out; simp; omega) hbV.size
    have hb5 : Below w4.heap.size w4 w5 := hbV.grown hgrow5 hbV.size (fun k h => (hown0.lt k h).1)
    obtain ⟨v6, w6, hrun6, hown6, hgrow6, _⟩ := run_app w5 w4.heap.size w.heap.size v5 _ hown5 A2 b c2 (OB.out.below (step HB4.out hb5) (Nat.le_refl _)) (by have := HU.out; have := HK2.out; simp; omega) hb5.size
    have hb6 : Below w4.heap.size w4 w6 := hb5.grown hgrow6 hb5.size (fun k h => (hown5.lt k h).1)
    rw [← HU.out, hV0] at hrun5
    rw [← HK2.out] at hrun6
    have HR5 := Lib.hid hrun5
    have HR6 := Lib.hid hrun6
    obtain ⟨A6, c6, rfl, o6, hc6⟩ := own_sl hown6
    have HO6 : Hid (Octs w6 w6.heap.size A6 (L ++ b)) := o6
    have hlen6 : ([] ++ L ++ b).length = u + k2 := by rw [HU.out, HK2.out]; simp
    rw [hlen6] at HR6 hc6
    have HLEN : Hid ((L ++ b).length = u + k2) := by show _ = _; rw [HU.out, HK2.out]; simp
    have HB6 := Lib.hid (step HB4.out hb6)
    have HF6 := Lib.hid (HF4.out.below hb6 hlo4)
    have HO86 := Lib.hid ((HO84.out.below hb6 (Nat.le_refl _)).more hb6.size)
    have hlo6 : w.heap.size < w6.heap.size := Nat.lt_of_lt_of_le hlo4 hb6.size
    clear hrun5 hrun6 hown5 hown6 hgrow5 hgrow6 hown0 hbV hV0 hb5 hb6 o6 hlen6 HO84
    go_wp2_with (first
      | (at_builtin; refine Go.Lib.wpList_append_run _ rfl (.tmp 62) (.tmp 63) 22 22 rfl _ _ rfl rfl v5 w5 HR5.out ?_)
      | (at_builtin; refine Go.Lib.wpList_append_run w5 rfl (.tmp 64) (.tmp 65) 22 22 rfl _ _ rfl rfl _ w6 HR6.out ?_))
    have HRD : Hid (rd (L ++ b) = (s', d, u, 0)) := by show _ = _; rw [HLd.out, HU2.out]; exact rd_lay s' d b m4 (by omega) (by have := HK.out; omega)
    refine (read_o A6 (L ++ b) (u + k2) c6 w6.heap.size w6 HLEN.out HO6.out (Nat.le_refl _) hc6 (by omega)).mono ?_
    rintro e w7 ⟨A7, c7, he, o7, hb7⟩
    rw [HRD.out] at he o7
    simp only at he o7
    rw [← HK.out] at he
    subst he
    have HB7 := Lib.hid (step HB6.out hb7)
    have HF7 := Lib.hid (HF6.out.below hb7 hlo6)
    have HO87 := Lib.hid ((HO86.out.below hb7 (Nat.le_refl _)).more hb7.size)
    have HO7 := Lib.hid o7
    have hlo7 : w.heap.size < w7.heap.size := Nat.lt_of_lt_of_le hlo6 hb7.size
    clear hb7 o7 HO86 HO6 HR5 HR6
    obtain ⟨W8, hW8⟩ : ∃ W8, W8 = w7.alloc (.cells #[.int .i64 (s' : Int), .slice A7 k c7] 24) := ⟨_, rfl⟩
    have HG8 : Hid (BoxF w7.heap.size s' A7 k c7 W8) := by rw [hW8]; exact boxF_new _ _ _ _ _
    have hal : Below w7.heap.size w7 W8 := by rw [hW8]; exact (Below.refl _ _).alloc (Nat.le_refl _) _
    have HZ8 : Hid (W8.heap.size = w7.heap.size + 1) := by show _ = _; rw [hW8]; exact alloc_size _ _
    have HB8 := Lib.hid (step HB7.out hal)
    have HF8 := Lib.hid (HF7.out.below hal hlo7)
    have HO88 := Lib.hid (HO87.out.below hal (Nat.le_refl _))
    have HO78 := Lib.hid (HO7.out.below hal (Nat.le_refl _))
    have HW8 := Lib.hid hW8
    have hg8 : w7.heap.size < W8.heap.size := by have := HZ8.out; omega
    have hr8 : w.heap.size < W8.heap.size := by omega
    clear hW8 hal
    go_wp2_with fail
    rw [← HW8.out]
    have RL : Hid (∀ W, Below w.heap.size w W → Calls Try.prog 15 #[.agg #[.int .i64 (s' : Int), .slice A k c]] W fun e w' => e = .returned (.string (text L)) ∧ Below W.heap.size W w') := fun W hB => by
      rw [HLd.out]
      exact rlay_at s' A d k c w.heap.size W HK.out.symm (OD.out.below hB (Nat.le_refl _)) hB.size m5 m3
    obtain ⟨tL, htL⟩ : ∃ t, t = text L := ⟨_, rfl⟩
    obtain ⟨td, htd⟩ : ∃ t, t = text d := ⟨_, rfl⟩
    rw [← htL] at RL
    have HTL := Lib.hid htL
    have HTd := Lib.hid htd
    clear htL htd
    refine wp_region_by (by kernel_rfl) (Phi [.val (.slice A8 u c8), .val (.string tL), .val (.agg #[.int .i64 (s' : Int), .slice A k c]), .val (.string tL), .val (.bool true), .val (.bool true), .val (.int .i64 0), .val (.bool true), .val (.bool true), .val (.bool true), .val (.pointer (some ⟨w7.heap.size, 0, none⟩)), .val (.int .i64 (s' : Int)), .val (.pointer (some ⟨w.heap.size, 0, none⟩)), .val (.int .i64 (s' : Int)), .val (.bool true), .val (.bool true), .val (.bool true), .val (.pointer (some ⟨w7.heap.size, 1, none⟩)), .val (.slice A7 k c7), .val (.string td), .val (.pointer (some ⟨w.heap.size, 1, none⟩)), .val (.slice A k c), .val (.string td), .val (.bool true), .val (.bool true), .val (.bool true), .val (.int .i64 (u : Int)), .val (.slice A8 u c8), .val (.int .i64 (u : Int)), .val (.bool true), .val (.bool true), .val (.bool true), .val (.int .i64 0), .val (.bool true), .val (.bool true), .val (.bool true), .val (.bool true), .val (.bool true), .val (.bool true)]) (phi_stab _) (by kernel_rfl) ?step13 ?fin13
    case step13 =>
      intro i o listed a1 w2 ho hk hdep
      have hi : i < 39 := (Array.getElem?_eq_some_iff.1 ho).1
      have e3 := ev (show a1.eval (.tmp 3) = .pointer (some ⟨w.heap.size, 0, none⟩) from hk.frame 3 (frame_of (by kernel_rfl)))
      have e8 := ev (show a1.eval (.tmp 8) = .slice A8 u c8 from hk.frame 8 (frame_of (by kernel_rfl)))
      have e9 := ev (show a1.eval (.tmp 9) = .int .i64 0 from hk.frame 9 (frame_of (by kernel_rfl)))
      have e10 := ev (show a1.eval (.tmp 10) = .pointer (some ⟨w7.heap.size, 0, none⟩) from hk.frame 10 (frame_of (by kernel_rfl)))
      have e11 := ev (show a1.eval (.tmp 11) = .int .i64 (u : Int) from hk.frame 11 (frame_of (by kernel_rfl)))
      have e12 := ev (show a1.eval (.tmp 12) = .int .i64 0 from hk.frame 12 (frame_of (by kernel_rfl)))
      obtain ⟨k0, k1⟩ := HF8.out.below hk.below hr8
      obtain ⟨k2x, k3x⟩ := HG8.out.below hk.below hg8
      have hbx := step HB8.out hk.below
      have z1 : (convert 22 9 (.slice A8 u c8)).run Try.prog w2 = .ok (.string tL) w2 := by rw [HTL.out]; exact octs_txt (HO88.out.below hk.below (by omega)) HU.out
      have z2 : (convert 22 9 (.slice A7 k c7)).run Try.prog w2 = .ok (.string td) w2 := by rw [HTd.out]; exact octs_txt (HO78.out.below hk.below (by omega)) HK.out
      have z3 : (convert 22 9 (.slice A k c)).run Try.prog w2 = .ok (.string td) w2 := by rw [HTd.out]; exact octs_txt (OD.out.below hbx (Nat.le_refl _)) HK.out
      have HBX := Lib.hid hbx
      clear hbx
      have hii : i = 0 ∨ i = 1 ∨ i = 2 ∨ i = 3 ∨ i = 4 ∨ i = 5 ∨ i = 6 ∨ i = 7 ∨ i = 8 ∨ i = 9 ∨ i = 10 ∨ i = 11 ∨ i = 12 ∨ i = 13 ∨ i = 14 ∨ i = 15 ∨ i = 16 ∨ i = 17 ∨ i = 18 ∨ i = 19 ∨ i = 20 ∨ i = 21 ∨ i = 22 ∨ i = 23 ∨ i = 24 ∨ i = 25 ∨ i = 26 ∨ i = 27 ∨ i = 28 ∨ i = 29 ∨ i = 30 ∨ i = 31 ∨ i = 32 ∨ i = 33 ∨ i = 34 ∨ i = 35 ∨ i = 36 ∨ i = 37 ∨ i = 38 := by omega
      rcases hii with rfl | rfl | rfl | rfl | rfl | rfl | rfl | rfl | rfl | rfl | rfl | rfl | rfl | rfl | rfl | rfl | rfl | rfl | rfl | rfl | rfl | rfl | rfl | rfl | rfl | rfl | rfl | rfl | rfl | rfl | rfl | rfl | rfl | rfl | rfl | rfl | rfl | rfl | rfl
      · cases ho
        refine wpOp_of rfl rfl (wp_value (v := .slice A8 u c8) ?_ rfl)
        simp [execOp, e8, Act.eval]
      · cases ho
        have d0 := ev (show a1.eval (.tmp 71) = .slice A8 u c8 from hk.done 0 _ 71 rfl rfl (hdep ⟨0, .data⟩ (by simp) rfl))
        refine wpOp_of rfl rfl (wp_value (v := .string tL) ?_ rfl)
        go_simp
      · cases ho
        refine wpOp_of rfl rfl (wp_value (v := .agg #[.int .i64 (s' : Int), .slice A k c]) ?_ rfl)
        go_simp
      · cases ho
        have d2 := ev (show a1.eval (.tmp 73) = .agg #[.int .i64 (s' : Int), .slice A k c] from hk.done 2 _ 73 rfl rfl (hdep ⟨2, .data⟩ (by simp) rfl))
        refine wpOp_of rfl rfl ?_
        go_simp
        refine (RL.out w2 HBX.out).mono ?_
        rintro e w3 ⟨rfl, hb2⟩
        exact ⟨_, rfl, rfl, hb2⟩
      · cases ho
        have d1 := ev (show a1.eval (.tmp 72) = .string tL from hk.done 1 _ 72 rfl rfl (hdep ⟨1, .data⟩ (by simp) rfl))
        have d3 := ev (show a1.eval (.tmp 74) = .string tL from hk.done 3 _ 74 rfl rfl (hdep ⟨3, .data⟩ (by simp) rfl))
        refine wpOp_of rfl rfl (wp_value (v := .bool true) ?_ rfl)
        go_simp
      · cases ho
        have d4 := ev (show a1.eval (.tmp 75) = .bool true from hk.done 4 _ 75 rfl rfl (hdep ⟨4, .data⟩ (by simp) rfl))
        refine wpOp_of rfl rfl (wp_value (v := .bool true) ?_ rfl)
        simp [execOp, d4, Act.eval]
      · cases ho
        refine wpOp_of rfl (wanted_of (t := 76) rfl rfl (hk.done 5 _ 76 rfl rfl (hdep ⟨5, .guard⟩ (by simp) rfl))) (wp_value (v := .int .i64 0) ?_ rfl)
        simp [execOp, e9, Act.eval]
      · cases ho
        have d6 := ev (show a1.eval (.tmp 77) = .int .i64 0 from hk.done 6 _ 77 rfl rfl (hdep ⟨6, .data⟩ (by simp) rfl))
        refine wpOp_of rfl (wanted_of (t := 76) rfl rfl (hk.done 5 _ 76 rfl rfl (hdep ⟨5, .guard⟩ (by simp) rfl))) (wp_value (v := .bool true) ?_ rfl)
        go_simp
      · cases ho
        have d5 := ev (show a1.eval (.tmp 76) = .bool true from hk.done 5 _ 76 rfl rfl (hdep ⟨5, .data⟩ (by simp) rfl))
        have d7 := ev (show a1.eval (.tmp 78) = .bool true from hk.done 7 _ 78 rfl rfl (hdep ⟨7, .data⟩ (by simp) rfl))
        refine wpOp_of rfl rfl (wp_value (v := .bool true) ?_ rfl)
        go_simp
      · cases ho
        have d8 := ev (show a1.eval (.tmp 79) = .bool true from hk.done 8 _ 79 rfl rfl (hdep ⟨8, .data⟩ (by simp) rfl))
        refine wpOp_of rfl rfl (wp_value (v := .bool true) ?_ rfl)
        simp [execOp, d8, Act.eval]
      · cases ho
        refine wpOp_of rfl (wanted_of (t := 80) rfl rfl (hk.done 9 _ 80 rfl rfl (hdep ⟨9, .guard⟩ (by simp) rfl))) (wp_value (v := .pointer (some ⟨w7.heap.size, 0, none⟩)) ?_ rfl)
        go_simp
      · cases ho
        have d10 := ev (show a1.eval (.tmp 81) = .pointer (some ⟨w7.heap.size, 0, none⟩) from hk.done 10 _ 81 rfl rfl (hdep ⟨10, .data⟩ (by simp) rfl))
        refine wpOp_of rfl (wanted_of (t := 80) rfl rfl (hk.done 9 _ 80 rfl rfl (hdep ⟨9, .guard⟩ (by simp) rfl))) (wp_value (v := .int .i64 (s' : Int)) ?_ rfl)
        go_simp
      · cases ho
        refine wpOp_of rfl (wanted_of (t := 80) rfl rfl (hk.done 9 _ 80 rfl rfl (hdep ⟨9, .guard⟩ (by simp) rfl))) (wp_value (v := .pointer (some ⟨w.heap.size, 0, none⟩)) ?_ rfl)
        go_simp
      · cases ho
        have d12 := ev (show a1.eval (.tmp 83) = .pointer (some ⟨w.heap.size, 0, none⟩) from hk.done 12 _ 83 rfl rfl (hdep ⟨12, .data⟩ (by simp) rfl))
        refine wpOp_of rfl (wanted_of (t := 80) rfl rfl (hk.done 9 _ 80 rfl rfl (hdep ⟨9, .guard⟩ (by simp) rfl))) (wp_value (v := .int .i64 (s' : Int)) ?_ rfl)
        go_simp
      · cases ho
        have d11 := ev (show a1.eval (.tmp 82) = .int .i64 (s' : Int) from hk.done 11 _ 82 rfl rfl (hdep ⟨11, .data⟩ (by simp) rfl))
        have d13 := ev (show a1.eval (.tmp 84) = .int .i64 (s' : Int) from hk.done 13 _ 84 rfl rfl (hdep ⟨13, .data⟩ (by simp) rfl))
        refine wpOp_of rfl (wanted_of (t := 80) rfl rfl (hk.done 9 _ 80 rfl rfl (hdep ⟨9, .guard⟩ (by simp) rfl))) (wp_value (v := .bool true) ?_ rfl)
        go_simp
      · cases ho
        have d9 := ev (show a1.eval (.tmp 80) = .bool true from hk.done 9 _ 80 rfl rfl (hdep ⟨9, .data⟩ (by simp) rfl))
        have d14 := ev (show a1.eval (.tmp 85) = .bool true from hk.done 14 _ 85 rfl rfl (hdep ⟨14, .data⟩ (by simp) rfl))
        refine wpOp_of rfl rfl (wp_value (v := .bool true) ?_ rfl)
        go_simp
      · cases ho
        have d15 := ev (show a1.eval (.tmp 86) = .bool true from hk.done 15 _ 86 rfl rfl (hdep ⟨15, .data⟩ (by simp) rfl))
        refine wpOp_of rfl rfl (wp_value (v := .bool true) ?_ rfl)
        simp [execOp, d15, Act.eval]
      · cases ho
        refine wpOp_of rfl (wanted_of (t := 87) rfl rfl (hk.done 16 _ 87 rfl rfl (hdep ⟨16, .guard⟩ (by simp) rfl))) (wp_value (v := .pointer (some ⟨w7.heap.size, 1, none⟩)) ?_ rfl)
        go_simp
      · cases ho
        have d17 := ev (show a1.eval (.tmp 88) = .pointer (some ⟨w7.heap.size, 1, none⟩) from hk.done 17 _ 88 rfl rfl (hdep ⟨17, .data⟩ (by simp) rfl))
        refine wpOp_of rfl (wanted_of (t := 87) rfl rfl (hk.done 16 _ 87 rfl rfl (hdep ⟨16, .guard⟩ (by simp) rfl))) (wp_value (v := .slice A7 k c7) ?_ rfl)
        go_simp
      · cases ho
        have d18 := ev (show a1.eval (.tmp 89) = .slice A7 k c7 from hk.done 18 _ 89 rfl rfl (hdep ⟨18, .data⟩ (by simp) rfl))
        refine wpOp_of rfl (wanted_of (t := 87) rfl rfl (hk.done 16 _ 87 rfl rfl (hdep ⟨16, .guard⟩ (by simp) rfl))) (wp_value (v := .string td) ?_ rfl)
        go_simp
      · cases ho
        refine wpOp_of rfl (wanted_of (t := 87) rfl rfl (hk.done 16 _ 87 rfl rfl (hdep ⟨16, .guard⟩ (by simp) rfl))) (wp_value (v := .pointer (some ⟨w.heap.size, 1, none⟩)) ?_ rfl)
        go_simp
      · cases ho
        have d20 := ev (show a1.eval (.tmp 91) = .pointer (some ⟨w.heap.size, 1, none⟩) from hk.done 20 _ 91 rfl rfl (hdep ⟨20, .data⟩ (by simp) rfl))
        refine wpOp_of rfl (wanted_of (t := 87) rfl rfl (hk.done 16 _ 87 rfl rfl (hdep ⟨16, .guard⟩ (by simp) rfl))) (wp_value (v := .slice A k c) ?_ rfl)
        go_simp
      · cases ho
        have d21 := ev (show a1.eval (.tmp 92) = .slice A k c from hk.done 21 _ 92 rfl rfl (hdep ⟨21, .data⟩ (by simp) rfl))
        refine wpOp_of rfl (wanted_of (t := 87) rfl rfl (hk.done 16 _ 87 rfl rfl (hdep ⟨16, .guard⟩ (by simp) rfl))) (wp_value (v := .string td) ?_ rfl)
        go_simp
      · cases ho
        have d19 := ev (show a1.eval (.tmp 90) = .string td from hk.done 19 _ 90 rfl rfl (hdep ⟨19, .data⟩ (by simp) rfl))
        have d22 := ev (show a1.eval (.tmp 93) = .string td from hk.done 22 _ 93 rfl rfl (hdep ⟨22, .data⟩ (by simp) rfl))
        refine wpOp_of rfl (wanted_of (t := 87) rfl rfl (hk.done 16 _ 87 rfl rfl (hdep ⟨16, .guard⟩ (by simp) rfl))) (wp_value (v := .bool true) ?_ rfl)
        go_simp
      · cases ho
        have d16 := ev (show a1.eval (.tmp 87) = .bool true from hk.done 16 _ 87 rfl rfl (hdep ⟨16, .data⟩ (by simp) rfl))
        have d23 := ev (show a1.eval (.tmp 94) = .bool true from hk.done 23 _ 94 rfl rfl (hdep ⟨23, .data⟩ (by simp) rfl))
        refine wpOp_of rfl rfl (wp_value (v := .bool true) ?_ rfl)
        go_simp
      · cases ho
        have d24 := ev (show a1.eval (.tmp 95) = .bool true from hk.done 24 _ 95 rfl rfl (hdep ⟨24, .data⟩ (by simp) rfl))
        refine wpOp_of rfl rfl (wp_value (v := .bool true) ?_ rfl)
        simp [execOp, d24, Act.eval]
      · cases ho
        refine wpOp_of rfl (wanted_of (t := 96) rfl rfl (hk.done 25 _ 96 rfl rfl (hdep ⟨25, .guard⟩ (by simp) rfl))) (wp_value (v := .int .i64 (u : Int)) ?_ rfl)
        simp [execOp, e11, Act.eval]
      · cases ho
        refine wpOp_of rfl (wanted_of (t := 96) rfl rfl (hk.done 25 _ 96 rfl rfl (hdep ⟨25, .guard⟩ (by simp) rfl))) (wp_value (v := .slice A8 u c8) ?_ rfl)
        simp [execOp, e8, Act.eval]
      · cases ho
        have d27 := ev (show a1.eval (.tmp 98) = .slice A8 u c8 from hk.done 27 _ 98 rfl rfl (hdep ⟨27, .data⟩ (by simp) rfl))
        refine wpOp_of rfl (wanted_of (t := 96) rfl rfl (hk.done 25 _ 96 rfl rfl (hdep ⟨25, .guard⟩ (by simp) rfl))) (wp_value (v := .int .i64 (u : Int)) ?_ rfl)
        go_simp
      · cases ho
        have d26 := ev (show a1.eval (.tmp 97) = .int .i64 (u : Int) from hk.done 26 _ 97 rfl rfl (hdep ⟨26, .data⟩ (by simp) rfl))
        have d28 := ev (show a1.eval (.tmp 99) = .int .i64 (u : Int) from hk.done 28 _ 99 rfl rfl (hdep ⟨28, .data⟩ (by simp) rfl))
        refine wpOp_of rfl (wanted_of (t := 96) rfl rfl (hk.done 25 _ 96 rfl rfl (hdep ⟨25, .guard⟩ (by simp) rfl))) (wp_value (v := .bool true) ?_ rfl)
        go_simp
      · cases ho
        have d25 := ev (show a1.eval (.tmp 96) = .bool true from hk.done 25 _ 96 rfl rfl (hdep ⟨25, .data⟩ (by simp) rfl))
        have d29 := ev (show a1.eval (.tmp 100) = .bool true from hk.done 29 _ 100 rfl rfl (hdep ⟨29, .data⟩ (by simp) rfl))
        refine wpOp_of rfl rfl (wp_value (v := .bool true) ?_ rfl)
        go_simp
      · cases ho
        have d30 := ev (show a1.eval (.tmp 101) = .bool true from hk.done 30 _ 101 rfl rfl (hdep ⟨30, .data⟩ (by simp) rfl))
        refine wpOp_of rfl rfl (wp_value (v := .bool true) ?_ rfl)
        simp [execOp, d30, Act.eval]
      · cases ho
        refine wpOp_of rfl (wanted_of (t := 102) rfl rfl (hk.done 31 _ 102 rfl rfl (hdep ⟨31, .guard⟩ (by simp) rfl))) (wp_value (v := .int .i64 0) ?_ rfl)
        simp [execOp, e12, Act.eval]
      · cases ho
        have d32 := ev (show a1.eval (.tmp 103) = .int .i64 0 from hk.done 32 _ 103 rfl rfl (hdep ⟨32, .data⟩ (by simp) rfl))
        refine wpOp_of rfl (wanted_of (t := 102) rfl rfl (hk.done 31 _ 102 rfl rfl (hdep ⟨31, .guard⟩ (by simp) rfl))) (wp_value (v := .bool true) ?_ rfl)
        go_simp
      · cases ho
        have d31 := ev (show a1.eval (.tmp 102) = .bool true from hk.done 31 _ 102 rfl rfl (hdep ⟨31, .data⟩ (by simp) rfl))
        have d33 := ev (show a1.eval (.tmp 104) = .bool true from hk.done 33 _ 104 rfl rfl (hdep ⟨33, .data⟩ (by simp) rfl))
        refine wpOp_of rfl rfl (wp_value (v := .bool true) ?_ rfl)
        go_simp
      · cases ho
        have d34 := ev (show a1.eval (.tmp 105) = .bool true from hk.done 34 _ 105 rfl rfl (hdep ⟨34, .data⟩ (by simp) rfl))
        refine wpOp_of rfl rfl (wp_value (v := .bool true) ?_ rfl)
        simp [execOp, d34, Act.eval]
      · cases ho
        refine wpOp_of rfl (wanted_of (t := 106) rfl rfl (hk.done 35 _ 106 rfl rfl (hdep ⟨35, .guard⟩ (by simp) rfl))) ?_
        go_simp
        refine (awake_any w2).mono ?_
        rintro e w3 ⟨rfl, hb2⟩
        exact ⟨_, rfl, rfl, hb2⟩
      · cases ho
        have d35 := ev (show a1.eval (.tmp 106) = .bool true from hk.done 35 _ 106 rfl rfl (hdep ⟨35, .data⟩ (by simp) rfl))
        have d36 := ev (show a1.eval (.tmp 107) = .bool true from hk.done 36 _ 107 rfl rfl (hdep ⟨36, .data⟩ (by simp) rfl))
        refine wpOp_of rfl rfl (wp_value (v := .bool true) ?_ rfl)
        go_simp
      · cases ho
        have d37 := ev (show a1.eval (.tmp 108) = .bool true from hk.done 37 _ 108 rfl rfl (hdep ⟨37, .data⟩ (by simp) rfl))
        refine wpOp_of rfl rfl (wp_value (v := .bool true) ?_ rfl)
        simp [execOp, d37, Act.eval]
    case fin13 =>
      intro listed a2 w2 hk hall
      have h0 : a2.eval (.tmp 6) = .bool true := hk.done 38 _ 6 rfl rfl (hall 38 (by decide))
      have hB := HB8.out.trans (hk.below.mono HB8.out.size)
      have e0 := ev h0
      go_wp2
      refine bodyPost_ret (v := .bool true) (by simp [results, Try.results3, go_sem, e0]) hk.defers ⟨rfl, hB⟩
end Go.Proofs.Ytckgfbpgomkpnaa
