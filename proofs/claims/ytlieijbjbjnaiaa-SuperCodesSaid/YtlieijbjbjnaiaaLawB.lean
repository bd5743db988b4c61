/- The walk of SuperCodes. -/
import Derived.Test.YtlieijbjbjnaiaaS8
import Derived.Test.YtlieijbjbjnaiaaS9
import Derived.Test.YtlieijbjbjnaiaaFAnyB
import Derived.Deep.DeepCutAuto
namespace Go.Proofs.Ytlieijbjbjnaiaa.Sup
open Go.RowKit Crc Chk Frm Fra

def CodesPost (w : World) (e : Ending) (w' : World) : Prop := e = .returned (.bool true) ∧ Below w.heap.size w w'
set_option maxHeartbeats 3200000 in
theorem codes_any (s : Sp) (A : Option Addr) (l : List UInt8) (c : Nat) (w : World) (_hb0 : -9223372036854775808 ≤ s.g) (_hc0 : s.g ≤ 9223372036854775807) (_he0 : -9223372036854775808 ≤ s.h) (_hf0 : s.h ≤ 9223372036854775807) (h : Octs w w.heap.size A l) (hc : l.length ≤ c) (hl : l.length ≤ 9223372036854775807) :
    Calls Try.prog 3 #[.agg #[.int .i64 s.g, .int .i64 s.h, .int .i64 s.n, .int .i64 s.p], .slice A l.length c] w fun e w' => e = .returned (.bool true) ∧ Below w.heap.size w w' := by
  have HO := Lib.hid (h.take 100)
  have HFW := Lib.hid (fun W => few_any A l c W hc hl)
  obtain ⟨m, hm⟩ : ∃ m, m = l.take 100 := ⟨_, rfl⟩
  have hml : m.length ≤ 100 := by rw [hm, List.length_take]; omega
  have hmc : m.length ≤ c := by rw [hm, List.length_take]; omega
  rw [← hm] at HO HFW
  obtain ⟨k, hk⟩ : ∃ k, k = m.length := ⟨_, rfl⟩
  rw [← hk] at HFW hml hmc
  obtain ⟨x, e, hxe⟩ : ∃ x e, decS m = (x, e) := ⟨_, _, rfl⟩
  have HD : Hid (∀ W, Below w.heap.size w W → Calls Try.prog 10 #[.slice A k c] W fun e' w' => e' = .returned (.tuple #[.agg #[.int .i64 x.g, .int .i64 x.h, .int .i64 x.n, .int .i64 x.p], .int .i64 e]) ∧ Below W.heap.size W w') := fun W hW => by
    have := dec_any A m k c w.heap.size W (HO.out.below hW (Nat.le_refl _)) hW.size hk.symm hmc (by omega)
    rw [hxe] at this
    exact this
  have HRD : Hid (∀ W, Calls Try.prog 11 #[.string (text m)] W fun e' w' => e' = .returned (.tuple #[.agg #[.int .i64 x.g, .int .i64 x.h, .int .i64 x.n, .int .i64 x.p], .int .i64 e]) ∧ Below W.heap.size W w') := fun W => by
    have := rdec_any m W
    rw [hxe] at this
    exact this
  have HCV : Hid (∀ W, Below w.heap.size w W → (convert 24 9 (.slice A k c)).run Try.prog W = .ok (.string (text m)) W) := fun W hW => by
    rw [hk]; exact octs_text (HO.out.below hW (Nat.le_refl _))
  obtain ⟨t, ht⟩ : ∃ t, t = text m := ⟨_, rfl⟩
  rw [← ht] at HRD HCV
  clear h hc hl hm hk hxe ht HO
  obtain ⟨W0, hW0⟩ : ∃ W0, W0 = w.alloc (.cells #[.int .i64 s.g, .int .i64 s.h, .int .i64 s.n, .int .i64 s.p] 23) := ⟨_, rfl⟩
  have HS0 : Hid (BoxS w.heap.size s W0) := by rw [hW0]; exact boxS_new w s
  have HZ0 : Hid (Below w.heap.size w W0) := by rw [hW0]; exact (Below.refl _ _).alloc (Nat.le_refl _) _
  have hz0 : w.heap.size < W0.heap.size := by rw [hW0, alloc_size]; omega
  have HW0 := Lib.hid hW0
  clear hW0
  go_enter Try.func3, Try.ntmps3
  go_wp2_with fail
  rw [← HW0.out]
  refine (HFW.out _).mono ?_
  rintro e' w' ⟨rfl, rfl⟩
  go_wp2_with fail
  refine (HD.out _ HZ0.out).mono ?_
  rintro e' w1 ⟨rfl, hb1⟩
  have HS1 := Lib.hid (HS0.out.below hb1 hz0)
  have HZ1 := Lib.hid (step' HZ0.out hb1 HZ0.out.size)
  have hz1 : w.heap.size < w1.heap.size := by have := hb1.size; omega
  clear hb1
  obtain ⟨W2, hW2⟩ : ∃ W2, W2 = w1.alloc (.cells #[.int .i64 x.g, .int .i64 x.h, .int .i64 x.n, .int .i64 x.p] 23) := ⟨_, rfl⟩
  have HX2 : Hid (BoxS w1.heap.size x W2) := by rw [hW2]; exact boxS_new w1 x
  have HA2 : Hid (Below w1.heap.size w1 W2) := by rw [hW2]; exact (Below.refl _ _).alloc (Nat.le_refl _) _
  have HS2 := Lib.hid (HS1.out.below HA2.out hz1)
  have HZ2 := Lib.hid (step' HZ1.out HA2.out HZ1.out.size)
  have hz2 : w1.heap.size < W2.heap.size := by rw [hW2, alloc_size]; omega
  have HW2 := Lib.hid hW2
  have hcv : (convert 24 9 (.slice A k c)).run Try.prog (w1.alloc (.cells #[.int .i64 x.g, .int .i64 x.h, .int .i64 x.n, .int .i64 x.p] 23)) = .ok (.string t) (w1.alloc (.cells #[.int .i64 x.g, .int .i64 x.h, .int .i64 x.n, .int .i64 x.p] 23)) := by rw [← hW2]; exact HCV.out W2 HZ2.out
  clear hW2
  go_wp2_with fail
  clear hcv
  rw [← HW2.out]
  refine (HRD.out _).mono ?_
  rintro e' w3 ⟨rfl, hb3⟩
  have HX3 := Lib.hid (HX2.out.below hb3 hz2)
  have HS3 := Lib.hid (HS2.out.below hb3 (by omega))
  have HZ3 := Lib.hid (step' HZ2.out hb3 HZ2.out.size)
  have hz3 : w1.heap.size < w3.heap.size := by have := hb3.size; omega
  clear hb3
  obtain ⟨W4, hW4⟩ : ∃ W4, W4 = w3.alloc (.cells #[.int .i64 x.g, .int .i64 x.h, .int .i64 x.n, .int .i64 x.p] 23) := ⟨_, rfl⟩
  have HY4 : Hid (BoxS w3.heap.size x W4) := by rw [hW4]; exact boxS_new w3 x
  have HA4 : Hid (Below w3.heap.size w3 W4) := by rw [hW4]; exact (Below.refl _ _).alloc (Nat.le_refl _) _
  have HX4 := Lib.hid (HX3.out.below HA4.out hz3)
  have HS4 := Lib.hid (HS3.out.below HA4.out (by omega))
  have HZ4 := Lib.hid (step' HZ3.out HA4.out HZ3.out.size)
  have hz4 : w3.heap.size < W4.heap.size := by rw [hW4, alloc_size]; omega
  have HW4 := Lib.hid hW4
  clear hW4
  obtain ⟨b, hb⟩ : ∃ b, mayB s = b := ⟨_, rfl⟩
  have HM : Hid (∀ W, Calls Try.prog 12 #[.agg #[.int .i64 s.g, .int .i64 s.h, .int .i64 s.n, .int .i64 s.p]] W fun e w' => e = .returned (.bool b) ∧ Below W.heap.size W w') := fun W => may_at s.g s.h s.n s.p b W hb
  have HRM : Hid (∀ W, Calls Try.prog 13 #[.agg #[.int .i64 s.g, .int .i64 s.h, .int .i64 s.n, .int .i64 s.p]] W fun e w' => e = .returned (.bool b) ∧ Below W.heap.size W w') := fun W => rmay_at s.g s.h s.n s.p b W hb
  have HBB := Lib.hid hb
  clear hb
  go_wp2_with fail
  rw [← HW4.out]
  have hnx : (e != e) = false := by simp
  have hnb : (b != b) = false := by simp
  go_cut [40] from 26 to 40 (fun s40 wx => s40 = .bool false ∧ Below W4.heap.size W4 wx)
  case first =>
    refine wp_region_by (by kernel_rfl) (Phi [.val (.agg #[.int .i64 x.g, .int .i64 x.h, .int .i64 x.n, .int .i64 x.p]), .val (.agg #[.int .i64 x.g, .int .i64 x.h, .int .i64 x.n, .int .i64 x.p]), .val (.bool false), .val (.bool false), .val (.int .i64 e), .val (.int .i64 e), .val (.bool false), .val (.bool false), .val (.bool false), .val (.agg #[.int .i64 s.g, .int .i64 s.h, .int .i64 s.n, .int .i64 s.p]), .val (.bool b), .val (.agg #[.int .i64 s.g, .int .i64 s.h, .int .i64 s.n, .int .i64 s.p]), .val (.bool b), .val (.bool false), .val (.bool false)]) (phi_stab _) (by kernel_rfl) ?step4 ?fin4
    case step4 =>
      intro i o listed a1 w2 ho hk hdep
      have hi : i < 15 := (Array.getElem?_eq_some_iff.1 ho).1
      have e2 := ev (show a1.eval (.tmp 2) = .pointer (some ⟨w.heap.size, 0, none⟩) from hk.frame 2 (frame_of (by kernel_rfl)))
      have e5 := ev (show a1.eval (.tmp 5) = .pointer (some ⟨w1.heap.size, 0, none⟩) from hk.frame 5 (frame_of (by kernel_rfl)))
      have e6 := ev (show a1.eval (.tmp 6) = .int .i64 e from hk.frame 6 (frame_of (by kernel_rfl)))
      have e7 := ev (show a1.eval (.tmp 7) = .pointer (some ⟨w3.heap.size, 0, none⟩) from hk.frame 7 (frame_of (by kernel_rfl)))
      have e8 := ev (show a1.eval (.tmp 8) = .int .i64 e from hk.frame 8 (frame_of (by kernel_rfl)))
      obtain ⟨k0, k1, k2, k3⟩ := HX4.out.below hk.below (by omega)
      obtain ⟨q0, q1, q2, q3⟩ := HY4.out.below hk.below hz4
      obtain ⟨r0, r1, r2, r3⟩ := HS4.out.below hk.below (by omega)
      have hii : i = 0 ∨ i = 1 ∨ i = 2 ∨ i = 3 ∨ i = 4 ∨ i = 5 ∨ i = 6 ∨ i = 7 ∨ i = 8 ∨ i = 9 ∨ i = 10 ∨ i = 11 ∨ i = 12 ∨ i = 13 ∨ i = 14 := by omega
      rcases hii with rfl | rfl | rfl | rfl | rfl | rfl | rfl | rfl | rfl | rfl | rfl | rfl | rfl | rfl | rfl
      · cases ho
        refine wpOp_of rfl rfl (wp_value (v := .agg #[.int .i64 x.g, .int .i64 x.h, .int .i64 x.n, .int .i64 x.p]) ?_ rfl)
        go_simp
      · cases ho
        refine wpOp_of rfl rfl (wp_value (v := .agg #[.int .i64 x.g, .int .i64 x.h, .int .i64 x.n, .int .i64 x.p]) ?_ rfl)
        go_simp
      · cases ho
        have d0 := ev (show a1.eval (.tmp 26) = .agg #[.int .i64 x.g, .int .i64 x.h, .int .i64 x.n, .int .i64 x.p] from hk.done 0 _ 26 rfl rfl (hdep ⟨0, .data⟩ (by simp) rfl))
        have d1 := ev (show a1.eval (.tmp 27) = .agg #[.int .i64 x.g, .int .i64 x.h, .int .i64 x.n, .int .i64 x.p] from hk.done 1 _ 27 rfl rfl (hdep ⟨1, .data⟩ (by simp) rfl))
        refine wpOp_of rfl rfl (wp_value (v := .bool false) ?_ rfl)
        go_simp
      · cases ho
        have d2 := ev (show a1.eval (.tmp 28) = .bool false from hk.done 2 _ 28 rfl rfl (hdep ⟨2, .data⟩ (by simp) rfl))
        refine wpOp_of rfl rfl (wp_value (v := .bool false) ?_ rfl)
        simp [execOp, d2, Act.eval]
      · cases ho
        refine wpOp_of rfl (wanted_of (t := 29) rfl rfl (hk.done 3 _ 29 rfl rfl (hdep ⟨3, .guard⟩ (by simp) rfl))) (wp_value (v := .int .i64 e) ?_ rfl)
        simp [execOp, e6, Act.eval]
      · cases ho
        refine wpOp_of rfl (wanted_of (t := 29) rfl rfl (hk.done 3 _ 29 rfl rfl (hdep ⟨3, .guard⟩ (by simp) rfl))) (wp_value (v := .int .i64 e) ?_ rfl)
        simp [execOp, e8, Act.eval]
      · cases ho
        have d4 := ev (show a1.eval (.tmp 30) = .int .i64 e from hk.done 4 _ 30 rfl rfl (hdep ⟨4, .data⟩ (by simp) rfl))
        have d5 := ev (show a1.eval (.tmp 31) = .int .i64 e from hk.done 5 _ 31 rfl rfl (hdep ⟨5, .data⟩ (by simp) rfl))
        refine wpOp_of rfl (wanted_of (t := 29) rfl rfl (hk.done 3 _ 29 rfl rfl (hdep ⟨3, .guard⟩ (by simp) rfl))) (wp_value (v := .bool false) ?_ rfl)
        go_simp
      · cases ho
        have d3 := ev (show a1.eval (.tmp 29) = .bool false from hk.done 3 _ 29 rfl rfl (hdep ⟨3, .data⟩ (by simp) rfl))
        have d6 := ev (show a1.eval (.tmp 32) = .bool false from hk.done 6 _ 32 rfl rfl (hdep ⟨6, .data⟩ (by simp) rfl))
        refine wpOp_of rfl rfl (wp_value (v := .bool false) ?_ rfl)
        go_simp
      · cases ho
        have d7 := ev (show a1.eval (.tmp 33) = .bool false from hk.done 7 _ 33 rfl rfl (hdep ⟨7, .data⟩ (by simp) rfl))
        refine wpOp_of rfl rfl (wp_value (v := .bool false) ?_ rfl)
        simp [execOp, d7, Act.eval]
      · cases ho
        refine wpOp_of rfl (wanted_of (t := 34) rfl rfl (hk.done 8 _ 34 rfl rfl (hdep ⟨8, .guard⟩ (by simp) rfl))) (wp_value (v := .agg #[.int .i64 s.g, .int .i64 s.h, .int .i64 s.n, .int .i64 s.p]) ?_ rfl)
        go_simp
      · cases ho
        have d9 := ev (show a1.eval (.tmp 35) = .agg #[.int .i64 s.g, .int .i64 s.h, .int .i64 s.n, .int .i64 s.p] from hk.done 9 _ 35 rfl rfl (hdep ⟨9, .data⟩ (by simp) rfl))
        refine wpOp_of rfl (wanted_of (t := 34) rfl rfl (hk.done 8 _ 34 rfl rfl (hdep ⟨8, .guard⟩ (by simp) rfl))) ?_
        go_simp
        refine (HM.out w2).mono ?_
        rintro e w3 ⟨rfl, hb2⟩
        exact ⟨_, rfl, rfl, hb2⟩
      · cases ho
        refine wpOp_of rfl (wanted_of (t := 34) rfl rfl (hk.done 8 _ 34 rfl rfl (hdep ⟨8, .guard⟩ (by simp) rfl))) (wp_value (v := .agg #[.int .i64 s.g, .int .i64 s.h, .int .i64 s.n, .int .i64 s.p]) ?_ rfl)
        go_simp
      · cases ho
        have d11 := ev (show a1.eval (.tmp 37) = .agg #[.int .i64 s.g, .int .i64 s.h, .int .i64 s.n, .int .i64 s.p] from hk.done 11 _ 37 rfl rfl (hdep ⟨11, .data⟩ (by simp) rfl))
        refine wpOp_of rfl (wanted_of (t := 34) rfl rfl (hk.done 8 _ 34 rfl rfl (hdep ⟨8, .guard⟩ (by simp) rfl))) ?_
        go_simp
        refine (HRM.out w2).mono ?_
        rintro e w3 ⟨rfl, hb2⟩
        exact ⟨_, rfl, rfl, hb2⟩
      · cases ho
        have d10 := ev (show a1.eval (.tmp 36) = .bool b from hk.done 10 _ 36 rfl rfl (hdep ⟨10, .data⟩ (by simp) rfl))
        have d12 := ev (show a1.eval (.tmp 38) = .bool b from hk.done 12 _ 38 rfl rfl (hdep ⟨12, .data⟩ (by simp) rfl))
        refine wpOp_of rfl (wanted_of (t := 34) rfl rfl (hk.done 8 _ 34 rfl rfl (hdep ⟨8, .guard⟩ (by simp) rfl))) (wp_value (v := .bool false) ?_ rfl)
        go_simp
      · cases ho
        have d8 := ev (show a1.eval (.tmp 34) = .bool false from hk.done 8 _ 34 rfl rfl (hdep ⟨8, .data⟩ (by simp) rfl))
        have d13 := ev (show a1.eval (.tmp 39) = .bool false from hk.done 13 _ 39 rfl rfl (hdep ⟨13, .data⟩ (by simp) rfl))
        refine wpOp_of rfl rfl (wp_value (v := .bool false) ?_ rfl)
        go_simp
    case fin4 =>
      intro listed a2 w2 hk hall
      have h40 : a2.eval (.tmp 40) = .bool false := hk.done 14 _ 40 rfl rfl (hall 14 (by decide))
      have hact := kept_all [26, 27, 28, 29, 30, 31, 32, 33, 34, 35, 36, 37, 38, 39, 40] hk (by kernel_rfl)
      have HB := Lib.hid hk.below
      simp only [List.foldl_cons, List.foldl_nil, List.setIfInBounds_toArray, List.set_cons_succ, List.set_cons_zero] at hact
      generalize a2.eval (.tmp 26) = u26 at hact
      generalize a2.eval (.tmp 27) = u27 at hact
      generalize a2.eval (.tmp 28) = u28 at hact
      generalize a2.eval (.tmp 29) = u29 at hact
      generalize a2.eval (.tmp 30) = u30 at hact
      generalize a2.eval (.tmp 31) = u31 at hact
      generalize a2.eval (.tmp 32) = u32 at hact
      generalize a2.eval (.tmp 33) = u33 at hact
      generalize a2.eval (.tmp 34) = u34 at hact
      generalize a2.eval (.tmp 35) = u35 at hact
      generalize a2.eval (.tmp 36) = u36 at hact
      generalize a2.eval (.tmp 37) = u37 at hact
      generalize a2.eval (.tmp 38) = u38 at hact
      generalize a2.eval (.tmp 39) = u39 at hact
      generalize a2.eval (.tmp 40) = u40 at hact h40
      rw [hact]
      clear hact
      go_wp2
      go_meet
      first | exact ⟨h40, HB.out⟩ | exact ⟨rfl, HB.out⟩
  case rest =>
  obtain ⟨rfl, hbx⟩ := hcut
  have HS5 := Lib.hid (HS4.out.below hbx (by omega))
  have HZ5 := Lib.hid (step' HZ4.out hbx HZ4.out.size)
  have hz5 : w.heap.size < wc.heap.size := by have := hbx.size; omega
  clear hbx HX4 HY4 HS4 HX3 HS3 HA4 HW4 HX2 HS2 HW2 HA2 hnx hnb
  obtain ⟨w5, rfl⟩ : ∃ x, x = wc := ⟨wc, rfl⟩
  obtain ⟨k0, k1, k2, k3⟩ := HS5.out
  cases b with
  | false =>
    go_wp2_with fail
    refine (enc_no s.g s.h s.n s.p _ HBB.out).mono ?_
    rintro e' w6 ⟨rfl, hb6⟩
    have HS6 := Lib.hid (HS5.out.below hb6 hz5)
    have HZ6 := Lib.hid (step' HZ5.out hb6 HZ5.out.size)
    clear hb6 k0 k1 k2 k3
    obtain ⟨k0, k1, k2, k3⟩ := HS6.out
    go_wp2_with fail
    refine (HRM.out _).mono ?_
    rintro e' w7 ⟨rfl, hb7⟩
    have HZ7 := Lib.hid (step' HZ6.out hb7 HZ6.out.size)
    clear hb7 k0 k1 k2 k3
    go_wp2_with fail
    refine (awake_any _).mono ?_
    rintro e' w8 ⟨rfl, hb8⟩
    have HZ8 := Lib.hid (step' HZ7.out hb8 HZ7.out.size)
    clear hb8
    go_wp2_with fail
    go_ret
    exact ⟨rfl, HZ8.out⟩
  | true =>
    go_wp2_with fail
    refine (encS_any s _ HBB.out).mono ?_
    rintro e' w6 ⟨v6, rfl, hown6, hb6⟩
    have HS6 := Lib.hid (HS5.out.below hb6 hz5)
    have HZ6 := Lib.hid (step' HZ5.out hb6 HZ5.out.size)
    have hz6 : w.heap.size < w6.heap.size := by have := hb6.size; omega
    clear hb6 k0 k1 k2 k3
    obtain ⟨A6, c6, rfl, ho6, hc6⟩ := own_sl hown6
    rw [encS_len] at hc6 ⊢
    have HO6 := Lib.hid ho6
    clear hown6 ho6
    obtain ⟨k0, k1, k2, k3⟩ := HS6.out
    go_wp2_with fail
    refine (HRM.out _).mono ?_
    rintro e' w7 ⟨rfl, hb7⟩
    have HS7 := Lib.hid (HS6.out.below hb7 hz6)
    have HZ7 := Lib.hid (step' HZ6.out hb7 HZ6.out.size)
    have HT7 : Hid (Below w6.heap.size w6 w7) := hb7
    have hz7 : w6.heap.size ≤ w7.heap.size := hb7.size
    clear hb7 k0 k1 k2 k3
    go_wp2_with fail
    have HDE := Lib.hid (dec_any A6 (encS s) 64 c6 w6.heap.size w7 (HO6.out.below HT7.out (Nat.le_refl _)) hz7 (encS_len s) hc6 (by omega))
    rw [dec_enc HBB.out] at HDE
    refine HDE.out.mono ?_
    rintro e' w8 ⟨rfl, hb8⟩
    have HS8 := Lib.hid (HS7.out.below hb8 (by omega))
    have HZ8 := Lib.hid (step' HZ7.out hb8 HZ7.out.size)
    have HT8 := Lib.hid (step' HT7.out hb8 HT7.out.size)
    have hz8 : w6.heap.size ≤ w8.heap.size := HT8.out.size
    clear hb8 HDE
    obtain ⟨W9, hW9⟩ : ∃ W9, W9 = w8.alloc (.cells #[.int .i64 s.g, .int .i64 s.h, .int .i64 s.n, .int .i64 s.p] 23) := ⟨_, rfl⟩
    have HY9 : Hid (BoxS w8.heap.size s W9) := by rw [hW9]; exact boxS_new w8 s
    have HA9 : Hid (Below w8.heap.size w8 W9) := by rw [hW9]; exact (Below.refl _ _).alloc (Nat.le_refl _) _
    have HS9 := Lib.hid (HS8.out.below HA9.out (by omega))
    have HZ9 := Lib.hid (step' HZ8.out HA9.out HZ8.out.size)
    have HT9 := Lib.hid (step' HT8.out HA9.out HT8.out.size)
    have hz9 : w8.heap.size < W9.heap.size := by rw [hW9, alloc_size]; omega
    have HW9 := Lib.hid hW9
    clear hW9
    have HCV9 : Hid (∀ W, Below W9.heap.size W9 W → (convert 24 9 (.slice A6 64 c6)).run Try.prog W = .ok (.string (text (encS s))) W) := fun W hW => by
      have := octs_text (c := c6) (HO6.out.below (step' HT9.out hW HT9.out.size) (Nat.le_refl _))
      rw [encS_len] at this
      exact this
    have HRE := Lib.hid (fun W => rencS_any s W HBB.out)
    obtain ⟨T, hT⟩ : ∃ T, T = text (encS s) := ⟨_, rfl⟩
    rw [← hT] at HCV9 HRE
    have hTT : (T.toList == T.toList) = true := by simp
    clear hT
    go_wp2_with fail
    rw [← HW9.out]
    refine wp_region_by (by kernel_rfl) (Phi [.val (.slice A6 64 c6), .val (.string T), .val (.agg #[.int .i64 s.g, .int .i64 s.h, .int .i64 s.n, .int .i64 s.p]), .val (.string T), .val (.bool true), .val (.bool true), .val (.int .i64 0), .val (.bool true), .val (.bool true), .val (.bool true), .val (.agg #[.int .i64 s.g, .int .i64 s.h, .int .i64 s.n, .int .i64 s.p]), .val (.agg #[.int .i64 s.g, .int .i64 s.h, .int .i64 s.n, .int .i64 s.p]), .val (.bool true), .val (.bool true), .val (.bool true), .val (.int .i64 0), .val (.bool true), .val (.bool true), .val (.bool true), .val (.bool true), .val (.bool true), .val (.bool true)]) (phi_stab _) (by kernel_rfl) ?step10 ?fin10
    case step10 =>
      intro i o listed a1 w2 ho hk hdep
      have hi : i < 22 := (Array.getElem?_eq_some_iff.1 ho).1
      have e2 := ev (show a1.eval (.tmp 2) = .pointer (some ⟨w.heap.size, 0, none⟩) from hk.frame 2 (frame_of (by kernel_rfl)))
      have e9 := ev (show a1.eval (.tmp 9) = .slice A6 64 c6 from hk.frame 9 (frame_of (by kernel_rfl)))
      have e10 := ev (show a1.eval (.tmp 10) = .int .i64 0 from hk.frame 10 (frame_of (by kernel_rfl)))
      have e11 := ev (show a1.eval (.tmp 11) = .pointer (some ⟨w8.heap.size, 0, none⟩) from hk.frame 11 (frame_of (by kernel_rfl)))
      have e12 := ev (show a1.eval (.tmp 12) = .int .i64 0 from hk.frame 12 (frame_of (by kernel_rfl)))
      obtain ⟨k0, k1, k2, k3⟩ := HY9.out.below hk.below hz9
      obtain ⟨r0, r1, r2, r3⟩ := HS9.out.below hk.below (by omega)
      have z1 := HCV9.out w2 hk.below
      have hii : i = 0 ∨ i = 1 ∨ i = 2 ∨ i = 3 ∨ i = 4 ∨ i = 5 ∨ i = 6 ∨ i = 7 ∨ i = 8 ∨ i = 9 ∨ i = 10 ∨ i = 11 ∨ i = 12 ∨ i = 13 ∨ i = 14 ∨ i = 15 ∨ i = 16 ∨ i = 17 ∨ i = 18 ∨ i = 19 ∨ i = 20 ∨ i = 21 := by omega
      rcases hii with rfl | rfl | rfl | rfl | rfl | rfl | rfl | rfl | rfl | rfl | rfl | rfl | rfl | rfl | rfl | rfl | rfl | rfl | rfl | rfl | rfl | rfl
      · cases ho
        refine wpOp_of rfl rfl (wp_value (v := .slice A6 64 c6) ?_ rfl)
        simp [execOp, e9, Act.eval]
      · cases ho
        have d0 := ev (show a1.eval (.tmp 64) = .slice A6 64 c6 from hk.done 0 _ 64 rfl rfl (hdep ⟨0, .data⟩ (by simp) rfl))
        refine wpOp_of rfl rfl (wp_value (v := .string T) ?_ rfl)
        go_simp
      · cases ho
        refine wpOp_of rfl rfl (wp_value (v := .agg #[.int .i64 s.g, .int .i64 s.h, .int .i64 s.n, .int .i64 s.p]) ?_ rfl)
        go_simp
      · cases ho
        have d2 := ev (show a1.eval (.tmp 66) = .agg #[.int .i64 s.g, .int .i64 s.h, .int .i64 s.n, .int .i64 s.p] from hk.done 2 _ 66 rfl rfl (hdep ⟨2, .data⟩ (by simp) rfl))
        refine wpOp_of rfl rfl ?_
        go_simp
        refine (HRE.out w2).mono ?_
        rintro e w3 ⟨rfl, hb2⟩
        exact ⟨_, rfl, rfl, hb2⟩
      · cases ho
        have d1 := ev (show a1.eval (.tmp 65) = .string T from hk.done 1 _ 65 rfl rfl (hdep ⟨1, .data⟩ (by simp) rfl))
        have d3 := ev (show a1.eval (.tmp 67) = .string T from hk.done 3 _ 67 rfl rfl (hdep ⟨3, .data⟩ (by simp) rfl))
        refine wpOp_of rfl rfl (wp_value (v := .bool true) ?_ rfl)
        go_simp
      · cases ho
        have d4 := ev (show a1.eval (.tmp 68) = .bool true from hk.done 4 _ 68 rfl rfl (hdep ⟨4, .data⟩ (by simp) rfl))
        refine wpOp_of rfl rfl (wp_value (v := .bool true) ?_ rfl)
        simp [execOp, d4, Act.eval]
      · cases ho
        refine wpOp_of rfl (wanted_of (t := 69) rfl rfl (hk.done 5 _ 69 rfl rfl (hdep ⟨5, .guard⟩ (by simp) rfl))) (wp_value (v := .int .i64 0) ?_ rfl)
        simp [execOp, e10, Act.eval]
      · cases ho
        have d6 := ev (show a1.eval (.tmp 70) = .int .i64 0 from hk.done 6 _ 70 rfl rfl (hdep ⟨6, .data⟩ (by simp) rfl))
        refine wpOp_of rfl (wanted_of (t := 69) rfl rfl (hk.done 5 _ 69 rfl rfl (hdep ⟨5, .guard⟩ (by simp) rfl))) (wp_value (v := .bool true) ?_ rfl)
        go_simp
      · cases ho
        have d5 := ev (show a1.eval (.tmp 69) = .bool true from hk.done 5 _ 69 rfl rfl (hdep ⟨5, .data⟩ (by simp) rfl))
        have d7 := ev (show a1.eval (.tmp 71) = .bool true from hk.done 7 _ 71 rfl rfl (hdep ⟨7, .data⟩ (by simp) rfl))
        refine wpOp_of rfl rfl (wp_value (v := .bool true) ?_ rfl)
        go_simp
      · cases ho
        have d8 := ev (show a1.eval (.tmp 72) = .bool true from hk.done 8 _ 72 rfl rfl (hdep ⟨8, .data⟩ (by simp) rfl))
        refine wpOp_of rfl rfl (wp_value (v := .bool true) ?_ rfl)
        simp [execOp, d8, Act.eval]
      · cases ho
        refine wpOp_of rfl (wanted_of (t := 73) rfl rfl (hk.done 9 _ 73 rfl rfl (hdep ⟨9, .guard⟩ (by simp) rfl))) (wp_value (v := .agg #[.int .i64 s.g, .int .i64 s.h, .int .i64 s.n, .int .i64 s.p]) ?_ rfl)
        go_simp
      · cases ho
        refine wpOp_of rfl (wanted_of (t := 73) rfl rfl (hk.done 9 _ 73 rfl rfl (hdep ⟨9, .guard⟩ (by simp) rfl))) (wp_value (v := .agg #[.int .i64 s.g, .int .i64 s.h, .int .i64 s.n, .int .i64 s.p]) ?_ rfl)
        go_simp
      · cases ho
        have d10 := ev (show a1.eval (.tmp 74) = .agg #[.int .i64 s.g, .int .i64 s.h, .int .i64 s.n, .int .i64 s.p] from hk.done 10 _ 74 rfl rfl (hdep ⟨10, .data⟩ (by simp) rfl))
        have d11 := ev (show a1.eval (.tmp 75) = .agg #[.int .i64 s.g, .int .i64 s.h, .int .i64 s.n, .int .i64 s.p] from hk.done 11 _ 75 rfl rfl (hdep ⟨11, .data⟩ (by simp) rfl))
        refine wpOp_of rfl (wanted_of (t := 73) rfl rfl (hk.done 9 _ 73 rfl rfl (hdep ⟨9, .guard⟩ (by simp) rfl))) (wp_value (v := .bool true) ?_ rfl)
        go_simp
      · cases ho
        have d9 := ev (show a1.eval (.tmp 73) = .bool true from hk.done 9 _ 73 rfl rfl (hdep ⟨9, .data⟩ (by simp) rfl))
        have d12 := ev (show a1.eval (.tmp 76) = .bool true from hk.done 12 _ 76 rfl rfl (hdep ⟨12, .data⟩ (by simp) rfl))
        refine wpOp_of rfl rfl (wp_value (v := .bool true) ?_ rfl)
        go_simp
      · cases ho
        have d13 := ev (show a1.eval (.tmp 77) = .bool true from hk.done 13 _ 77 rfl rfl (hdep ⟨13, .data⟩ (by simp) rfl))
        refine wpOp_of rfl rfl (wp_value (v := .bool true) ?_ rfl)
        simp [execOp, d13, Act.eval]
      · cases ho
        refine wpOp_of rfl (wanted_of (t := 78) rfl rfl (hk.done 14 _ 78 rfl rfl (hdep ⟨14, .guard⟩ (by simp) rfl))) (wp_value (v := .int .i64 0) ?_ rfl)
        simp [execOp, e12, Act.eval]
      · cases ho
        have d15 := ev (show a1.eval (.tmp 79) = .int .i64 0 from hk.done 15 _ 79 rfl rfl (hdep ⟨15, .data⟩ (by simp) rfl))
        refine wpOp_of rfl (wanted_of (t := 78) rfl rfl (hk.done 14 _ 78 rfl rfl (hdep ⟨14, .guard⟩ (by simp) rfl))) (wp_value (v := .bool true) ?_ rfl)
        go_simp
      · cases ho
        have d14 := ev (show a1.eval (.tmp 78) = .bool true from hk.done 14 _ 78 rfl rfl (hdep ⟨14, .data⟩ (by simp) rfl))
        have d16 := ev (show a1.eval (.tmp 80) = .bool true from hk.done 16 _ 80 rfl rfl (hdep ⟨16, .data⟩ (by simp) rfl))
        refine wpOp_of rfl rfl (wp_value (v := .bool true) ?_ rfl)
        go_simp
      · cases ho
        have d17 := ev (show a1.eval (.tmp 81) = .bool true from hk.done 17 _ 81 rfl rfl (hdep ⟨17, .data⟩ (by simp) rfl))
        refine wpOp_of rfl rfl (wp_value (v := .bool true) ?_ rfl)
        simp [execOp, d17, Act.eval]
      · cases ho
        refine wpOp_of rfl (wanted_of (t := 82) rfl rfl (hk.done 18 _ 82 rfl rfl (hdep ⟨18, .guard⟩ (by simp) rfl))) ?_
        go_simp
        refine (awake_any w2).mono ?_
        rintro e w3 ⟨rfl, hb2⟩
        exact ⟨_, rfl, rfl, hb2⟩
      · cases ho
        have d18 := ev (show a1.eval (.tmp 82) = .bool true from hk.done 18 _ 82 rfl rfl (hdep ⟨18, .data⟩ (by simp) rfl))
        have d19 := ev (show a1.eval (.tmp 83) = .bool true from hk.done 19 _ 83 rfl rfl (hdep ⟨19, .data⟩ (by simp) rfl))
        refine wpOp_of rfl rfl (wp_value (v := .bool true) ?_ rfl)
        go_simp
      · cases ho
        have d20 := ev (show a1.eval (.tmp 84) = .bool true from hk.done 20 _ 84 rfl rfl (hdep ⟨20, .data⟩ (by simp) rfl))
        refine wpOp_of rfl rfl (wp_value (v := .bool true) ?_ rfl)
        simp [execOp, d20, Act.eval]
    case fin10 =>
      intro listed a2 w2 hk hall
      have h0 : a2.eval (.tmp 4) = .bool true := hk.done 21 _ 4 rfl rfl (hall 21 (by decide))
      have hB := HZ9.out.trans (hk.below.mono HZ9.out.size)
      have e0 := ev h0
      go_wp2
      refine bodyPost_ret (v := .bool true) (by simp [results, Try.results3, go_sem, e0]) hk.defers ⟨rfl, hB⟩
end Go.Proofs.Ytlieijbjbjnaiaa.Sup
