/- Contracts: the document's Encode. -/
import Derived.Test.YtlieijbjbjnaiaaS4
import Derived.Test.YtlieijbjbjnaiaaFAnyB
import Derived.Deep.DeepCutAuto
namespace Go.Proofs.Ytlieijbjbjnaiaa.Sup
open Go.RowKit Crc Chk Frm Fra

def strLen : Value → Nat
  | .string t => t.size
  | _ => 0
set_option maxHeartbeats 3200000 in
theorem renc_yes (g h n p : Nat) (w : World) (hg : g < 281474976710656) (hh : h < 256) (hn : n < 281474976710656) (hp : p < 65536) :
    Calls Try.prog 16 #[.agg #[.int .i64 g, .int .i64 h, .int .i64 n, .int .i64 p]] w fun e w' => e = .returned (.string (text (encN g h n p))) ∧ Below w.heap.size w w' := by
  have X1 : Hid (∀ W, Calls Try.prog 34 #[.int .u64 g, .int .i64 6] W fun e w' => e = .returned (.string (text (be 6 g))) ∧ Below W.heap.size W w') := fun W => wide_any g 6 W (by omega) (by omega)
  have X2 : Hid (∀ W, Calls Try.prog 34 #[.int .u64 h, .int .i64 1] W fun e w' => e = .returned (.string (text (be 1 h))) ∧ Below W.heap.size W w') := fun W => wide_any h 1 W (by omega) (by omega)
  have X3 : Hid (∀ W, Calls Try.prog 34 #[.int .u64 n, .int .i64 6] W fun e w' => e = .returned (.string (text (be 6 n))) ∧ Below W.heap.size W w') := fun W => wide_any n 6 W (by omega) (by omega)
  have X4 : Hid (∀ W, Calls Try.prog 34 #[.int .u64 p, .int .i64 2] W fun e w' => e = .returned (.string (text (be 2 p))) ∧ Below W.heap.size W w') := fun W => wide_any p 2 W (by omega) (by omega)
  have z1 : (text (be 6 g)).size = 6 := by rw [text_size, be_len]
  have z2 : (text (be 1 h)).size = 1 := by rw [text_size, be_len]
  have z3 : (text (be 6 n)).size = 6 := by rw [text_size, be_len]
  have z4 : (text (be 2 p)).size = 2 := by rw [text_size, be_len]
  obtain ⟨c1, y1⟩ : ∃ c, c = text mark ++ text (be 6 g) := ⟨_, rfl⟩
  obtain ⟨c2, y2⟩ : ∃ c, c = c1 ++ text (be 1 h) := ⟨_, rfl⟩
  obtain ⟨c3, y3⟩ : ∃ c, c = c2 ++ text (be 6 n) := ⟨_, rfl⟩
  obtain ⟨c4, y4⟩ : ∃ c, c = c3 ++ text (be 2 p) := ⟨_, rfl⟩
  have q1 : c1.size = 10 := by rw [y1, ByteArray.size_append, z1]; rfl
  have q2 : c2.size = 11 := by rw [y2, ByteArray.size_append, q1, z2]
  have q3 : c3.size = 17 := by rw [y3, ByteArray.size_append, q2, z3]
  have HC : Hid (c4 = text (head g h n p)) := by
    show _ = _
    rw [y4, y3, y2, y1, text_append, text_append, text_append, text_append]; rfl
  obtain ⟨m1, x1⟩ : ∃ a, a = text (be 6 g) := ⟨_, rfl⟩
  obtain ⟨m2, x2⟩ : ∃ a, a = text (be 1 h) := ⟨_, rfl⟩
  obtain ⟨m3, x3⟩ : ∃ a, a = text (be 6 n) := ⟨_, rfl⟩
  obtain ⟨m4, x4⟩ : ∃ a, a = text (be 2 p) := ⟨_, rfl⟩
  have y1' : (⟨#[98, 115, 117, 112]⟩ : ByteArray) ++ text (be 6 g) = c1 := y1.symm
  rw [← x1] at X1 z1 y1'
  rw [← x2] at X2 z2 y2
  rw [← x3] at X3 z3 y3
  rw [← x4] at X4 z4 y4
  clear x1 x2 x3 x4 y1
  replace y2 := y2.symm
  replace y3 := y3.symm
  replace y4 := y4.symm
  obtain ⟨W0, hW0⟩ : ∃ W0, W0 = w.alloc (.cells #[.int .i64 (g : Int), .int .i64 (h : Int), .int .i64 (n : Int), .int .i64 (p : Int)] 23) := ⟨_, rfl⟩
  have hz0' : W0.heap.size = w.heap.size + 1 := by rw [hW0]; exact alloc_size _ _
  have HF : Hid (BoxS w.heap.size ⟨g, h, n, p⟩ W0) := by rw [hW0]; exact boxS_new w ⟨g, h, n, p⟩
  have HB0 : Hid (Below w.heap.size w W0) := by rw [hW0]; exact (Below.refl _ _).alloc (Nat.le_refl _) _
  have hF0 : w.heap.size < W0.heap.size := by omega
  have HW0 := Lib.hid hW0
  clear hW0 hz0'
  have u1 : IntKind.u64.wrap (g : Int) = g := by rw [IntKind.wrap_u64]; omega
  have u2 : IntKind.u64.wrap (h : Int) = h := by rw [IntKind.wrap_u64]; omega
  have u3 : IntKind.u64.wrap (n : Int) = n := by rw [IntKind.wrap_u64]; omega
  have u4 : IntKind.u64.wrap (p : Int) = p := by rw [IntKind.wrap_u64]; omega
  go_enter Try.func16, Try.ntmps16
  go_wp2_with fail
  rw [← HW0.out]
  go_cut [3] from 3 to 23 (fun s3 wx => s3 = .string c4 ∧ Below W0.heap.size W0 wx)
  case first =>
    refine wp_region_by (by kernel_rfl) (Phi [.val (.pointer (some ⟨w.heap.size, 0, none⟩)), .val (.int .i64 (g : Int)), .val (.int .u64 (g : Int)), .val (.string m1), .val (.string c1), .val (.pointer (some ⟨w.heap.size, 1, none⟩)), .val (.int .i64 (h : Int)), .val (.int .u64 (h : Int)), .val (.string m2), .val (.string c2), .val (.pointer (some ⟨w.heap.size, 2, none⟩)), .val (.int .i64 (n : Int)), .val (.int .u64 (n : Int)), .val (.string m3), .val (.string c3), .val (.pointer (some ⟨w.heap.size, 3, none⟩)), .val (.int .i64 (p : Int)), .val (.int .u64 (p : Int)), .val (.string m4), .val (.string c4), .val (.string c4)]) (phi_stab _) (by kernel_rfl) ?step1 ?fin1
    case step1 =>
      intro i o listed a1 w2 ho hk hdep
      have hi : i < 21 := (Array.getElem?_eq_some_iff.1 ho).1
      have e1 := ev (show a1.eval (.tmp 1) = .pointer (some ⟨w.heap.size, 0, none⟩) from hk.frame 1 (frame_of (by kernel_rfl)))
      obtain ⟨k0, k1, k2, k3⟩ := HF.out.below hk.below hF0
      dsimp only at k0 k1 k2 k3
      have hii : i = 0 ∨ i = 1 ∨ i = 2 ∨ i = 3 ∨ i = 4 ∨ i = 5 ∨ i = 6 ∨ i = 7 ∨ i = 8 ∨ i = 9 ∨ i = 10 ∨ i = 11 ∨ i = 12 ∨ i = 13 ∨ i = 14 ∨ i = 15 ∨ i = 16 ∨ i = 17 ∨ i = 18 ∨ i = 19 ∨ i = 20 := by omega
      rcases hii with rfl | rfl | rfl | rfl | rfl | rfl | rfl | rfl | rfl | rfl | rfl | rfl | rfl | rfl | rfl | rfl | rfl | rfl | rfl | rfl | rfl
      · cases ho
        refine wpOp_of rfl rfl (wp_value (v := .pointer (some ⟨w.heap.size, 0, none⟩)) ?_ rfl)
        go_simp
      · cases ho
        have d0 := ev (show a1.eval (.tmp 4) = .pointer (some ⟨w.heap.size, 0, none⟩) from hk.done 0 _ 4 rfl rfl (hdep ⟨0, .data⟩ (by simp) rfl))
        refine wpOp_of rfl rfl (wp_value (v := .int .i64 (g : Int)) ?_ rfl)
        go_simp
      · cases ho
        have d1 := ev (show a1.eval (.tmp 5) = .int .i64 (g : Int) from hk.done 1 _ 5 rfl rfl (hdep ⟨1, .data⟩ (by simp) rfl))
        refine wpOp_of rfl rfl (wp_value (v := .int .u64 (g : Int)) ?_ rfl)
        go_simp
      · cases ho
        have d2 := ev (show a1.eval (.tmp 6) = .int .u64 (g : Int) from hk.done 2 _ 6 rfl rfl (hdep ⟨2, .data⟩ (by simp) rfl))
        refine wpOp_of rfl rfl ?_
        go_simp
        refine (X1.out w2).mono ?_
        rintro e w3 ⟨rfl, hb2⟩
        exact ⟨_, rfl, rfl, hb2⟩
      · cases ho
        have d3 := ev (show a1.eval (.tmp 7) = .string m1 from hk.done 3 _ 7 rfl rfl (hdep ⟨3, .data⟩ (by simp) rfl))
        refine wpOp_of rfl rfl (wp_value (v := .string c1) ?_ rfl)
        go_simp
      · cases ho
        refine wpOp_of rfl rfl (wp_value (v := .pointer (some ⟨w.heap.size, 1, none⟩)) ?_ rfl)
        go_simp
      · cases ho
        have d5 := ev (show a1.eval (.tmp 9) = .pointer (some ⟨w.heap.size, 1, none⟩) from hk.done 5 _ 9 rfl rfl (hdep ⟨5, .data⟩ (by simp) rfl))
        refine wpOp_of rfl rfl (wp_value (v := .int .i64 (h : Int)) ?_ rfl)
        go_simp
      · cases ho
        have d6 := ev (show a1.eval (.tmp 10) = .int .i64 (h : Int) from hk.done 6 _ 10 rfl rfl (hdep ⟨6, .data⟩ (by simp) rfl))
        refine wpOp_of rfl rfl (wp_value (v := .int .u64 (h : Int)) ?_ rfl)
        go_simp
      · cases ho
        have d7 := ev (show a1.eval (.tmp 11) = .int .u64 (h : Int) from hk.done 7 _ 11 rfl rfl (hdep ⟨7, .data⟩ (by simp) rfl))
        refine wpOp_of rfl rfl ?_
        go_simp
        refine (X2.out w2).mono ?_
        rintro e w3 ⟨rfl, hb2⟩
        exact ⟨_, rfl, rfl, hb2⟩
      · cases ho
        have d4 := ev (show a1.eval (.tmp 8) = .string c1 from hk.done 4 _ 8 rfl rfl (hdep ⟨4, .data⟩ (by simp) rfl))
        have d8 := ev (show a1.eval (.tmp 12) = .string m2 from hk.done 8 _ 12 rfl rfl (hdep ⟨8, .data⟩ (by simp) rfl))
        refine wpOp_of rfl rfl (wp_value (v := .string c2) ?_ rfl)
        go_simp
      · cases ho
        refine wpOp_of rfl rfl (wp_value (v := .pointer (some ⟨w.heap.size, 2, none⟩)) ?_ rfl)
        go_simp
      · cases ho
        have d10 := ev (show a1.eval (.tmp 14) = .pointer (some ⟨w.heap.size, 2, none⟩) from hk.done 10 _ 14 rfl rfl (hdep ⟨10, .data⟩ (by simp) rfl))
        refine wpOp_of rfl rfl (wp_value (v := .int .i64 (n : Int)) ?_ rfl)
        go_simp
      · cases ho
        have d11 := ev (show a1.eval (.tmp 15) = .int .i64 (n : Int) from hk.done 11 _ 15 rfl rfl (hdep ⟨11, .data⟩ (by simp) rfl))
        refine wpOp_of rfl rfl (wp_value (v := .int .u64 (n : Int)) ?_ rfl)
        go_simp
      · cases ho
        have d12 := ev (show a1.eval (.tmp 16) = .int .u64 (n : Int) from hk.done 12 _ 16 rfl rfl (hdep ⟨12, .data⟩ (by simp) rfl))
        refine wpOp_of rfl rfl ?_
        go_simp
        refine (X3.out w2).mono ?_
        rintro e w3 ⟨rfl, hb2⟩
        exact ⟨_, rfl, rfl, hb2⟩
      · cases ho
        have d9 := ev (show a1.eval (.tmp 13) = .string c2 from hk.done 9 _ 13 rfl rfl (hdep ⟨9, .data⟩ (by simp) rfl))
        have d13 := ev (show a1.eval (.tmp 17) = .string m3 from hk.done 13 _ 17 rfl rfl (hdep ⟨13, .data⟩ (by simp) rfl))
        refine wpOp_of rfl rfl (wp_value (v := .string c3) ?_ rfl)
        go_simp
      · cases ho
        refine wpOp_of rfl rfl (wp_value (v := .pointer (some ⟨w.heap.size, 3, none⟩)) ?_ rfl)
        go_simp
      · cases ho
        have d15 := ev (show a1.eval (.tmp 19) = .pointer (some ⟨w.heap.size, 3, none⟩) from hk.done 15 _ 19 rfl rfl (hdep ⟨15, .data⟩ (by simp) rfl))
        refine wpOp_of rfl rfl (wp_value (v := .int .i64 (p : Int)) ?_ rfl)
        go_simp
      · cases ho
        have d16 := ev (show a1.eval (.tmp 20) = .int .i64 (p : Int) from hk.done 16 _ 20 rfl rfl (hdep ⟨16, .data⟩ (by simp) rfl))
        refine wpOp_of rfl rfl (wp_value (v := .int .u64 (p : Int)) ?_ rfl)
        go_simp
      · cases ho
        have d17 := ev (show a1.eval (.tmp 21) = .int .u64 (p : Int) from hk.done 17 _ 21 rfl rfl (hdep ⟨17, .data⟩ (by simp) rfl))
        refine wpOp_of rfl rfl ?_
        go_simp
        refine (X4.out w2).mono ?_
        rintro e w3 ⟨rfl, hb2⟩
        exact ⟨_, rfl, rfl, hb2⟩
      · cases ho
        have d14 := ev (show a1.eval (.tmp 18) = .string c3 from hk.done 14 _ 18 rfl rfl (hdep ⟨14, .data⟩ (by simp) rfl))
        have d18 := ev (show a1.eval (.tmp 22) = .string m4 from hk.done 18 _ 22 rfl rfl (hdep ⟨18, .data⟩ (by simp) rfl))
        refine wpOp_of rfl rfl (wp_value (v := .string c4) ?_ rfl)
        go_simp
      · cases ho
        have d19 := ev (show a1.eval (.tmp 23) = .string c4 from hk.done 19 _ 23 rfl rfl (hdep ⟨19, .data⟩ (by simp) rfl))
        refine wpOp_of rfl rfl (wp_value (v := .string c4) ?_ rfl)
        simp [execOp, d19, Act.eval]
    case fin1 =>
      intro listed a2 w2 hk hall
      have h3 : a2.eval (.tmp 3) = .string c4 := hk.done 20 _ 3 rfl rfl (hall 20 (by decide))
      have hact := kept_all [4, 5, 6, 7, 8, 9, 10, 11, 12, 13, 14, 15, 16, 17, 18, 19, 20, 21, 22, 23, 3] hk (by kernel_rfl)
      have HB := Lib.hid hk.below
      simp only [List.foldl_cons, List.foldl_nil, List.setIfInBounds_toArray, List.set_cons_succ, List.set_cons_zero] at hact
      generalize a2.eval (.tmp 4) = u4 at hact
      generalize a2.eval (.tmp 5) = u5 at hact
      generalize a2.eval (.tmp 6) = u6 at hact
      generalize a2.eval (.tmp 7) = u7 at hact
      generalize a2.eval (.tmp 8) = u8 at hact
      generalize a2.eval (.tmp 9) = u9 at hact
      generalize a2.eval (.tmp 10) = u10 at hact
      generalize a2.eval (.tmp 11) = u11 at hact
      generalize a2.eval (.tmp 12) = u12 at hact
      generalize a2.eval (.tmp 13) = u13 at hact
      generalize a2.eval (.tmp 14) = u14 at hact
      generalize a2.eval (.tmp 15) = u15 at hact
      generalize a2.eval (.tmp 16) = u16 at hact
      generalize a2.eval (.tmp 17) = u17 at hact
      generalize a2.eval (.tmp 18) = u18 at hact
      generalize a2.eval (.tmp 19) = u19 at hact
      generalize a2.eval (.tmp 20) = u20 at hact
      generalize a2.eval (.tmp 21) = u21 at hact
      generalize a2.eval (.tmp 22) = u22 at hact
      generalize a2.eval (.tmp 23) = u23 at hact
      generalize a2.eval (.tmp 3) = u3 at hact h3
      rw [hact]
      clear hact
      go_wp2
      go_meet
      first | exact ⟨h3, HB.out⟩ | exact ⟨rfl, HB.out⟩
  case rest =>
  obtain ⟨rfl, hbx⟩ := hcut
  have HB1 := Lib.hid (HB0.out.trans (hbx.mono (by omega)))
  clear hbx y1' y2 y3 y4
  go_wp2_with fail
  go_loop [3] (fun s => ∃ k : Nat, k ≤ 41 ∧ s = .string (text (head g h n p ++ noughts8 k))) (fun s => 60 - strLen s)
  case atStart => exact ⟨0, Nat.zero_le _, by rw [HC.out]; simp [noughts8]⟩
  case round =>
    obtain ⟨k, hk, rfl⟩ := hrel
    have hs : (text (head g h n p ++ noughts8 k)).size = 19 + k := by rw [text_size, List.length_append, head_len, noughts8, List.length_replicate]
    have HA : Hid (text (head g h n p ++ noughts8 k) ++ (⟨#[0]⟩ : ByteArray) = text (head g h n p ++ noughts8 (k + 1))) := by
      show _ = _
      rw [show (⟨#[0]⟩ : ByteArray) = text [0] from rfl, text_append, List.append_assoc]
      congr 2
      simp [noughts8, List.replicate_succ']
    have HT := Lib.hid (rfl : text (head g h n p ++ noughts8 k) = text (head g h n p ++ noughts8 k))
    obtain ⟨t, ht⟩ : ∃ t, t = text (head g h n p ++ noughts8 k) := ⟨_, rfl⟩
    rw [← ht] at hs HA ⊢
    have HTT := Lib.hid ht
    clear ht HT
    by_cases hlt : k < 41
    · go_wp2_with fail
      go_round
      case rel => exact ⟨k + 1, by omega, by rw [HA.out]⟩
      case measure => simp [strLen, HA.out, text_size, head_len, noughts8]; omega
    · obtain rfl : k = 41 := by omega
      have HTB : Hid (t = text (body g h n p)) := HTT.out
      clear HTT HA
      go_wp2_with fail
      rw [HTB.out]
      refine (rseal_any (body g h n p) _ (by rw [body_len]; omega)).mono ?_
      rintro e w2 ⟨rfl, hb2⟩
      have HB2 := Lib.hid (step' HB1.out hb2 HB1.out.size)
      clear hb2
      go_wp2_with fail
      go_ret
      exact ⟨rfl, HB2.out⟩
theorem rencS_any (s : Sp) (w : World) (hm : mayB s = true) :
    Calls Try.prog 16 #[sv s] w fun e w' => e = .returned (.string (text (encS s))) ∧ Below w.heap.size w w' := by
  obtain ⟨g, h, n, p⟩ := s
  have hx := may_iff.1 hm
  dsimp only at hx
  obtain ⟨g', rfl⟩ : ∃ k : Nat, g = k := ⟨g.toNat, by omega⟩
  obtain ⟨h', rfl⟩ : ∃ k : Nat, h = k := ⟨h.toNat, by omega⟩
  obtain ⟨n', rfl⟩ : ∃ k : Nat, n = k := ⟨n.toNat, by omega⟩
  obtain ⟨p', rfl⟩ : ∃ k : Nat, p = k := ⟨p.toNat, by omega⟩
  exact renc_yes g' h' n' p' w (by omega) (by omega) (by omega) (by omega)
end Go.Proofs.Ytlieijbjbjnaiaa.Sup
