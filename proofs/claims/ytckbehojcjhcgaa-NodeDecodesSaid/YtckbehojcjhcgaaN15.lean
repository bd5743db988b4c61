/- Contracts: the document's Encode. -/
import Derived.Test.YtckbehojcjhcgaaN12
import Derived.Test.YtckbehojcjhcgaaNAnyB
namespace Go.Proofs.Ytckbehojcjhcgaa.Nod
open Go.RowKit Crc Chk Frm Fra

def strLen : Value → Nat
  | .string t => t.size
  | _ => 0
theorem add_str (a b : ByteArray) (W : World) (h : a.size + b.size ≤ 100000) : (binOp .add 9 (.string a) (.string b)).run Try.prog W = .ok (.string (a ++ b)) W := by
  have h2 : ¬ (9223372036854775807 < (a.size : Int) + (b.size : Int)) := by omega
  simp [binOp, Op.stringOp, h2]
theorem noughts_succ (k : Nat) : noughts8 (k + 1) = noughts8 k ++ [0] := by simp [noughts8, List.replicate_succ']
set_option maxRecDepth 20000 in
set_option maxHeartbeats 6400000 in
theorem renc_any (n : Nd) (A1 : Option Addr) (n1 c1 : Nat) (A2 : Option Addr) (n2 c2 : Nat) (A3 : Option Addr) (n3 c3 : Nat) (w : World) (h : IsN w w.heap.size n A1 n1 c1 A2 n2 c2 A3 n3 c3) (hm : mayB n = true) :
    Calls Try.prog 18 #[nv A1 n1 c1 A2 n2 c2 A3 n3 c3] w fun e w' => e = .returned (.string (text (pageL n))) ∧ Below w.heap.size w w' := by
  obtain ⟨W0, hW0⟩ : ∃ W0, W0 = w.alloc (.cells #[.slice A1 n1 c1, .slice A2 n2 c2, .slice A3 n3 c3] 26) := ⟨_, rfl⟩
  have HF : Hid (BoxN w.heap.size A1 n1 c1 A2 n2 c2 A3 n3 c3 W0) := by rw [hW0]; exact boxN_new w ..
  have HB0 : Hid (Below w.heap.size w W0) := by rw [hW0]; exact (Below.refl _ _).alloc (Nat.le_refl _) _
  have hz0 : w.heap.size < W0.heap.size := by rw [hW0, alloc_size]; omega
  have HN : Hid (IsN W0 W0.heap.size n A1 n1 c1 A2 n2 c2 A3 n3 c3) := (h.below HB0.out (Nat.le_refl _)).more (by omega)
  have hl1 := h.l1
  have hl2 := h.l2
  have hl3 := h.l3
  have b1 : n1 ≤ 5 := by
    rw [← hl1]
    by_cases e : n.cs.length = 0
    · exact (may_leaf hm e).2.2.1
    · rw [(may_inner hm e).1]; simp
  have b3 : n3 ≤ 8 := by
    rw [← hl3]
    by_cases e : n.cs.length = 0
    · omega
    · exact (may_inner hm e).2.2.1
  have b2 : n2 ≤ 8 := by
    rw [← hl2]
    by_cases e : n.cs.length = 0
    · rw [(may_leaf hm e).1]; simp
    · have := (may_inner hm e).2.2.2.1; omega
  have HPL : Hid (∀ p ∈ n.ps, p.1.length ≤ 24 ∧ p.2.length ≤ 60) := by
    by_cases e : n.cs.length = 0
    · exact (may_leaf hm e).2.2.2
    · rw [(may_inner hm e).1]; intro p hp; cases hp
  have HKL : Hid (∀ k ∈ n.ks, k.length ≤ 24) := by
    by_cases e : n.cs.length = 0
    · rw [(may_leaf hm e).1]; intro p hp; cases hp
    · exact (may_inner hm e).2.2.2.2.1
  have HCL : Hid (∀ c ∈ n.cs, 0 ≤ c ∧ c < 200) := by
    by_cases e : n.cs.length = 0
    · rw [(may_leaf hm e).2.1]; intro p hp; cases hp
    · exact (may_inner hm e).2.2.2.2.2
  have HLL := Lib.hid (lay_len hm)
  have HBL := Lib.hid (body_len hm)
  have HH : Hid (headL n = be 1 n3 ++ if n3 = 0 then be 1 n1 else []) := by show _ = _; unfold headL; rw [hl1, hl3]
  have X3 : Hid (∀ W, Calls Try.prog 28 #[.int .u64 n3, .int .i64 1] W fun e w' => e = .returned (.string (text (be 1 n3))) ∧ Below W.heap.size W w') := fun W => wide_any n3 1 W (by omega) (by omega)
  have X1 : Hid (∀ W, Calls Try.prog 28 #[.int .u64 n1, .int .i64 1] W fun e w' => e = .returned (.string (text (be 1 n1))) ∧ Below W.heap.size W w') := fun W => wide_any n1 1 W (by omega) (by omega)
  have w3 : IntKind.u64.wrap (n3 : Int) = n3 := by rw [IntKind.wrap_u64]; omega
  have w1 : IntKind.u64.wrap (n1 : Int) = n1 := by rw [IntKind.wrap_u64]; omega
  have HW0 := Lib.hid hW0
  have HL1 := Lib.hid hl1
  have HL2 := Lib.hid hl2
  have HL3 := Lib.hid hl3
  clear hW0 h hm hl1 hl2 hl3
  obtain ⟨k0, k1, k2, -⟩ := HF.out.cells
  obtain ⟨t3, ht3⟩ : ∃ t, t = text (be 1 n3) := ⟨_, rfl⟩
  obtain ⟨t1, ht1⟩ : ∃ t, t = text (be 1 n1) := ⟨_, rfl⟩
  rw [← ht3] at X3
  rw [← ht1] at X1
  have z3 : t3.size = 1 := by rw [ht3, text_size, be_len]
  have z1 : t1.size = 1 := by rw [ht1, text_size, be_len]
  have HT3 := Lib.hid ht3
  have HT1 := Lib.hid ht1
  clear ht3 ht1
  go_enter Try.func18, Try.ntmps18
  go_upto_region 1 with fail
  rw [← HW0.out]
  go_wp2_with fail
  refine (X3.out _).mono ?_
  rintro e w4 ⟨rfl, hb4⟩
  have HB4 : Hid (Below W0.heap.size W0 w4) := hb4
  clear hb4 k0 k1 k2
  obtain ⟨k0, k1, k2, -⟩ := (HF.out.below HB4.out hz0).cells
  go_upto_if 15 with fail
  go_cut [3] (fun s3 wx => s3 = .string (text (headL n)) ∧ Below W0.heap.size W0 wx)
  case first =>
    by_cases h3 : n3 = 0
    · rw [if_pos h3] at HH
      subst h3
      have HC : Hid (t3 ++ t1 = text (headL n)) := by show _ = _; rw [HT3.out, HT1.out, text_append, HH.out]
      go_wp2_with fail
      refine (X1.out _).mono ?_
      rintro e w5 ⟨rfl, hb5⟩
      have HB5 := Lib.hid (step' HB4.out hb5 HB4.out.size)
      clear hb5
      go_wp2_with fail
      go_meet
      exact ⟨by rw [← HC.out], HB5.out⟩
    · rw [if_neg h3, List.append_nil] at HH
      go_wp2_with fail
      go_meet
      exact ⟨by rw [HH.out, ← HT3.out], HB4.out⟩
  case rest =>
  obtain ⟨rfl, hbx⟩ := hcut
  obtain ⟨w5, rfl⟩ : ∃ x, x = wc := ⟨wc, rfl⟩
  have HB5 := Lib.hid hbx
  clear hbx k0 k1 k2 HB4 X3 X1 HT3 HT1
  go_wp2_with fail
  go_loopw [3, 4] (fun y i wr => ∃ k : Nat, k ≤ n1 ∧ i = .int .i64 k ∧ y = .string (text (headL n ++ pairsL (n.ps.take k))) ∧ Hid (Below W0.heap.size W0 wr)) (fun _ i _ => n1 - (intOf i).toNat)
  case atStart => exact ⟨0, Nat.zero_le _, rfl, by simp [pairsL], HB5.out⟩
  case round =>
    obtain ⟨k, hk, rfl, rfl, HB⟩ := hrel
    obtain ⟨k0, k1, k2, -⟩ := (HF.out.below HB.out hz0).cells
    have hwr := HB.out.size
    by_cases hlt : k < n1
    · have hlt' : k < n.ps.length := by rw [HL1.out]; exact hlt
      have HP := HN.out.ps
      obtain ⟨b0, o0, rfl, hb1, hc0, hd0⟩ := HP k hlt'
      have hc := (HB.out.cell (p := ⟨b0, o0 + k * 2, none⟩) hb1).trans hc0
      have hd := (HB.out.cell (p := ⟨b0, o0 + k * 2 + 1, none⟩) hb1).trans hd0
      have hlen := HPL.out _ (List.getElem_mem hlt')
      have hpl := pairs_len (n.ps.take k) (fun p hp => HPL.out p (List.mem_of_mem_take hp))
      have hhl := head_len n
      have htk : (n.ps.take k).length ≤ 5 := by rw [List.length_take]; omega
      have HT1 := Lib.hid (fun W => rtext_any n.ps[k].1 W (by omega))
      have HT2 := Lib.hid (fun W => rtext_any n.ps[k].2 W (by omega))
      have hs0 : (text (headL n ++ pairsL (n.ps.take k))).size ≤ 1000 := by rw [text_size, List.length_append]; omega
      have hsa : (text (textL n.ps[k].1)).size ≤ 1000 := by rw [text_size, textL_len]; omega
      have hsb : (text (textL n.ps[k].2)).size ≤ 1000 := by rw [text_size, textL_len]; omega
      have HS := Lib.hid (pairs_succ n.ps k hlt')
      obtain ⟨s1, hs1⟩ : ∃ t, t = text (headL n ++ pairsL (n.ps.take (k + 1))) := ⟨_, rfl⟩
      have HEq := Lib.hid hs1
      have hadd : text (headL n ++ pairsL (n.ps.take k)) ++ (text (textL n.ps[k].1) ++ text (textL n.ps[k].2)) = s1 := by rw [hs1, HS.out, text_append, text_append]; simp
      obtain ⟨s0, hs0'⟩ : ∃ t, t = text (headL n ++ pairsL (n.ps.take k)) := ⟨_, rfl⟩
      obtain ⟨ta, hta⟩ : ∃ t, t = text (textL n.ps[k].1) := ⟨_, rfl⟩
      obtain ⟨ub, hub⟩ : ∃ t, t = text (textL n.ps[k].2) := ⟨_, rfl⟩
      obtain ⟨t, ht⟩ : ∃ t, t = text n.ps[k].1 := ⟨_, rfl⟩
      obtain ⟨u, hu⟩ : ∃ t, t = text n.ps[k].2 := ⟨_, rfl⟩
      rw [← hs0', ← hta, ← hub] at hadd
      rw [← hs0'] at hs0 ⊢
      rw [← hta] at hsa
      rw [← hub] at hsb
      rw [← ht, ← hta] at HT1
      rw [← hu, ← hub] at HT2
      rw [← ht] at hc
      rw [← hu] at hd
      obtain ⟨ab, hab⟩ : ∃ x, ta ++ ub = x := ⟨_, rfl⟩
      have hsab : ab.size ≤ 2000 := by rw [← hab, ByteArray.size_append]; omega
      rw [hab] at hadd
      have hr1 : ∀ W, (binOp .add 9 (.string ta) (.string ub)).run Try.prog W = .ok (.string ab) W := fun W => by rw [add_str ta ub W (by omega), hab]
      have hr2 : ∀ W, (binOp .add 9 (.string s0) (.string ab)).run Try.prog W = .ok (.string s1) W := fun W => by rw [add_str s0 ab W (by omega), hadd]
      have hbb : b0 < wr.heap.size := by omega
      have hzz : w.heap.size < wr.heap.size := by omega
      clear hs1 hs0' hta hub ht hu hlt' HP hc0 hd0 hlen hpl hhl htk HS
      go_upto_region 7 with fail
      refine wp_region_chain2 (by kernel_rfl) (fun i => [.string s0, .pointer (some ⟨w.heap.size, 0, none⟩), .slice (some ⟨b0, o0, none⟩) n1 c1, .int .i64 k, .pointer (some ⟨b0, o0 + k * 2, none⟩), .pointer (some ⟨b0, o0 + k * 2, none⟩), .string t, .string ta, .pointer (some ⟨w.heap.size, 0, none⟩), .slice (some ⟨b0, o0, none⟩) n1 c1, .int .i64 k, .pointer (some ⟨b0, o0 + k * 2, none⟩), .pointer (some ⟨b0, o0 + k * 2 + 1, none⟩), .string u, .string ub, .string ab, .string s1, .string s1].getD i undef) [7, 14] []
        (fun _ x => x.cell? ⟨w.heap.size, 0, none⟩ = some (.slice (some ⟨b0, o0, none⟩) n1 c1) ∧ x.cell? ⟨b0, o0 + k * 2, none⟩ = some (.string t) ∧ x.cell? ⟨b0, o0 + k * 2 + 1, none⟩ = some (.string u) ∧ Below wr.heap.size wr x)
        ⟨k0, hc, hd, below_drewN wr 1⟩ (by kernel_rfl) (backsB_spec (by kernel_rfl)) (by kernel_rfl) (by decide) (by decide) ?pure7 ?acts7 ?fin7
      case pure7 =>
        intro i vs o listed a1 x hic ho hR hkle hlen hk hund hdep
        obtain ⟨q0, q1, q2, q3⟩ := hR
        have hi : i < 18 := (Array.getElem?_eq_some_iff.1 ho).1
        have e1 := ev (show a1.eval (.tmp 1) = .pointer (some ⟨w.heap.size, 0, none⟩) from hk.frame 1 (frame_of (by kernel_rfl)))
        have e4 := ev (show a1.eval (.tmp 4) = .int .i64 k from hk.frame 4 (frame_of (by kernel_rfl)))
        have hii : i = 0 ∨ i = 1 ∨ i = 2 ∨ i = 3 ∨ i = 4 ∨ i = 5 ∨ i = 6 ∨ i = 8 ∨ i = 9 ∨ i = 10 ∨ i = 11 ∨ i = 12 ∨ i = 13 ∨ i = 15 ∨ i = 16 ∨ i = 17 := by simp at hic; omega
        rcases hii with rfl | rfl | rfl | rfl | rfl | rfl | rfl | rfl | rfl | rfl | rfl | rfl | rfl | rfl | rfl | rfl
        · cases ho
          have e3 := ev (show a1.eval (.tmp 3) = .string s0 from hund 17 _ 3 rfl rfl (by kernel_rfl))
          exact ⟨rfl, by simp [execOp, e3, Act.eval]⟩
        · cases ho
          exact ⟨rfl, by go_simp⟩
        · cases ho
          have d1 := ev (show a1.eval (.tmp 31) = .pointer (some ⟨w.heap.size, 0, none⟩) from hk.done 1 _ 31 rfl rfl (hdep ⟨1, .data⟩ (by simp) rfl) (by decide))
          exact ⟨rfl, by go_simp⟩
        · cases ho
          exact ⟨rfl, by simp [execOp, e4, Act.eval]⟩
        · cases ho
          have d2 := ev (show a1.eval (.tmp 32) = .slice (some ⟨b0, o0, none⟩) n1 c1 from hk.done 2 _ 32 rfl rfl (hdep ⟨2, .data⟩ (by simp) rfl) (by decide))
          have d3 := ev (show a1.eval (.tmp 33) = .int .i64 k from hk.done 3 _ 33 rfl rfl (hdep ⟨3, .data⟩ (by simp) rfl) (by decide))
          exact ⟨rfl, by go_simp⟩
        · cases ho
          have d4 := ev (show a1.eval (.tmp 34) = .pointer (some ⟨b0, o0 + k * 2, none⟩) from hk.done 4 _ 34 rfl rfl (hdep ⟨4, .data⟩ (by simp) rfl) (by decide))
          exact ⟨rfl, by go_simp⟩
        · cases ho
          have d5 := ev (show a1.eval (.tmp 35) = .pointer (some ⟨b0, o0 + k * 2, none⟩) from hk.done 5 _ 35 rfl rfl (hdep ⟨5, .data⟩ (by simp) rfl) (by decide))
          exact ⟨rfl, by go_simp⟩
        · cases ho
          exact ⟨rfl, by go_simp⟩
        · cases ho
          have d8 := ev (show a1.eval (.tmp 38) = .pointer (some ⟨w.heap.size, 0, none⟩) from hk.done 8 _ 38 rfl rfl (hdep ⟨8, .data⟩ (by simp) rfl) (by decide))
          exact ⟨rfl, by go_simp⟩
        · cases ho
          exact ⟨rfl, by simp [execOp, e4, Act.eval]⟩
        · cases ho
          have d9 := ev (show a1.eval (.tmp 39) = .slice (some ⟨b0, o0, none⟩) n1 c1 from hk.done 9 _ 39 rfl rfl (hdep ⟨9, .data⟩ (by simp) rfl) (by decide))
          have d10 := ev (show a1.eval (.tmp 40) = .int .i64 k from hk.done 10 _ 40 rfl rfl (hdep ⟨10, .data⟩ (by simp) rfl) (by decide))
          exact ⟨rfl, by go_simp⟩
        · cases ho
          have d11 := ev (show a1.eval (.tmp 41) = .pointer (some ⟨b0, o0 + k * 2, none⟩) from hk.done 11 _ 41 rfl rfl (hdep ⟨11, .data⟩ (by simp) rfl) (by decide))
          exact ⟨rfl, by go_simp⟩
        · cases ho
          have d12 := ev (show a1.eval (.tmp 42) = .pointer (some ⟨b0, o0 + k * 2 + 1, none⟩) from hk.done 12 _ 42 rfl rfl (hdep ⟨12, .data⟩ (by simp) rfl) (by decide))
          exact ⟨rfl, by go_simp⟩
        · cases ho
          have d7 := ev (show a1.eval (.tmp 37) = .string ta from hk.done 7 _ 37 rfl rfl (hdep ⟨7, .data⟩ (by simp) rfl) (by decide))
          have d14 := ev (show a1.eval (.tmp 44) = .string ub from hk.done 14 _ 44 rfl rfl (hdep ⟨14, .data⟩ (by simp) rfl) (by decide))
          refine ⟨rfl, ?_⟩
          clear hr1 hr2
          have hn1 : ¬ (9223372036854775807 < (ta.size : Int) + (ub.size : Int)) := by omega
          go_simp
          omega
        · cases ho
          have d0 := ev (show a1.eval (.tmp 30) = .string s0 from hk.done 0 _ 30 rfl rfl (hdep ⟨0, .data⟩ (by simp) rfl) (by decide))
          have d15 := ev (show a1.eval (.tmp 45) = .string ab from hk.done 15 _ 45 rfl rfl (hdep ⟨15, .data⟩ (by simp) rfl) (by decide))
          refine ⟨rfl, ?_⟩
          clear hr1 hr2
          have hn1 : ¬ (9223372036854775807 < (s0.size : Int) + (ab.size : Int)) := by omega
          go_simp
          omega
        · cases ho
          have d16 := ev (show a1.eval (.tmp 46) = .string s1 from hk.done 16 _ 46 rfl rfl (hdep ⟨16, .data⟩ (by simp) rfl) (by decide))
          exact ⟨rfl, by simp [execOp, d16, Act.eval]⟩
      case acts7 =>
        intro i vs o listed a1 x hj ho hev hR hk hund hdep
        obtain ⟨q0, q1, q2, q3⟩ := hR
        have hjj : vs.length = 0 ∨ vs.length = 1 := by
          have := (List.getElem?_eq_some_iff.1 hj).1
          simp at this; omega
        rcases hjj with hj0 | hj0
        · rw [hj0] at hj
          cases hj
          cases ho
          have d6 := ev (show a1.eval (.tmp 36) = .string t from hk.done 6 _ 36 rfl rfl (hdep ⟨6, .data⟩ (by simp) rfl) (by decide))
          refine ⟨rfl, ?_⟩
          go_simp
          refine (HT1.out x).mono ?_
          rintro e x' ⟨rfl, hb⟩
          exact ⟨_, rfl, rfl, (hb.cell (p := ⟨w.heap.size, 0, none⟩) (show w.heap.size < x.heap.size by have := q3.size; omega)).trans q0, (hb.cell (p := ⟨b0, o0 + k * 2, none⟩) (show b0 < x.heap.size by have := q3.size; omega)).trans q1, (hb.cell (p := ⟨b0, o0 + k * 2 + 1, none⟩) (show b0 < x.heap.size by have := q3.size; omega)).trans q2, step' q3 hb q3.size⟩
        · rw [hj0] at hj
          cases hj
          cases ho
          have d13 := ev (show a1.eval (.tmp 43) = .string u from hk.done 13 _ 43 rfl rfl (hdep ⟨13, .data⟩ (by simp) rfl) (by decide))
          refine ⟨rfl, ?_⟩
          go_simp
          refine (HT2.out x).mono ?_
          rintro e x' ⟨rfl, hb⟩
          exact ⟨_, rfl, rfl, (hb.cell (p := ⟨w.heap.size, 0, none⟩) (show w.heap.size < x.heap.size by have := q3.size; omega)).trans q0, (hb.cell (p := ⟨b0, o0 + k * 2, none⟩) (show b0 < x.heap.size by have := q3.size; omega)).trans q1, (hb.cell (p := ⟨b0, o0 + k * 2 + 1, none⟩) (show b0 < x.heap.size by have := q3.size; omega)).trans q2, step' q3 hb q3.size⟩
      case fin7 =>
        intro vs listed a2 x hall hlen hev hR hk
        have h3 : a2.eval (.tmp 3) = .string s1 := hk.done 17 _ 3 rfl rfl (hall 17 (by decide)) (by decide)
        have hact := fr_all [30, 31, 32, 33, 34, 35, 36, 37, 38, 39, 40, 41, 42, 43, 44, 45, 46, 3] hk (by kernel_rfl)
        have HBx := Lib.hid (step' HB.out hR.2.2.2 HB.out.size)
        simp only [List.foldl_cons, List.foldl_nil, List.setIfInBounds_toArray, List.set_cons_succ, List.set_cons_zero] at hact
        rw [h3] at hact
        generalize a2.eval (.tmp 30) = u30 at hact
        generalize a2.eval (.tmp 31) = u31 at hact
        generalize a2.eval (.tmp 32) = u32 at hact
        generalize a2.eval (.tmp 33) = u33 at hact
        generalize a2.eval (.tmp 34) = u34 at hact
        generalize a2.eval (.tmp 35) = u35 at hact
        generalize a2.eval (.tmp 36) = u36 at hact
        generalize a2.eval (.tmp 37) = u37 at hact
        generalize a2.eval (.tmp 38) = u38 at hact
        generalize a2.eval (.tmp 39) = u39 at hact
        generalize a2.eval (.tmp 40) = u40 at hact
        generalize a2.eval (.tmp 41) = u41 at hact
        generalize a2.eval (.tmp 42) = u42 at hact
        generalize a2.eval (.tmp 43) = u43 at hact
        generalize a2.eval (.tmp 44) = u44 at hact
        generalize a2.eval (.tmp 45) = u45 at hact
        generalize a2.eval (.tmp 46) = u46 at hact
        clear hev hR hk hall h3 k0 k1 k2 hc hd
        rw [hact]
        clear hact
        go_wp2_with fail
        go_roundw
        case rel => exact ⟨k + 1, by omega, by go_num, by rw [HEq.out], HBx.out⟩
        case measure => simp [intOf]; omega
    · obtain rfl : k = n1 := by omega
      have HA : Hid (text (headL n ++ pairsL (n.ps.take k)) = text (headL n ++ pairsL n.ps)) := by show _ = _; rw [← HL1.out, List.take_length]
      rw [HA.out]
      obtain ⟨m, hm⟩ : ∃ m, m = headL n ++ pairsL n.ps := ⟨_, rfl⟩
      rw [← hm]
      have HM := Lib.hid hm
      have hml : m.length ≤ 500 := by
        have h1 := pairs_len n.ps HPL.out
        have h2 := head_len n
        have h3 := HL1.out
        rw [hm, List.length_append]; omega
      obtain ⟨wl, rfl⟩ : ∃ y, y = wr := ⟨wr, rfl⟩
      have HBl : Hid (Below W0.heap.size W0 wl) := HB.out
      clear hm HA HB
      go_wp2_with fail
      clear k0 k1 k2
      go_loopw [3, 5] (fun y i wr => ∃ j : Nat, j ≤ n3 ∧ i = .int .i64 j ∧ y = .string (text (m ++ kidsL (n.cs.take j))) ∧ Hid (Below W0.heap.size W0 wr)) (fun _ i _ => n3 - (intOf i).toNat)
      case atStart => exact ⟨0, Nat.zero_le _, rfl, by simp [kidsL], HBl.out⟩
      case round =>
        obtain ⟨j, hj, rfl, rfl, HB⟩ := hrel
        obtain ⟨k0, k1, k2, -⟩ := (HF.out.below HB.out hz0).cells
        have hwr := HB.out.size
        by_cases hlt : j < n3
        · have hlt' : j < n.cs.length := by rw [HL3.out]; exact hlt
          have HC := HN.out.cs
          obtain ⟨b0, o0, rfl, hb1, hc0, -, -⟩ := HC j hlt'
          have hc := (HB.out.cell (p := ⟨b0, o0 + j, none⟩) hb1).trans hc0
          have HS := Lib.hid (kids_succ n.cs j hlt')
          obtain ⟨g1, g2⟩ := HCL.out _ (List.getElem_mem hlt')
          have hkl := kidsL_len (n.cs.take j)
          have htk : (n.cs.take j).length ≤ 8 := by rw [List.length_take]; omega
          obtain ⟨x, hx⟩ : ∃ x, x = n.cs[j] := ⟨_, rfl⟩
          rw [← hx] at hc HS g1 g2
          have HX : Hid (∀ W, Calls Try.prog 28 #[.int .u64 x, .int .i64 2] W fun e w' => e = .returned (.string (text (be 2 x.toNat))) ∧ Below W.heap.size W w') := fun W => by
            have := wide_any x.toNat 2 W (by omega) (by omega)
            rwa [show ((x.toNat : Nat) : Int) = x by omega] at this
          have hwx : IntKind.u64.wrap x = x := by rw [IntKind.wrap_u64]; omega
          have hs0 : (text (m ++ kidsL (n.cs.take j))).size ≤ 1000 := by rw [text_size, List.length_append]; omega
          have hsa : (text (be 2 x.toNat)).size ≤ 1000 := by rw [text_size, be_len]; omega
          obtain ⟨s1, hs1⟩ : ∃ t, t = text (m ++ kidsL (n.cs.take (j + 1))) := ⟨_, rfl⟩
          have HEq := Lib.hid hs1
          have HA : Hid (text (m ++ kidsL (n.cs.take j)) ++ text (be 2 x.toNat) = s1) := by show _ = _; rw [hs1, HS.out, text_append]; simp
          obtain ⟨s0, hs0'⟩ : ∃ t, t = text (m ++ kidsL (n.cs.take j)) := ⟨_, rfl⟩
          obtain ⟨ta, hta⟩ : ∃ t, t = text (be 2 x.toNat) := ⟨_, rfl⟩
          rw [← hs0', ← hta] at HA
          rw [← hs0'] at hs0 ⊢
          rw [← hta] at hsa HX
          clear hs1 hs0' hta hx hlt' HC hc0 hkl htk HS
          go_wp2_with fail
          refine (HX.out _).mono ?_
          rintro e w6 ⟨rfl, hb6⟩
          have HB6 := Lib.hid (step' HB.out hb6 HB.out.size)
          clear hb6 k0 k1 k2 hc
          go_wp2_with fail
          go_roundw
          case rel => exact ⟨j + 1, by omega, by go_num, by rw [HA.out, HEq.out], HB6.out⟩
          case measure => simp [intOf]; omega
        · obtain rfl : j = n3 := by omega
          have HA : Hid (text (m ++ kidsL (n.cs.take j)) = text (m ++ kidsL n.cs)) := by show _ = _; rw [← HL3.out, List.take_length]
          rw [HA.out]
          obtain ⟨q, hq⟩ : ∃ m', m' = m ++ kidsL n.cs := ⟨_, rfl⟩
          rw [← hq]
          have HQ := Lib.hid hq
          have hql : q.length ≤ 600 := by
            have h1 := kidsL_len n.cs
            have h3 := HL3.out
            rw [hq, List.length_append]; omega
          obtain ⟨wm, rfl⟩ : ∃ y, y = wr := ⟨wr, rfl⟩
          have HBm : Hid (Below W0.heap.size W0 wm) := HB.out
          clear hq HA HB
          go_wp2_with fail
          clear k0 k1 k2
          go_loopw [3, 6] (fun y i wr => ∃ j : Nat, j ≤ n2 ∧ i = .int .i64 j ∧ y = .string (text (q ++ keysL (n.ks.take j))) ∧ Hid (Below W0.heap.size W0 wr)) (fun _ i _ => n2 - (intOf i).toNat)
          case atStart => exact ⟨0, Nat.zero_le _, rfl, by simp [keysL], HBm.out⟩
          case round =>
            obtain ⟨j, hj, rfl, rfl, HB⟩ := hrel
            obtain ⟨k0, k1, k2, -⟩ := (HF.out.below HB.out hz0).cells
            have hwr := HB.out.size
            by_cases hlt : j < n2
            · have hlt' : j < n.ks.length := by rw [HL2.out]; exact hlt
              have HK := HN.out.ks
              obtain ⟨b0, o0, rfl, hb1, hc0⟩ := HK j hlt'
              have hc := (HB.out.cell (p := ⟨b0, o0 + j, none⟩) hb1).trans hc0
              have HS := Lib.hid (keys_succ n.ks j hlt')
              have hkl := HKL.out _ (List.getElem_mem hlt')
              have hkk := keys_len (n.ks.take j) (fun p hp => HKL.out p (List.mem_of_mem_take hp))
              have htk : (n.ks.take j).length ≤ 8 := by rw [List.length_take]; omega
              have HX := Lib.hid (fun W => rtext_any n.ks[j] W (by omega))
              have hs0 : (text (q ++ keysL (n.ks.take j))).size ≤ 1000 := by rw [text_size, List.length_append]; omega
              have hsa : (text (textL n.ks[j])).size ≤ 1000 := by rw [text_size, textL_len]; omega
              obtain ⟨s1, hs1⟩ : ∃ t, t = text (q ++ keysL (n.ks.take (j + 1))) := ⟨_, rfl⟩
              have HEq := Lib.hid hs1
              have HA : Hid (text (q ++ keysL (n.ks.take j)) ++ text (textL n.ks[j]) = s1) := by show _ = _; rw [hs1, HS.out, text_append]; simp
              obtain ⟨s0, hs0'⟩ : ∃ t, t = text (q ++ keysL (n.ks.take j)) := ⟨_, rfl⟩
              obtain ⟨ta, hta⟩ : ∃ t, t = text (textL n.ks[j]) := ⟨_, rfl⟩
              obtain ⟨t, ht⟩ : ∃ t, t = text n.ks[j] := ⟨_, rfl⟩
              rw [← hs0', ← hta] at HA
              rw [← hs0'] at hs0 ⊢
              rw [← hta] at hsa
              rw [← hta, ← ht] at HX
              rw [← ht] at hc
              clear hs1 hs0' hta ht hlt' HK hc0 hkl hkk htk HS
              go_wp2_with fail
              refine (HX.out _).mono ?_
              rintro e w6 ⟨rfl, hb6⟩
              have HB6 := Lib.hid (step' HB.out hb6 HB.out.size)
              clear hb6 k0 k1 k2 hc
              go_wp2_with fail
              go_roundw
              case rel => exact ⟨j + 1, by omega, by go_num, by rw [HA.out, HEq.out], HB6.out⟩
              case measure => simp [intOf]; omega
            · obtain rfl : j = n2 := by omega
              have HA : Hid (text (q ++ keysL (n.ks.take j)) = text (layL n)) := by
                show _ = _
                rw [← HL2.out, List.take_length, HQ.out, HM.out]; rfl
              rw [HA.out]
              obtain ⟨wo, rfl⟩ : ∃ y, y = wr := ⟨wr, rfl⟩
              have HBo : Hid (Below W0.heap.size W0 wo) := HB.out
              obtain ⟨l, hl⟩ : ∃ l, l = layL n := ⟨_, rfl⟩
              have HLb : Hid (bodyL n = l ++ noughts8 (508 - l.length)) := by show _ = _; rw [hl]; rfl
              have hll : l.length ≤ 432 := by rw [hl]; exact HLL.out
              rw [← hl]
              clear HA HB hl
              go_wp2_with fail
              clear k0 k1 k2
              go_loop [3] (fun s => ∃ k : Nat, l.length + k ≤ 508 ∧ s = .string (text (l ++ noughts8 k))) (fun s => 508 - strLen s)
              case atStart => exact ⟨0, by omega, by simp [noughts8]⟩
              case round =>
                obtain ⟨k, hk, rfl⟩ := hrel
                have hs : (text (l ++ noughts8 k)).size = l.length + k := by rw [text_size, List.length_append, noughts8, List.length_replicate]
                have HA : Hid (text (l ++ noughts8 k) ++ (⟨#[0]⟩ : ByteArray) = text (l ++ noughts8 (k + 1))) := by
                  show _ = _
                  rw [show (⟨#[0]⟩ : ByteArray) = text [0] from rfl, text_append, noughts_succ, List.append_assoc]
                have HTT := Lib.hid (rfl : text (l ++ noughts8 k) = text (l ++ noughts8 k))
                obtain ⟨t, ht⟩ : ∃ t, t = text (l ++ noughts8 k) := ⟨_, rfl⟩
                rw [← ht] at hs HA ⊢
                have HT := Lib.hid ht
                clear ht HTT
                by_cases hlt : l.length + k < 508
                · go_wp2_with fail
                  go_round
                  case rel => exact ⟨k + 1, by omega, by rw [HA.out]⟩
                  case measure => simp [strLen, HA.out, text_size, noughts8]; omega
                · have HTB : Hid (t = text (bodyL n)) := by
                    show _ = _
                    rw [HT.out, HLb.out, show 508 - l.length = k by omega]
                  clear HT HA
                  go_wp2_with fail
                  rw [HTB.out]
                  refine (rseal_any (bodyL n) _ (by rw [HBL.out]; omega)).mono ?_
                  rintro e w7 ⟨rfl, hb7⟩
                  have HB7 := Lib.hid (step' HBo.out hb7 HBo.out.size)
                  clear hb7
                  go_wp2_with fail
                  go_ret
                  exact ⟨rfl, HB0.out.trans (HB7.out.mono (by omega))⟩
end Go.Proofs.Ytckbehojcjhcgaa.Nod
