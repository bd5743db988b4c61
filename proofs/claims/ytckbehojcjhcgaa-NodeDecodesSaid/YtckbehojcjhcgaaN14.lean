/- Contracts: the document's Same. -/
import Derived.Test.YtckbehojcjhcgaaN12
namespace Go.Proofs.Ytckbehojcjhcgaa.Nod
open Go.RowKit Crc Chk Frm Fra

theorem take_next {α : Type} {l m : List α} {k : Nat} (h : l.take k = m.take k) (h1 : k < l.length) (h2 : k < m.length) (e : l[k] = m[k]) : l.take (k + 1) = m.take (k + 1) := by
  rw [List.take_succ_eq_append_getElem h1, List.take_succ_eq_append_getElem h2, h, e]
theorem take_all {α : Type} {l m : List α} {k : Nat} (h : l.take k = m.take k) (h1 : l.length = k) (h2 : m.length = k) : l = m := by
  rwa [List.take_of_length_le (by omega), List.take_of_length_le (by omega)] at h
theorem nd_ext {n m : Nd} (h1 : n.ps = m.ps) (h2 : n.ks = m.ks) (h3 : n.cs = m.cs) : n = m := by
  obtain ⟨a, b, c⟩ := n
  obtain ⟨d, e, f⟩ := m
  simp only at h1 h2 h3
  rw [h1, h2, h3]
theorem two_boxes (w : World) (A1 : Option Addr) (n1 c1 : Nat) (A2 : Option Addr) (n2 c2 : Nat) (A3 : Option Addr) (n3 c3 : Nat) (B1 : Option Addr) (m1 d1 : Nat) (B2 : Option Addr) (m2 d2 : Nat) (B3 : Option Addr) (m3 d3 : Nat) :
    ∃ W, W = (w.alloc (.cells #[.slice A1 n1 c1, .slice A2 n2 c2, .slice A3 n3 c3] 26)).alloc (.cells #[.slice B1 m1 d1, .slice B2 m2 d2, .slice B3 m3 d3] 26) ∧ BoxN w.heap.size A1 n1 c1 A2 n2 c2 A3 n3 c3 W ∧ BoxN (w.heap.size + 1) B1 m1 d1 B2 m2 d2 B3 m3 d3 W ∧ Below w.heap.size w W ∧ W.heap.size = w.heap.size + 2 := by
  refine ⟨_, rfl, ?_, ?_, ((Below.refl _ _).alloc (Nat.le_refl _) _).alloc (by rw [alloc_size]; omega) _, by rw [alloc_size, alloc_size]⟩
  · exact (Below.heap_alloc _ _ w.heap.size (by rw [alloc_size]; omega)).trans (boxN_new w ..)
  · have := boxN_new (w.alloc (.cells #[.slice A1 n1 c1, .slice A2 n2 c2, .slice A3 n3 c3] 26)) B1 m1 d1 B2 m2 d2 B3 m3 d3
    rw [alloc_size] at this
    exact this
theorem exec_b {P : Program} {x : Sem Value} {w : World} {b : Bool} (h : x.run P w = .ok (.bool b) w) : (do pure (Next.value (← x)) : Sem Next).run P w = .ok (.value (.bool b)) w := by
  simp [h, Result.andThen]
theorem neq_int (a b : Int) (W : World) : (binOp .neq 3 (.int .i64 a) (.int .i64 b)).run Try.prog W = .ok (.bool (a != b)) W := by simp [go_sem]
theorem neq_pair (t u t2 u2 : ByteArray) (W : World) : (binOp .neq 49 (.agg #[.string t, .string u]) (.agg #[.string t2, .string u2])).run Try.prog W = .ok (.bool (!((t.toList == t2.toList) && (u.toList == u2.toList)))) W := by
  by_cases h1 : t.toList = t2.toList
  · by_cases h2 : u.toList = u2.toList
    · simp [go_sem, h1, h2]
    · simp [go_sem, h1, h2]
  · simp [go_sem, h1]
set_option maxRecDepth 20000 in
set_option maxHeartbeats 6400000 in
theorem same_any (n m : Nd) (A1 : Option Addr) (n1 c1 : Nat) (A2 : Option Addr) (n2 c2 : Nat) (A3 : Option Addr) (n3 c3 : Nat) (B1 : Option Addr) (m1 d1 : Nat) (B2 : Option Addr) (m2 d2 : Nat) (B3 : Option Addr) (m3 d3 : Nat) (w : World) (h : IsN w w.heap.size n A1 n1 c1 A2 n2 c2 A3 n3 c3) (h' : IsN w w.heap.size m B1 m1 d1 B2 m2 d2 B3 m3 d3) :
    Calls Try.prog 19 #[nv A1 n1 c1 A2 n2 c2 A3 n3 c3, nv B1 m1 d1 B2 m2 d2 B3 m3 d3] w fun e w' => e = .returned (.bool (decide (n = m))) ∧ Below w.heap.size w w' := by
  obtain ⟨W0, hW0, hbx, hby, hb0, hz0⟩ := two_boxes w A1 n1 c1 A2 n2 c2 A3 n3 c3 B1 m1 d1 B2 m2 d2 B3 m3 d3
  have HF := Lib.hid hbx
  have HG := Lib.hid hby
  have HB0 := Lib.hid hb0
  have HN : Hid (IsN W0 W0.heap.size n A1 n1 c1 A2 n2 c2 A3 n3 c3) := (h.below hb0 (Nat.le_refl _)).more (by omega)
  have HM : Hid (IsN W0 W0.heap.size m B1 m1 d1 B2 m2 d2 B3 m3 d3) := (h'.below hb0 (Nat.le_refl _)).more (by omega)
  have M1 := h.m1
  have M2 := h.m2
  have M3 := h.m3
  obtain ⟨dq, hdq⟩ : ∃ b, b = decide (n = m) := ⟨_, rfl⟩
  have HNo : Hid (n ≠ m → dq = false) := fun e => by rw [hdq]; exact decide_eq_false e
  have HYes : Hid (n.ps = m.ps → n.ks = m.ks → n.cs = m.cs → dq = true) := fun e1 e2 e3 => by rw [hdq]; exact decide_eq_true (nd_ext e1 e2 e3)
  rw [← hdq]
  have HW0 := Lib.hid hW0
  clear h h' hW0 hdq hbx hby hb0
  obtain ⟨k0, k1, k2, -⟩ := HF.out.cells
  obtain ⟨j0, j1, j2, -⟩ := HG.out.cells
  by_cases e1 : n1 = m1
  · subst e1
    by_cases e2 : n2 = m2
    · subst e2
      by_cases e3 : n3 = m3
      · subst e3
        go_enter Try.func19, Try.ntmps19
        go_upto_region 1 with fail
        rw [← HW0.out]
        go_wp2_with fail
        clear k0 k1 k2 j0 j1 j2
        go_loopw [5] (fun i wr => ∃ k : Nat, k ≤ n1 ∧ i = .int .i64 k ∧ Hid (n.ps.take k = m.ps.take k) ∧ Hid (Below W0.heap.size W0 wr)) (fun i _ => n1 - (intOf i).toNat)
        case atStart => exact ⟨0, Nat.zero_le _, rfl, rfl, Below.refl _ _⟩
        case round =>
          obtain ⟨k, hk, rfl, HR, HB⟩ := hrel
          obtain ⟨k0, k1, k2, -⟩ := (HF.out.below HB.out (by omega)).cells
          obtain ⟨j0, j1, j2, -⟩ := (HG.out.below HB.out (by omega)).cells
          have hwr := HB.out.size
          have hzw : w.heap.size < wr.heap.size := by omega
          have hzv : w.heap.size + 1 < wr.heap.size := by omega
          by_cases hlt : k < n1
          · have hlt' : k < n.ps.length := by rw [HN.out.l1]; exact hlt
            have hlt2 : k < m.ps.length := by rw [HM.out.l1]; exact hlt
            have HP := HN.out.ps
            have HQ := HM.out.ps
            obtain ⟨b0, o0, rfl, hb1, hc0, hd0⟩ := HP k hlt'
            obtain ⟨b1, o1, rfl, hb2, hc20, hd20⟩ := HQ k hlt2
            have hbw : b0 < wr.heap.size := by omega
            have hbv : b1 < wr.heap.size := by omega
            have hc := (HB.out.cell (p := ⟨b0, o0 + k * 2, none⟩) hb1).trans hc0
            have hd := (HB.out.cell (p := ⟨b0, o0 + k * 2 + 1, none⟩) hb1).trans hd0
            have hc2 := (HB.out.cell (p := ⟨b1, o1 + k * 2, none⟩) hb2).trans hc20
            have hd2 := (HB.out.cell (p := ⟨b1, o1 + k * 2 + 1, none⟩) hb2).trans hd20
            have HE : Hid (n.ps[k] = m.ps[k] → n.ps.take (k + 1) = m.ps.take (k + 1)) := fun e => take_next HR.out hlt' hlt2 e
            have HNx : Hid (n.ps[k] ≠ m.ps[k] → dq = false) := fun e => HNo.out (fun e2 => e (by subst e2; rfl))
            obtain ⟨t, ht⟩ : ∃ t, t = text n.ps[k].1 := ⟨_, rfl⟩
            obtain ⟨u, hu⟩ : ∃ t, t = text n.ps[k].2 := ⟨_, rfl⟩
            obtain ⟨t2, ht2⟩ : ∃ t, t = text m.ps[k].1 := ⟨_, rfl⟩
            obtain ⟨u2, hu2⟩ : ∃ t, t = text m.ps[k].2 := ⟨_, rfl⟩
            obtain ⟨bd, hbd⟩ : ∃ b, b = !((t.toList == t2.toList) && (u.toList == u2.toList)) := ⟨_, rfl⟩
            have HBd : Hid ((bd = true → n.ps[k] ≠ m.ps[k]) ∧ (bd = false → n.ps[k] = m.ps[k])) := by
              have e1 : t.toList = n.ps[k].1 := by rw [ht]; exact text_toList _
              have e2 : u.toList = n.ps[k].2 := by rw [hu]; exact text_toList _
              have e3 : t2.toList = m.ps[k].1 := by rw [ht2]; exact text_toList _
              have e4 : u2.toList = m.ps[k].2 := by rw [hu2]; exact text_toList _
              rw [e1, e2, e3, e4] at hbd
              refine ⟨fun hb e => ?_, fun hb => ?_⟩
              · rw [hbd, e] at hb; simp at hb
              · rw [hbd] at hb; simp at hb; exact Prod.ext hb.1 hb.2
            have hne : ∀ W, (binOp .neq 49 (.agg #[.string t, .string u]) (.agg #[.string t2, .string u2])).run Try.prog W = .ok (.bool bd) W := fun W => by rw [hbd]; exact neq_pair t u t2 u2 W
            rw [← ht] at hc
            rw [← hu] at hd
            rw [← ht2] at hc2
            rw [← hu2] at hd2
            have hki : (k : Int) < n1 := by omega
            have HT : Hid (bd = true → dq = false) := fun hb => HNx.out (HBd.out.1 hb)
            have HU : Hid (bd = false → n.ps.take (k + 1) = m.ps.take (k + 1)) := fun hb => HE.out (HBd.out.2 hb)
            clear HE HNx HBd HP HQ hlt' hlt2 hc0 hd0 hc20 hd20 ht hu ht2 hu2 hbd
            go_upto_region 6 with fail
            go_cut [50] from 40 to 50 (fun sx wx => sx = .bool bd ∧ Below wr.heap.size wr wx)
            case first =>
              refine wp_region_by (by kernel_rfl) (Phi [.val (.pointer (some ⟨w.heap.size, 0, none⟩)), .val (.slice (some ⟨b0, o0, none⟩) n1 c1), .val (.int .i64 k), .val (.pointer (some ⟨b0, o0 + k * 2, none⟩)), .val (.agg #[.string t, .string u]), .val (.pointer (some ⟨w.heap.size + 1, 0, none⟩)), .val (.slice (some ⟨b1, o1, none⟩) n1 d1), .val (.int .i64 k), .val (.pointer (some ⟨b1, o1 + k * 2, none⟩)), .val (.agg #[.string t2, .string u2]), .val (.bool bd)]) (phi_stab _) (by kernel_rfl) ?step6 ?fin6
              case step6 =>
                intro i o listed a1 w2 ho hk hdep
                have hi : i < 11 := (Array.getElem?_eq_some_iff.1 ho).1
                have e2 := ev (show a1.eval (.tmp 2) = .pointer (some ⟨w.heap.size, 0, none⟩) from hk.frame 2 (frame_of (by kernel_rfl)))
                have e3 := ev (show a1.eval (.tmp 3) = .pointer (some ⟨w.heap.size + 1, 0, none⟩) from hk.frame 3 (frame_of (by kernel_rfl)))
                have e5 := ev (show a1.eval (.tmp 5) = .int .i64 k from hk.frame 5 (frame_of (by kernel_rfl)))
                have q0 := (hk.below.cell (p := ⟨w.heap.size, 0, none⟩) hzw).trans k0
                have q1 := (hk.below.cell (p := ⟨w.heap.size + 1, 0, none⟩) hzv).trans j0
                have qa := (hk.below.cell (p := ⟨b0, o0 + k * 2, none⟩) hbw).trans hc
                have qb := (hk.below.cell (p := ⟨b0, o0 + k * 2 + 1, none⟩) hbw).trans hd
                have qc := (hk.below.cell (p := ⟨b1, o1 + k * 2, none⟩) hbv).trans hc2
                have qd := (hk.below.cell (p := ⟨b1, o1 + k * 2 + 1, none⟩) hbv).trans hd2
                have hii : i = 0 ∨ i = 1 ∨ i = 2 ∨ i = 3 ∨ i = 4 ∨ i = 5 ∨ i = 6 ∨ i = 7 ∨ i = 8 ∨ i = 9 ∨ i = 10 := by omega
                rcases hii with rfl | rfl | rfl | rfl | rfl | rfl | rfl | rfl | rfl | rfl | rfl
                · cases ho
                  refine wpOp_of rfl rfl (wp_value (v := .pointer (some ⟨w.heap.size, 0, none⟩)) ?_ rfl)
                  go_simp
                · cases ho
                  have d0 := ev (show a1.eval (.tmp 40) = .pointer (some ⟨w.heap.size, 0, none⟩) from hk.done 0 _ 40 rfl rfl (hdep ⟨0, .data⟩ (by simp) rfl))
                  refine wpOp_of rfl rfl (wp_value (v := .slice (some ⟨b0, o0, none⟩) n1 c1) ?_ rfl)
                  go_simp
                · cases ho
                  refine wpOp_of rfl rfl (wp_value (v := .int .i64 k) ?_ rfl)
                  simp [execOp, e5, Act.eval]
                · cases ho
                  have d1 := ev (show a1.eval (.tmp 41) = .slice (some ⟨b0, o0, none⟩) n1 c1 from hk.done 1 _ 41 rfl rfl (hdep ⟨1, .data⟩ (by simp) rfl))
                  have d2 := ev (show a1.eval (.tmp 42) = .int .i64 k from hk.done 2 _ 42 rfl rfl (hdep ⟨2, .data⟩ (by simp) rfl))
                  refine wpOp_of rfl rfl (wp_value (v := .pointer (some ⟨b0, o0 + k * 2, none⟩)) ?_ rfl)
                  go_simp
                · cases ho
                  have d3 := ev (show a1.eval (.tmp 43) = .pointer (some ⟨b0, o0 + k * 2, none⟩) from hk.done 3 _ 43 rfl rfl (hdep ⟨3, .data⟩ (by simp) rfl))
                  refine wpOp_of rfl rfl (wp_value (v := .agg #[.string t, .string u]) ?_ rfl)
                  go_simp
                · cases ho
                  refine wpOp_of rfl rfl (wp_value (v := .pointer (some ⟨w.heap.size + 1, 0, none⟩)) ?_ rfl)
                  go_simp
                · cases ho
                  have d5 := ev (show a1.eval (.tmp 45) = .pointer (some ⟨w.heap.size + 1, 0, none⟩) from hk.done 5 _ 45 rfl rfl (hdep ⟨5, .data⟩ (by simp) rfl))
                  refine wpOp_of rfl rfl (wp_value (v := .slice (some ⟨b1, o1, none⟩) n1 d1) ?_ rfl)
                  go_simp
                · cases ho
                  refine wpOp_of rfl rfl (wp_value (v := .int .i64 k) ?_ rfl)
                  simp [execOp, e5, Act.eval]
                · cases ho
                  have d6 := ev (show a1.eval (.tmp 46) = .slice (some ⟨b1, o1, none⟩) n1 d1 from hk.done 6 _ 46 rfl rfl (hdep ⟨6, .data⟩ (by simp) rfl))
                  have d7 := ev (show a1.eval (.tmp 47) = .int .i64 k from hk.done 7 _ 47 rfl rfl (hdep ⟨7, .data⟩ (by simp) rfl))
                  refine wpOp_of rfl rfl (wp_value (v := .pointer (some ⟨b1, o1 + k * 2, none⟩)) ?_ rfl)
                  go_simp
                · cases ho
                  have d8 := ev (show a1.eval (.tmp 48) = .pointer (some ⟨b1, o1 + k * 2, none⟩) from hk.done 8 _ 48 rfl rfl (hdep ⟨8, .data⟩ (by simp) rfl))
                  refine wpOp_of rfl rfl (wp_value (v := .agg #[.string t2, .string u2]) ?_ rfl)
                  go_simp
                · cases ho
                  have d4 := ev (show a1.eval (.tmp 44) = .agg #[.string t, .string u] from hk.done 4 _ 44 rfl rfl (hdep ⟨4, .data⟩ (by simp) rfl))
                  have d9 := ev (show a1.eval (.tmp 49) = .agg #[.string t2, .string u2] from hk.done 9 _ 49 rfl rfl (hdep ⟨9, .data⟩ (by simp) rfl))
                  refine wpOp_of rfl rfl (wp_value (v := .bool bd) ?_ rfl)
                  go_simp
              case fin6 =>
                intro listed a2 w2 hk hall
                have h50 : a2.eval (.tmp 50) = .bool bd := hk.done 10 _ 50 rfl rfl (hall 10 (by decide))
                have hact := kept_all [40, 41, 42, 43, 44, 45, 46, 47, 48, 49, 50] hk (by kernel_rfl)
                have HB := Lib.hid hk.below
                simp only [List.foldl_cons, List.foldl_nil, List.setIfInBounds_toArray, List.set_cons_succ, List.set_cons_zero] at hact
                generalize a2.eval (.tmp 40) = u40 at hact
                generalize a2.eval (.tmp 41) = u41 at hact
                generalize a2.eval (.tmp 42) = u42 at hact
                generalize a2.eval (.tmp 43) = u43 at hact
                generalize a2.eval (.tmp 44) = u44 at hact
                generalize a2.eval (.tmp 45) = u45 at hact
                generalize a2.eval (.tmp 46) = u46 at hact
                generalize a2.eval (.tmp 47) = u47 at hact
                generalize a2.eval (.tmp 48) = u48 at hact
                generalize a2.eval (.tmp 49) = u49 at hact
                generalize a2.eval (.tmp 50) = u50 at hact h50
                rw [hact]
                clear hact
                go_wp2
                go_meet
                first | exact ⟨h50, HB.out⟩ | exact ⟨rfl, HB.out⟩
            case rest =>
            obtain ⟨rfl, hbx⟩ := hcut
            have HB2 := Lib.hid (step' HB.out hbx HB.out.size)
            clear hbx k0 k1 k2 j0 j1 j2 hne hc hd hc2 hd2
            cases bd with
            | true =>
              have HZ : Hid (dq = false) := HT.out (by first | trivial | rfl)
              go_wp2_with fail
              go_ret
              exact ⟨retb HZ.out.symm, HB0.out.trans (HB2.out.mono (by omega))⟩
            | false =>
              have HZ := Lib.hid (HU.out (by first | trivial | rfl))
              go_wp2_with fail
              go_roundw
              case rel => exact ⟨k + 1, by omega, by go_num, HZ.out, HB2.out⟩
              case measure => simp [intOf]; omega
          · have Hps : Hid (n.ps = m.ps) := by
              have e : k = n1 := by omega
              subst e
              exact take_all HR.out HN.out.l1 HM.out.l1
            obtain rfl : k = n1 := by omega
            obtain ⟨N1, rfl⟩ : ∃ y, y = k := ⟨k, rfl⟩
            obtain ⟨wl, rfl⟩ : ∃ y, y = wr := ⟨wr, rfl⟩
            have HBps : Hid (Below W0.heap.size W0 wl) := HB.out
            clear HR HB hzw hzv hwr
            go_wp2_with fail
            clear k0 k1 k2 j0 j1 j2
            go_loopw [6] (fun i wr => ∃ k : Nat, k ≤ n2 ∧ i = .int .i64 k ∧ Hid (n.ks.take k = m.ks.take k) ∧ Hid (Below W0.heap.size W0 wr)) (fun i _ => n2 - (intOf i).toNat)
            case atStart => exact ⟨0, Nat.zero_le _, rfl, rfl, HBps.out⟩
            case round =>
              obtain ⟨k, hk, rfl, HR, HB⟩ := hrel
              obtain ⟨k0, k1, k2, -⟩ := (HF.out.below HB.out (by omega)).cells
              obtain ⟨j0, j1, j2, -⟩ := (HG.out.below HB.out (by omega)).cells
              have hwr := HB.out.size
              have hzw : w.heap.size < wr.heap.size := by omega
              have hzv : w.heap.size + 1 < wr.heap.size := by omega
              by_cases hlt : k < n2
              · have hlt' : k < n.ks.length := by rw [HN.out.l2]; exact hlt
                have hlt2 : k < m.ks.length := by rw [HM.out.l2]; exact hlt
                have HP := HN.out.ks
                have HQ := HM.out.ks
                obtain ⟨b0, o0, rfl, hb1, hc0⟩ := HP k hlt'
                obtain ⟨b1, o1, rfl, hb2, hc20⟩ := HQ k hlt2
                have hbw : b0 < wr.heap.size := by omega
                have hbv : b1 < wr.heap.size := by omega
                have hc := (HB.out.cell (p := ⟨b0, o0 + k, none⟩) hb1).trans hc0
                have hc2 := (HB.out.cell (p := ⟨b1, o1 + k, none⟩) hb2).trans hc20
                have HE : Hid (n.ks[k] = m.ks[k] → n.ks.take (k + 1) = m.ks.take (k + 1)) := fun e => take_next HR.out hlt' hlt2 e
                have HNx : Hid (n.ks[k] ≠ m.ks[k] → dq = false) := fun e => HNo.out (fun e2 => e (by subst e2; rfl))
                obtain ⟨t, ht⟩ : ∃ t, t = text n.ks[k] := ⟨_, rfl⟩
                obtain ⟨t2, ht2⟩ : ∃ t, t = text m.ks[k] := ⟨_, rfl⟩
                obtain ⟨bd, hbd⟩ : ∃ b, b = !(t.toList == t2.toList) := ⟨_, rfl⟩
                have HQ9 := Lib.hid hbd
                have HBd : Hid ((bd = true → n.ks[k] ≠ m.ks[k]) ∧ (bd = false → n.ks[k] = m.ks[k])) := by
                  have e1 : t.toList = n.ks[k] := by rw [ht]; exact text_toList _
                  have e3 : t2.toList = m.ks[k] := by rw [ht2]; exact text_toList _
                  rw [e1, e3] at hbd
                  refine ⟨fun hb e => ?_, fun hb => ?_⟩
                  · rw [hbd, e] at hb; simp at hb
                  · rw [hbd] at hb; simpa using hb
                have hne : ∀ W, (binOp .neq 9 (.string t) (.string t2)).run Try.prog W = .ok (.bool bd) W := fun W => by rw [hbd]; simp [binOp, Op.stringOp]
                rw [← ht] at hc
                rw [← ht2] at hc2
                have hki : (k : Int) < n2 := by omega
                have HT : Hid (bd = true → dq = false) := fun hb => HNx.out (HBd.out.1 hb)
                have HU : Hid (bd = false → n.ks.take (k + 1) = m.ks.take (k + 1)) := fun hb => HE.out (HBd.out.2 hb)
                clear HE HNx HBd HP HQ hlt' hlt2 hc0 hc20 ht ht2 hbd
                go_upto_region 11 with fail
                go_cut [68] from 58 to 68 (fun sx wx => sx = .bool bd ∧ Below wr.heap.size wr wx)
                case first =>
                  refine wp_region_by (by kernel_rfl) (Phi [.val (.pointer (some ⟨w.heap.size, 1, none⟩)), .val (.slice (some ⟨b0, o0, none⟩) n2 c2), .val (.int .i64 k), .val (.pointer (some ⟨b0, o0 + k, none⟩)), .val (.string t), .val (.pointer (some ⟨w.heap.size + 1, 1, none⟩)), .val (.slice (some ⟨b1, o1, none⟩) n2 d2), .val (.int .i64 k), .val (.pointer (some ⟨b1, o1 + k, none⟩)), .val (.string t2), .val (.bool bd)]) (phi_stab _) (by kernel_rfl) ?step11 ?fin11
                  case step11 =>
                    intro i o listed a1 w2 ho hk hdep
                    have hi : i < 11 := (Array.getElem?_eq_some_iff.1 ho).1
                    have e2 := ev (show a1.eval (.tmp 2) = .pointer (some ⟨w.heap.size, 0, none⟩) from hk.frame 2 (frame_of (by kernel_rfl)))
                    have e3 := ev (show a1.eval (.tmp 3) = .pointer (some ⟨w.heap.size + 1, 0, none⟩) from hk.frame 3 (frame_of (by kernel_rfl)))
                    have e6 := ev (show a1.eval (.tmp 6) = .int .i64 k from hk.frame 6 (frame_of (by kernel_rfl)))
                    have q0 := (hk.below.cell (p := ⟨w.heap.size, 1, none⟩) hzw).trans k1
                    have q1 := (hk.below.cell (p := ⟨w.heap.size + 1, 1, none⟩) hzv).trans j1
                    have qa := (hk.below.cell (p := ⟨b0, o0 + k, none⟩) hbw).trans hc
                    have qc := (hk.below.cell (p := ⟨b1, o1 + k, none⟩) hbv).trans hc2
                    have hii : i = 0 ∨ i = 1 ∨ i = 2 ∨ i = 3 ∨ i = 4 ∨ i = 5 ∨ i = 6 ∨ i = 7 ∨ i = 8 ∨ i = 9 ∨ i = 10 := by omega
                    rcases hii with rfl | rfl | rfl | rfl | rfl | rfl | rfl | rfl | rfl | rfl | rfl
                    · cases ho
                      refine wpOp_of rfl rfl (wp_value (v := .pointer (some ⟨w.heap.size, 1, none⟩)) ?_ rfl)
                      go_simp
                    · cases ho
                      have d0 := ev (show a1.eval (.tmp 58) = .pointer (some ⟨w.heap.size, 1, none⟩) from hk.done 0 _ 58 rfl rfl (hdep ⟨0, .data⟩ (by simp) rfl))
                      refine wpOp_of rfl rfl (wp_value (v := .slice (some ⟨b0, o0, none⟩) n2 c2) ?_ rfl)
                      go_simp
                    · cases ho
                      refine wpOp_of rfl rfl (wp_value (v := .int .i64 k) ?_ rfl)
                      simp [execOp, e6, Act.eval]
                    · cases ho
                      have d1 := ev (show a1.eval (.tmp 59) = .slice (some ⟨b0, o0, none⟩) n2 c2 from hk.done 1 _ 59 rfl rfl (hdep ⟨1, .data⟩ (by simp) rfl))
                      have d2 := ev (show a1.eval (.tmp 60) = .int .i64 k from hk.done 2 _ 60 rfl rfl (hdep ⟨2, .data⟩ (by simp) rfl))
                      refine wpOp_of rfl rfl (wp_value (v := .pointer (some ⟨b0, o0 + k, none⟩)) ?_ rfl)
                      go_simp
                    · cases ho
                      have d3 := ev (show a1.eval (.tmp 61) = .pointer (some ⟨b0, o0 + k, none⟩) from hk.done 3 _ 61 rfl rfl (hdep ⟨3, .data⟩ (by simp) rfl))
                      refine wpOp_of rfl rfl (wp_value (v := .string t) ?_ rfl)
                      go_simp
                    · cases ho
                      refine wpOp_of rfl rfl (wp_value (v := .pointer (some ⟨w.heap.size + 1, 1, none⟩)) ?_ rfl)
                      go_simp
                    · cases ho
                      have d5 := ev (show a1.eval (.tmp 63) = .pointer (some ⟨w.heap.size + 1, 1, none⟩) from hk.done 5 _ 63 rfl rfl (hdep ⟨5, .data⟩ (by simp) rfl))
                      refine wpOp_of rfl rfl (wp_value (v := .slice (some ⟨b1, o1, none⟩) n2 d2) ?_ rfl)
                      go_simp
                    · cases ho
                      refine wpOp_of rfl rfl (wp_value (v := .int .i64 k) ?_ rfl)
                      simp [execOp, e6, Act.eval]
                    · cases ho
                      have d6 := ev (show a1.eval (.tmp 64) = .slice (some ⟨b1, o1, none⟩) n2 d2 from hk.done 6 _ 64 rfl rfl (hdep ⟨6, .data⟩ (by simp) rfl))
                      have d7 := ev (show a1.eval (.tmp 65) = .int .i64 k from hk.done 7 _ 65 rfl rfl (hdep ⟨7, .data⟩ (by simp) rfl))
                      refine wpOp_of rfl rfl (wp_value (v := .pointer (some ⟨b1, o1 + k, none⟩)) ?_ rfl)
                      go_simp
                    · cases ho
                      have d8 := ev (show a1.eval (.tmp 66) = .pointer (some ⟨b1, o1 + k, none⟩) from hk.done 8 _ 66 rfl rfl (hdep ⟨8, .data⟩ (by simp) rfl))
                      refine wpOp_of rfl rfl (wp_value (v := .string t2) ?_ rfl)
                      go_simp
                    · cases ho
                      have d4 := ev (show a1.eval (.tmp 62) = .string t from hk.done 4 _ 62 rfl rfl (hdep ⟨4, .data⟩ (by simp) rfl))
                      have d9 := ev (show a1.eval (.tmp 67) = .string t2 from hk.done 9 _ 67 rfl rfl (hdep ⟨9, .data⟩ (by simp) rfl))
                      refine wpOp_of rfl rfl (wp_value (v := .bool bd) ?_ rfl)
                      go_simp
                      rw [HQ9.out]; simp
                  case fin11 =>
                    intro listed a2 w2 hk hall
                    have h68 : a2.eval (.tmp 68) = .bool bd := hk.done 10 _ 68 rfl rfl (hall 10 (by decide))
                    have hact := kept_all [58, 59, 60, 61, 62, 63, 64, 65, 66, 67, 68] hk (by kernel_rfl)
                    have HB := Lib.hid hk.below
                    simp only [List.foldl_cons, List.foldl_nil, List.setIfInBounds_toArray, List.set_cons_succ, List.set_cons_zero] at hact
                    generalize a2.eval (.tmp 58) = u58 at hact
                    generalize a2.eval (.tmp 59) = u59 at hact
                    generalize a2.eval (.tmp 60) = u60 at hact
                    generalize a2.eval (.tmp 61) = u61 at hact
                    generalize a2.eval (.tmp 62) = u62 at hact
                    generalize a2.eval (.tmp 63) = u63 at hact
                    generalize a2.eval (.tmp 64) = u64 at hact
                    generalize a2.eval (.tmp 65) = u65 at hact
                    generalize a2.eval (.tmp 66) = u66 at hact
                    generalize a2.eval (.tmp 67) = u67 at hact
                    generalize a2.eval (.tmp 68) = u68 at hact h68
                    rw [hact]
                    clear hact
                    go_wp2
                    go_meet
                    first | exact ⟨h68, HB.out⟩ | exact ⟨rfl, HB.out⟩
                case rest =>
                obtain ⟨rfl, hbx⟩ := hcut
                have HB2 := Lib.hid (step' HB.out hbx HB.out.size)
                clear hbx k0 k1 k2 j0 j1 j2 hne hc hc2
                cases bd with
                | true =>
                  have HZ : Hid (dq = false) := HT.out (by first | trivial | rfl)
                  go_wp2_with fail
                  go_ret
                  exact ⟨retb HZ.out.symm, HB0.out.trans (HB2.out.mono (by omega))⟩
                | false =>
                  have HZ := Lib.hid (HU.out (by first | trivial | rfl))
                  go_wp2_with fail
                  go_roundw
                  case rel => exact ⟨k + 1, by omega, by go_num, HZ.out, HB2.out⟩
                  case measure => simp [intOf]; omega
              · have Hks : Hid (n.ks = m.ks) := by
                  have e : k = n2 := by omega
                  subst e
                  exact take_all HR.out HN.out.l2 HM.out.l2
                obtain rfl : k = n2 := by omega
                obtain ⟨N2, rfl⟩ : ∃ y, y = k := ⟨k, rfl⟩
                obtain ⟨wm, rfl⟩ : ∃ y, y = wr := ⟨wr, rfl⟩
                have HBks : Hid (Below W0.heap.size W0 wm) := HB.out
                clear HR HB hzw hzv hwr
                go_wp2_with fail
                clear k0 k1 k2 j0 j1 j2
                go_loopw [7] (fun i wr => ∃ k : Nat, k ≤ n3 ∧ i = .int .i64 k ∧ Hid (n.cs.take k = m.cs.take k) ∧ Hid (Below W0.heap.size W0 wr)) (fun i _ => n3 - (intOf i).toNat)
                case atStart => exact ⟨0, Nat.zero_le _, rfl, rfl, HBks.out⟩
                case round =>
                  obtain ⟨k, hk, rfl, HR, HB⟩ := hrel
                  obtain ⟨k0, k1, k2, -⟩ := (HF.out.below HB.out (by omega)).cells
                  obtain ⟨j0, j1, j2, -⟩ := (HG.out.below HB.out (by omega)).cells
                  have hwr := HB.out.size
                  have hzw : w.heap.size < wr.heap.size := by omega
                  have hzv : w.heap.size + 1 < wr.heap.size := by omega
                  by_cases hlt : k < n3
                  · have hlt' : k < n.cs.length := by rw [HN.out.l3]; exact hlt
                    have hlt2 : k < m.cs.length := by rw [HM.out.l3]; exact hlt
                    have HP := HN.out.cs
                    have HQ := HM.out.cs
                    obtain ⟨b0, o0, rfl, hb1, hc0, hr1, hr2⟩ := HP k hlt'
                    obtain ⟨b1, o1, rfl, hb2, hc20, hr3, hr4⟩ := HQ k hlt2
                    have hbw : b0 < wr.heap.size := by omega
                    have hbv : b1 < wr.heap.size := by omega
                    have hc := (HB.out.cell (p := ⟨b0, o0 + k, none⟩) hb1).trans hc0
                    have hc2 := (HB.out.cell (p := ⟨b1, o1 + k, none⟩) hb2).trans hc20
                    have HE : Hid (n.cs[k] = m.cs[k] → n.cs.take (k + 1) = m.cs.take (k + 1)) := fun e => take_next HR.out hlt' hlt2 e
                    have HNx : Hid (n.cs[k] ≠ m.cs[k] → dq = false) := fun e => HNo.out (fun e2 => e (by subst e2; rfl))
                    obtain ⟨a, ha⟩ : ∃ a, a = n.cs[k] := ⟨_, rfl⟩
                    obtain ⟨b, hb⟩ : ∃ a, a = m.cs[k] := ⟨_, rfl⟩
                    obtain ⟨bd, hbd⟩ : ∃ x, x = (a != b) := ⟨_, rfl⟩
                    have HQ9 := Lib.hid hbd
                    have HBd : Hid ((bd = true → n.cs[k] ≠ m.cs[k]) ∧ (bd = false → n.cs[k] = m.cs[k])) := by
                      rw [← ha, ← hb]
                      refine ⟨fun hx e => ?_, fun hx => ?_⟩
                      · rw [hbd, e] at hx; simp at hx
                      · rw [hbd] at hx; simpa using hx
                    have hne : ∀ W, (binOp .neq 3 (.int .i64 a) (.int .i64 b)).run Try.prog W = .ok (.bool bd) W := fun W => by rw [hbd]; exact neq_int a b W
                    rw [← ha] at hc
                    rw [← hb] at hc2
                    have hki : (k : Int) < n3 := by omega
                    have HT : Hid (bd = true → dq = false) := fun hb => HNx.out (HBd.out.1 hb)
                    have HU : Hid (bd = false → n.cs.take (k + 1) = m.cs.take (k + 1)) := fun hb => HE.out (HBd.out.2 hb)
                    clear HE HNx HBd HP HQ hlt' hlt2 hc0 hc20 hr1 hr2 hr3 hr4 ha hb hbd
                    go_upto_region 16 with fail
                    go_cut [86] from 76 to 86 (fun sx wx => sx = .bool bd ∧ Below wr.heap.size wr wx)
                    case first =>
                      refine wp_region_by (by kernel_rfl) (Phi [.val (.pointer (some ⟨w.heap.size, 2, none⟩)), .val (.slice (some ⟨b0, o0, none⟩) n3 c3), .val (.int .i64 k), .val (.pointer (some ⟨b0, o0 + k, none⟩)), .val (.int .i64 a), .val (.pointer (some ⟨w.heap.size + 1, 2, none⟩)), .val (.slice (some ⟨b1, o1, none⟩) n3 d3), .val (.int .i64 k), .val (.pointer (some ⟨b1, o1 + k, none⟩)), .val (.int .i64 b), .val (.bool bd)]) (phi_stab _) (by kernel_rfl) ?step16 ?fin16
                      case step16 =>
                        intro i o listed a1 w2 ho hk hdep
                        have hi : i < 11 := (Array.getElem?_eq_some_iff.1 ho).1
                        have e2 := ev (show a1.eval (.tmp 2) = .pointer (some ⟨w.heap.size, 0, none⟩) from hk.frame 2 (frame_of (by kernel_rfl)))
                        have e3 := ev (show a1.eval (.tmp 3) = .pointer (some ⟨w.heap.size + 1, 0, none⟩) from hk.frame 3 (frame_of (by kernel_rfl)))
                        have e7 := ev (show a1.eval (.tmp 7) = .int .i64 k from hk.frame 7 (frame_of (by kernel_rfl)))
                        have q0 := (hk.below.cell (p := ⟨w.heap.size, 2, none⟩) hzw).trans k2
                        have q1 := (hk.below.cell (p := ⟨w.heap.size + 1, 2, none⟩) hzv).trans j2
                        have qa := (hk.below.cell (p := ⟨b0, o0 + k, none⟩) hbw).trans hc
                        have qc := (hk.below.cell (p := ⟨b1, o1 + k, none⟩) hbv).trans hc2
                        have hii : i = 0 ∨ i = 1 ∨ i = 2 ∨ i = 3 ∨ i = 4 ∨ i = 5 ∨ i = 6 ∨ i = 7 ∨ i = 8 ∨ i = 9 ∨ i = 10 := by omega
                        rcases hii with rfl | rfl | rfl | rfl | rfl | rfl | rfl | rfl | rfl | rfl | rfl
                        · cases ho
                          refine wpOp_of rfl rfl (wp_value (v := .pointer (some ⟨w.heap.size, 2, none⟩)) ?_ rfl)
                          go_simp
                        · cases ho
                          have d0 := ev (show a1.eval (.tmp 76) = .pointer (some ⟨w.heap.size, 2, none⟩) from hk.done 0 _ 76 rfl rfl (hdep ⟨0, .data⟩ (by simp) rfl))
                          refine wpOp_of rfl rfl (wp_value (v := .slice (some ⟨b0, o0, none⟩) n3 c3) ?_ rfl)
                          go_simp
                        · cases ho
                          refine wpOp_of rfl rfl (wp_value (v := .int .i64 k) ?_ rfl)
                          simp [execOp, e7, Act.eval]
                        · cases ho
                          have d1 := ev (show a1.eval (.tmp 77) = .slice (some ⟨b0, o0, none⟩) n3 c3 from hk.done 1 _ 77 rfl rfl (hdep ⟨1, .data⟩ (by simp) rfl))
                          have d2 := ev (show a1.eval (.tmp 78) = .int .i64 k from hk.done 2 _ 78 rfl rfl (hdep ⟨2, .data⟩ (by simp) rfl))
                          refine wpOp_of rfl rfl (wp_value (v := .pointer (some ⟨b0, o0 + k, none⟩)) ?_ rfl)
                          go_simp
                        · cases ho
                          have d3 := ev (show a1.eval (.tmp 79) = .pointer (some ⟨b0, o0 + k, none⟩) from hk.done 3 _ 79 rfl rfl (hdep ⟨3, .data⟩ (by simp) rfl))
                          refine wpOp_of rfl rfl (wp_value (v := .int .i64 a) ?_ rfl)
                          go_simp
                        · cases ho
                          refine wpOp_of rfl rfl (wp_value (v := .pointer (some ⟨w.heap.size + 1, 2, none⟩)) ?_ rfl)
                          go_simp
                        · cases ho
                          have d5 := ev (show a1.eval (.tmp 81) = .pointer (some ⟨w.heap.size + 1, 2, none⟩) from hk.done 5 _ 81 rfl rfl (hdep ⟨5, .data⟩ (by simp) rfl))
                          refine wpOp_of rfl rfl (wp_value (v := .slice (some ⟨b1, o1, none⟩) n3 d3) ?_ rfl)
                          go_simp
                        · cases ho
                          refine wpOp_of rfl rfl (wp_value (v := .int .i64 k) ?_ rfl)
                          simp [execOp, e7, Act.eval]
                        · cases ho
                          have d6 := ev (show a1.eval (.tmp 82) = .slice (some ⟨b1, o1, none⟩) n3 d3 from hk.done 6 _ 82 rfl rfl (hdep ⟨6, .data⟩ (by simp) rfl))
                          have d7 := ev (show a1.eval (.tmp 83) = .int .i64 k from hk.done 7 _ 83 rfl rfl (hdep ⟨7, .data⟩ (by simp) rfl))
                          refine wpOp_of rfl rfl (wp_value (v := .pointer (some ⟨b1, o1 + k, none⟩)) ?_ rfl)
                          go_simp
                        · cases ho
                          have d8 := ev (show a1.eval (.tmp 84) = .pointer (some ⟨b1, o1 + k, none⟩) from hk.done 8 _ 84 rfl rfl (hdep ⟨8, .data⟩ (by simp) rfl))
                          refine wpOp_of rfl rfl (wp_value (v := .int .i64 b) ?_ rfl)
                          go_simp
                        · cases ho
                          have d4 := ev (show a1.eval (.tmp 80) = .int .i64 a from hk.done 4 _ 80 rfl rfl (hdep ⟨4, .data⟩ (by simp) rfl))
                          have d9 := ev (show a1.eval (.tmp 85) = .int .i64 b from hk.done 9 _ 85 rfl rfl (hdep ⟨9, .data⟩ (by simp) rfl))
                          refine wpOp_of rfl rfl (wp_value (v := .bool bd) ?_ rfl)
                          go_simp
                          exact HQ9.out.symm
                      case fin16 =>
                        intro listed a2 w2 hk hall
                        have h86 : a2.eval (.tmp 86) = .bool bd := hk.done 10 _ 86 rfl rfl (hall 10 (by decide))
                        have hact := kept_all [76, 77, 78, 79, 80, 81, 82, 83, 84, 85, 86] hk (by kernel_rfl)
                        have HB := Lib.hid hk.below
                        simp only [List.foldl_cons, List.foldl_nil, List.setIfInBounds_toArray, List.set_cons_succ, List.set_cons_zero] at hact
                        generalize a2.eval (.tmp 76) = u76 at hact
                        generalize a2.eval (.tmp 77) = u77 at hact
                        generalize a2.eval (.tmp 78) = u78 at hact
                        generalize a2.eval (.tmp 79) = u79 at hact
                        generalize a2.eval (.tmp 80) = u80 at hact
                        generalize a2.eval (.tmp 81) = u81 at hact
                        generalize a2.eval (.tmp 82) = u82 at hact
                        generalize a2.eval (.tmp 83) = u83 at hact
                        generalize a2.eval (.tmp 84) = u84 at hact
                        generalize a2.eval (.tmp 85) = u85 at hact
                        generalize a2.eval (.tmp 86) = u86 at hact h86
                        rw [hact]
                        clear hact
                        go_wp2
                        go_meet
                        first | exact ⟨h86, HB.out⟩ | exact ⟨rfl, HB.out⟩
                    case rest =>
                    obtain ⟨rfl, hbx⟩ := hcut
                    have HB2 := Lib.hid (step' HB.out hbx HB.out.size)
                    clear hbx k0 k1 k2 j0 j1 j2 hne hc hc2
                    cases bd with
                    | true =>
                      have HZ : Hid (dq = false) := HT.out (by first | trivial | rfl)
                      go_wp2_with fail
                      go_ret
                      exact ⟨retb HZ.out.symm, HB0.out.trans (HB2.out.mono (by omega))⟩
                    | false =>
                      have HZ := Lib.hid (HU.out (by first | trivial | rfl))
                      go_wp2_with fail
                      go_roundw
                      case rel => exact ⟨k + 1, by omega, by go_num, HZ.out, HB2.out⟩
                      case measure => simp [intOf]; omega
                  · have Hcs : Hid (n.cs = m.cs) := by
                      have e : k = n3 := by omega
                      subst e
                      exact take_all HR.out HN.out.l3 HM.out.l3
                    obtain rfl : k = n3 := by omega
                    obtain ⟨N3, rfl⟩ : ∃ y, y = k := ⟨k, rfl⟩
                    obtain ⟨wn, rfl⟩ : ∃ y, y = wr := ⟨wr, rfl⟩
                    have HBcs : Hid (Below W0.heap.size W0 wn) := HB.out
                    clear HR HB hzw hzv hwr
                    go_wp2_with fail
                    go_ret
                    exact ⟨retb (HYes.out Hps.out Hks.out Hcs.out).symm, HB0.out.trans (HBcs.out.mono (by omega))⟩
      · have HX : Hid (dq = false) := HNo.out (fun e => e3 (by rw [← HN.out.l3, ← HM.out.l3, e]))
        go_enter Try.func19, Try.ntmps19
        go_upto_region 1 with fail
        rw [← HW0.out]
        go_wp2_with fail
        go_ret
        exact ⟨retb HX.out.symm, HB0.out⟩
    · have HX : Hid (dq = false) := HNo.out (fun e => e2 (by rw [← HN.out.l2, ← HM.out.l2, e]))
      go_enter Try.func19, Try.ntmps19
      go_upto_region 1 with fail
      rw [← HW0.out]
      go_wp2_with fail
      go_ret
      exact ⟨retb HX.out.symm, HB0.out⟩
  · have HX : Hid (dq = false) := HNo.out (fun e => e1 (by rw [← HN.out.l1, ← HM.out.l1, e]))
    go_enter Try.func19, Try.ntmps19
    go_upto_region 1 with fail
    rw [← HW0.out]
    go_wp2_with fail
    go_ret
    exact ⟨retb HX.out.symm, HB0.out⟩
end Go.Proofs.Ytckbehojcjhcgaa.Nod
