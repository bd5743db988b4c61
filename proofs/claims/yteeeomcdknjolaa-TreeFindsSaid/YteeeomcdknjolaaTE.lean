/- Rows of nodes: what they hold; when two are the same. -/
import Derived.Test.YteeeomcdknjolaaTD
namespace Go.Proofs.Yteeeomcdknjolaa.Tre
open Go.RowKit Crc Chk Frm Fra Nod

/-- A slice that reads as a list of nodes. -/
def Nds (w : World) (B : Nat) (A : Option Addr) (L : List Nd) : Prop :=
  ∀ i, (hi : i < L.length) → ∃ b o A1 n1 c1 A2 n2 c2 A3 n3 c3, A = some ⟨b, o, none⟩ ∧ b < B ∧ w.cell? ⟨b, o + i * 3, none⟩ = some (.slice A1 n1 c1) ∧ w.cell? ⟨b, o + i * 3 + 1, none⟩ = some (.slice A2 n2 c2) ∧ w.cell? ⟨b, o + i * 3 + 2, none⟩ = some (.slice A3 n3 c3) ∧ IsN w B L[i] A1 n1 c1 A2 n2 c2 A3 n3 c3
theorem Nds.below {w w' : World} {B B' : Nat} {A : Option Addr} {L : List Nd} (h : Nds w B A L) (hb : Below B' w w') (hB : B ≤ B') : Nds w' B A L := fun i hi => by
  obtain ⟨b, o, A1, n1, c1, A2, n2, c2, A3, n3, c3, e, h1, h2, h3, h4, h5⟩ := h i hi
  exact ⟨b, o, A1, n1, c1, A2, n2, c2, A3, n3, c3, e, h1, (hb.cell (p := ⟨b, o + i * 3, none⟩) (Nat.lt_of_lt_of_le h1 hB)).trans h2, (hb.cell (p := ⟨b, o + i * 3 + 1, none⟩) (Nat.lt_of_lt_of_le h1 hB)).trans h3, (hb.cell (p := ⟨b, o + i * 3 + 2, none⟩) (Nat.lt_of_lt_of_le h1 hB)).trans h4, h5.below hb hB⟩
theorem Nds.more {w : World} {B B' : Nat} {A : Option Addr} {L : List Nd} (h : Nds w B A L) (hB : B ≤ B') : Nds w B' A L := fun i hi => by
  obtain ⟨b, o, A1, n1, c1, A2, n2, c2, A3, n3, c3, e, h1, h2, h3, h4, h5⟩ := h i hi
  exact ⟨b, o, A1, n1, c1, A2, n2, c2, A3, n3, c3, e, Nat.lt_of_lt_of_le h1 hB, h2, h3, h4, h5.more hB⟩
theorem Nds.next {w w' : World} {A : Option Addr} {L : List Nd} (h : Nds w w.heap.size A L) (hb : Below w.heap.size w w') : Nds w' w'.heap.size A L := (h.below hb (Nat.le_refl _)).more hb.size
theorem Prs.next {w w' : World} {A : Option Addr} {L : List P} (h : Prs w w.heap.size A L) (hb : Below w.heap.size w w') : Prs w' w'.heap.size A L := (h.below hb (Nat.le_refl _)).more hb.size
set_option maxHeartbeats 1600000 in
theorem eqN_any (A A' : Option Addr) (l m : List Nd) (n n' c c' : Nat) (w : World) (h : Nds w w.heap.size A l) (h' : Nds w w.heap.size A' m) (hl : l.length = n) (hl' : m.length = n') (hn : n ≤ 9223372036854775807) (hn' : n' ≤ 9223372036854775807) :
    Calls Try.prog 41 #[.slice A n c, .slice A' n' c', .func (.func 42) #[] #[]] w fun e w' => e = .returned (.bool (decide (l = m))) ∧ Below w.heap.size w w' := by
  have HP := Lib.hid h
  have HQ := Lib.hid h'
  have HL := Lib.hid hl
  have HM := Lib.hid hl'
  clear h h'
  by_cases hne : n = n'
  · subst hne
    clear hl hl'
    obtain ⟨dq, hdq⟩ : ∃ b, b = decide (l = m) := ⟨_, rfl⟩
    have HNo : Hid (l ≠ m → dq = false) := fun e => by rw [hdq]; exact decide_eq_false e
    have HYes : Hid (l = m → dq = true) := fun e => by rw [hdq]; exact decide_eq_true e
    rw [← hdq]
    clear hdq
    go_enter Try.func41, Try.ntmps41
    go_wp2_with fail
    go_loopw [17] (fun i wr => ∃ k : Nat, k ≤ n ∧ i = .int .i64 k ∧ Hid (l.take k = m.take k) ∧ Hid (Below w.heap.size w wr)) (fun i _ => n - (intOf i).toNat)
    case atStart => exact ⟨0, Nat.zero_le _, rfl, rfl, Below.refl _ _⟩
    case round =>
      obtain ⟨k, hk, rfl, HR, HB⟩ := hrel
      have hwr := HB.out.size
      by_cases hlt : k < n
      · have hlt' : k < l.length := by rw [HL.out]; exact hlt
        have hlt2 : k < m.length := by rw [HM.out]; exact hlt
        obtain ⟨b0, o0, A1, n1, c1, A2, n2, c2, A3, n3, c3, rfl, hb1, z1, z2, z3, hi⟩ := HP.out k hlt'
        obtain ⟨b1, o1, B1, m1, g1, B2, m2, g2, B3, m3, g3, rfl, hb2, y1, y2, y3, hj⟩ := HQ.out k hlt2
        have hbw : b0 < wr.heap.size := by omega
        have hbv : b1 < wr.heap.size := by omega
        have q1 := (HB.out.cell (p := ⟨b0, o0 + k * 3, none⟩) hb1).trans z1
        have q2 := (HB.out.cell (p := ⟨b0, o0 + k * 3 + 1, none⟩) hb1).trans z2
        have q3 := (HB.out.cell (p := ⟨b0, o0 + k * 3 + 2, none⟩) hb1).trans z3
        have p1 := (HB.out.cell (p := ⟨b1, o1 + k * 3, none⟩) hb2).trans y1
        have p2 := (HB.out.cell (p := ⟨b1, o1 + k * 3 + 1, none⟩) hb2).trans y2
        have p3 := (HB.out.cell (p := ⟨b1, o1 + k * 3 + 2, none⟩) hb2).trans y3
        obtain ⟨W2, hW2, hbx, hby, hb0, hz0⟩ := two_boxes wr A1 n1 c1 A2 n2 c2 A3 n3 c3 B1 m1 g1 B2 m2 g2 B3 m3 g3
        have hB2 : Below w.heap.size w W2 := HB.out.trans (hb0.mono hwr)
        have HN : Hid (IsN W2 W2.heap.size l[k] A1 n1 c1 A2 n2 c2 A3 n3 c3) := (hi.below hB2 (Nat.le_refl _)).more hB2.size
        have HO : Hid (IsN W2 W2.heap.size m[k] B1 m1 g1 B2 m2 g2 B3 m3 g3) := (hj.below hB2 (Nat.le_refl _)).more hB2.size
        have HS := Lib.hid (psame_any l[k] m[k] A1 n1 c1 A2 n2 c2 A3 n3 c3 B1 m1 g1 B2 m2 g2 B3 m3 g3 W2 HN.out HO.out)
        obtain ⟨k0, k1, k2, -⟩ := hbx.cells
        obtain ⟨j0, j1, j2, -⟩ := hby.cells
        have HE : Hid (l[k] = m[k] → l.take (k + 1) = m.take (k + 1)) := fun e => take_next HR.out hlt' hlt2 e
        have HNx : Hid (l[k] ≠ m[k] → dq = false) := fun e => HNo.out (fun e2 => e (by subst e2; rfl))
        obtain ⟨bd, hbd⟩ : ∃ b, b = decide (l[k] = m[k]) := ⟨_, rfl⟩
        have HT : Hid (bd = false → dq = false) := fun hb => HNx.out (by rw [hbd] at hb; simpa using hb)
        have HU : Hid (bd = true → l.take (k + 1) = m.take (k + 1)) := fun hb => HE.out (by rw [hbd] at hb; simpa using hb)
        rw [← hbd] at HS
        have HW2 := Lib.hid hW2
        have HB2 := Lib.hid hB2
        have hki : (k : Int) < n := by omega
        have HBX := Lib.hid hbx
        have HBY := Lib.hid hby
        clear HE HNx hbd hlt' hlt2 hi hj z1 z2 z3 y1 y2 y3 hW2 hbx hby hb0 hz0 hB2 HN HO k0 k1 k2 j0 j1 j2
        go_upto_region 7 with fail
        rw [← HW2.out]
        obtain ⟨k0, k1, k2, -⟩ := HBX.out.cells
        obtain ⟨j0, j1, j2, -⟩ := HBY.out.cells
        clear q1 q2 q3 p1 p2 p3
        go_wp2_with fail
        refine HS.out.mono ?_
        rintro e w3 ⟨rfl, hb3⟩
        have HB3 := Lib.hid (step' HB2.out hb3 HB2.out.size)
        clear hb3 k0 k1 k2 j0 j1 j2
        cases bd with
        | false =>
          go_wp2_with fail
          go_ret
          exact ⟨retb (HT.out (by first | trivial | rfl)).symm, HB3.out⟩
        | true =>
          go_wp2_with fail
          go_roundw
          case rel => exact ⟨k + 1, by omega, by go_num, HU.out (by first | trivial | rfl), HB3.out⟩
          case measure => simp [intOf]; omega
      · obtain rfl : k = n := by omega
        have HX : Hid (dq = true) := HYes.out (take_all HR.out HL.out HM.out)
        go_wp2_with fail
        go_ret
        exact ⟨retb HX.out.symm, HB.out⟩
  · have HX : Hid (decide (l = m) = false) := decide_eq_false fun e => hne (by rw [← hl, ← hl', e])
    clear hl hl'
    go_enter Try.func41, Try.ntmps41
    go_wp2_with fail
    go_ret
    exact ⟨retb HX.out.symm, Below.refl _ _⟩
set_option maxRecDepth 20000 in
set_option maxHeartbeats 1600000 in
theorem sameN_any (A A' : Option Addr) (l m : List Nd) (n n' c c' : Nat) (w : World) (h : Nds w w.heap.size A l) (h' : Nds w w.heap.size A' m) (hl : l.length = n) (hl' : m.length = n') (hn : n ≤ 9223372036854775807) (hn' : n' ≤ 9223372036854775807) :
    Calls Try.prog 11 #[.slice A n c, .slice A' n' c'] w fun e w' => e = .returned (.bool (decide (l = m))) ∧ Below w.heap.size w w' := by
  have HP := Lib.hid h
  have HQ := Lib.hid h'
  have HL := Lib.hid hl
  have HM := Lib.hid hl'
  clear h h'
  by_cases hne : n = n'
  · subst hne
    clear hl hl'
    obtain ⟨dq, hdq⟩ : ∃ b, b = decide (l = m) := ⟨_, rfl⟩
    have HNo : Hid (l ≠ m → dq = false) := fun e => by rw [hdq]; exact decide_eq_false e
    have HYes : Hid (l = m → dq = true) := fun e => by rw [hdq]; exact decide_eq_true e
    rw [← hdq]
    clear hdq
    go_enter Try.func11, Try.ntmps11
    go_wp2_with fail
    go_loopw [5] (fun i wr => ∃ k : Nat, k ≤ n ∧ i = .int .i64 k ∧ Hid (l.take k = m.take k) ∧ Hid (Below w.heap.size w wr)) (fun i _ => n - (intOf i).toNat)
    case atStart => exact ⟨0, Nat.zero_le _, rfl, rfl, Below.refl _ _⟩
    case round =>
      obtain ⟨k, hk, rfl, HR, HB⟩ := hrel
      have hwr := HB.out.size
      by_cases hlt : k < n
      · have hlt' : k < l.length := by rw [HL.out]; exact hlt
        have hlt2 : k < m.length := by rw [HM.out]; exact hlt
        obtain ⟨b0, o0, A1, n1, c1, A2, n2, c2, A3, n3, c3, rfl, hb1, z1, z2, z3, hi⟩ := HP.out k hlt'
        obtain ⟨b1, o1, B1, m1, g1, B2, m2, g2, B3, m3, g3, rfl, hb2, y1, y2, y3, hj⟩ := HQ.out k hlt2
        have hbw : b0 < wr.heap.size := by omega
        have hbv : b1 < wr.heap.size := by omega
        have q1 := (HB.out.cell (p := ⟨b0, o0 + k * 3, none⟩) hb1).trans z1
        have q2 := (HB.out.cell (p := ⟨b0, o0 + k * 3 + 1, none⟩) hb1).trans z2
        have q3 := (HB.out.cell (p := ⟨b0, o0 + k * 3 + 2, none⟩) hb1).trans z3
        have p1 := (HB.out.cell (p := ⟨b1, o1 + k * 3, none⟩) hb2).trans y1
        have p2 := (HB.out.cell (p := ⟨b1, o1 + k * 3 + 1, none⟩) hb2).trans y2
        have p3 := (HB.out.cell (p := ⟨b1, o1 + k * 3 + 2, none⟩) hb2).trans y3
        have HS : Hid (∀ W, Below wr.heap.size wr W → Calls Try.prog 34 #[nv A1 n1 c1 A2 n2 c2 A3 n3 c3, nv B1 m1 g1 B2 m2 g2 B3 m3 g3] W fun e w' => e = .returned (.bool (decide (l[k] = m[k]))) ∧ Below W.heap.size W w') := fun W hb => by
          have hB2 : Below w.heap.size w W := HB.out.trans (hb.mono hwr)
          exact same_any l[k] m[k] A1 n1 c1 A2 n2 c2 A3 n3 c3 B1 m1 g1 B2 m2 g2 B3 m3 g3 W ((hi.below hB2 (Nat.le_refl _)).more hB2.size) ((hj.below hB2 (Nat.le_refl _)).more hB2.size)
        have HE : Hid (l[k] = m[k] → l.take (k + 1) = m.take (k + 1)) := fun e => take_next HR.out hlt' hlt2 e
        have HNx : Hid (l[k] ≠ m[k] → dq = false) := fun e => HNo.out (fun e2 => e (by subst e2; rfl))
        obtain ⟨bd, hbd⟩ : ∃ b, b = decide (l[k] = m[k]) := ⟨_, rfl⟩
        have HT : Hid (bd = false → dq = false) := fun hb => HNx.out (by rw [hbd] at hb; simpa using hb)
        have HU : Hid (bd = true → l.take (k + 1) = m.take (k + 1)) := fun hb => HE.out (by rw [hbd] at hb; simpa using hb)
        rw [← hbd] at HS
        obtain ⟨nd, hnd⟩ : ∃ b, b = !bd := ⟨_, rfl⟩
        have HND : Hid ((!bd) = nd) := hnd.symm
        have HND2 : Hid (bd = !nd) := by show _ = _; rw [hnd, Bool.not_not]
        have hki : (k : Int) < n := by omega
        clear HE HNx hbd hlt' hlt2 hi hj z1 z2 z3 y1 y2 y3 hnd
        go_upto_region 6 with fail
        go_cut [26] from 17 to 26 (fun s51 wx => s51 = .bool nd ∧ Below wr.heap.size wr wx)
        case first =>
          refine wp_region_by (by kernel_rfl) (Phi [.val (.slice (some ⟨b0, o0, none⟩) n c), .val (.int .i64 k), .val (.pointer (some ⟨b0, o0 + k * 3, none⟩)), .val (.agg #[.slice A1 n1 c1, .slice A2 n2 c2, .slice A3 n3 c3]), .val (.slice (some ⟨b1, o1, none⟩) n c'), .val (.int .i64 k), .val (.pointer (some ⟨b1, o1 + k * 3, none⟩)), .val (.agg #[.slice B1 m1 g1, .slice B2 m2 g2, .slice B3 m3 g3]), .val (.bool bd), .val (.bool nd)]) (phi_stab _) (by kernel_rfl) ?stepe ?fine
          case stepe =>
            intro i o listed a1 w2 ho hk hdep
            have hi : i < 10 := (Array.getElem?_eq_some_iff.1 ho).1
            have e0 := ev (show a1.eval (.tmp 0) = .slice (some ⟨b0, o0, none⟩) n c from hk.frame 0 (frame_of (by kernel_rfl)))
            have e1 := ev (show a1.eval (.tmp 1) = .slice (some ⟨b1, o1, none⟩) n c' from hk.frame 1 (frame_of (by kernel_rfl)))
            have e5 := ev (show a1.eval (.tmp 5) = .int .i64 k from hk.frame 5 (frame_of (by kernel_rfl)))
            have x0 := (hk.below.cell (p := ⟨b0, o0 + k * 3, none⟩) hbw).trans q1
            have v0 := (hk.below.cell (p := ⟨b1, o1 + k * 3, none⟩) hbv).trans p1
            have x1 := (hk.below.cell (p := ⟨b0, o0 + k * 3 + 1, none⟩) hbw).trans q2
            have v1 := (hk.below.cell (p := ⟨b1, o1 + k * 3 + 1, none⟩) hbv).trans p2
            have x2 := (hk.below.cell (p := ⟨b0, o0 + k * 3 + 2, none⟩) hbw).trans q3
            have v2 := (hk.below.cell (p := ⟨b1, o1 + k * 3 + 2, none⟩) hbv).trans p3
            have hii : i = 0 ∨ i = 1 ∨ i = 2 ∨ i = 3 ∨ i = 4 ∨ i = 5 ∨ i = 6 ∨ i = 7 ∨ i = 8 ∨ i = 9 := by omega
            rcases hii with rfl | rfl | rfl | rfl | rfl | rfl | rfl | rfl | rfl | rfl
            · cases ho
              refine wpOp_of rfl rfl (wp_value (v := .slice (some ⟨b0, o0, none⟩) n c) ?_ rfl)
              simp [execOp, e0, Act.eval]
            · cases ho
              refine wpOp_of rfl rfl (wp_value (v := .int .i64 k) ?_ rfl)
              simp [execOp, e5, Act.eval]
            · cases ho
              have d0 := ev (show a1.eval (.tmp 17) = .slice (some ⟨b0, o0, none⟩) n c from hk.done 0 _ 17 rfl rfl (hdep ⟨0, .data⟩ (by simp) rfl))
              have d1 := ev (show a1.eval (.tmp 18) = .int .i64 k from hk.done 1 _ 18 rfl rfl (hdep ⟨1, .data⟩ (by simp) rfl))
              refine wpOp_of rfl rfl (wp_value (v := .pointer (some ⟨b0, o0 + k * 3, none⟩)) ?_ rfl)
              go_simp
            · cases ho
              have d2 := ev (show a1.eval (.tmp 19) = .pointer (some ⟨b0, o0 + k * 3, none⟩) from hk.done 2 _ 19 rfl rfl (hdep ⟨2, .data⟩ (by simp) rfl))
              refine wpOp_of rfl rfl (wp_value (v := .agg #[.slice A1 n1 c1, .slice A2 n2 c2, .slice A3 n3 c3]) ?_ rfl)
              go_simp
            · cases ho
              refine wpOp_of rfl rfl (wp_value (v := .slice (some ⟨b1, o1, none⟩) n c') ?_ rfl)
              simp [execOp, e1, Act.eval]
            · cases ho
              refine wpOp_of rfl rfl (wp_value (v := .int .i64 k) ?_ rfl)
              simp [execOp, e5, Act.eval]
            · cases ho
              have d4 := ev (show a1.eval (.tmp 21) = .slice (some ⟨b1, o1, none⟩) n c' from hk.done 4 _ 21 rfl rfl (hdep ⟨4, .data⟩ (by simp) rfl))
              have d5 := ev (show a1.eval (.tmp 22) = .int .i64 k from hk.done 5 _ 22 rfl rfl (hdep ⟨5, .data⟩ (by simp) rfl))
              refine wpOp_of rfl rfl (wp_value (v := .pointer (some ⟨b1, o1 + k * 3, none⟩)) ?_ rfl)
              go_simp
            · cases ho
              have d6 := ev (show a1.eval (.tmp 23) = .pointer (some ⟨b1, o1 + k * 3, none⟩) from hk.done 6 _ 23 rfl rfl (hdep ⟨6, .data⟩ (by simp) rfl))
              refine wpOp_of rfl rfl (wp_value (v := .agg #[.slice B1 m1 g1, .slice B2 m2 g2, .slice B3 m3 g3]) ?_ rfl)
              go_simp
            · cases ho
              have d3 := ev (show a1.eval (.tmp 20) = .agg #[.slice A1 n1 c1, .slice A2 n2 c2, .slice A3 n3 c3] from hk.done 3 _ 20 rfl rfl (hdep ⟨3, .data⟩ (by simp) rfl))
              have d7 := ev (show a1.eval (.tmp 24) = .agg #[.slice B1 m1 g1, .slice B2 m2 g2, .slice B3 m3 g3] from hk.done 7 _ 24 rfl rfl (hdep ⟨7, .data⟩ (by simp) rfl))
              refine wpOp_of rfl rfl ?_
              go_simp
              refine (HS.out w2 hk.below).mono ?_
              rintro e w3 ⟨rfl, hb2⟩
              exact ⟨_, rfl, rfl, hb2⟩
            · cases ho
              have d8 := ev (show a1.eval (.tmp 25) = .bool bd from hk.done 8 _ 25 rfl rfl (hdep ⟨8, .data⟩ (by simp) rfl))
              refine wpOp_of rfl rfl (wp_value (v := .bool nd) ?_ rfl)
              go_simp
              first | exact HND2.out | exact HND.out
          case fine =>
            intro listed a2 w2 hk hall
            have h26 : a2.eval (.tmp 26) = .bool nd := hk.done 9 _ 26 rfl rfl (hall 9 (by decide))
            have hact := kept_all [17, 18, 19, 20, 21, 22, 23, 24, 25, 26] hk (by kernel_rfl)
            have HB := Lib.hid hk.below
            simp only [List.foldl_cons, List.foldl_nil, List.setIfInBounds_toArray, List.set_cons_succ, List.set_cons_zero] at hact
            generalize a2.eval (.tmp 17) = u17 at hact
            generalize a2.eval (.tmp 18) = u18 at hact
            generalize a2.eval (.tmp 19) = u19 at hact
            generalize a2.eval (.tmp 20) = u20 at hact
            generalize a2.eval (.tmp 21) = u21 at hact
            generalize a2.eval (.tmp 22) = u22 at hact
            generalize a2.eval (.tmp 23) = u23 at hact
            generalize a2.eval (.tmp 24) = u24 at hact
            generalize a2.eval (.tmp 25) = u25 at hact
            generalize a2.eval (.tmp 26) = u26 at hact h26
            rw [hact]
            clear hact
            go_wp2
            go_meet
            first | exact ⟨h26, HB.out⟩ | exact ⟨rfl, HB.out⟩
        case rest =>
        obtain ⟨rfl, hbx⟩ := hcut
        have HB2 := Lib.hid (step' HB.out hbx HB.out.size)
        clear hbx
        cases bd with
        | false =>
          obtain rfl : nd = true := HND.out.symm
          go_wp2_with fail
          go_ret
          exact ⟨retb (HT.out (by first | trivial | rfl)).symm, HB2.out⟩
        | true =>
          obtain rfl : nd = false := HND.out.symm
          go_wp2_with fail
          go_roundw
          case rel => exact ⟨k + 1, by omega, by go_num, HU.out (by first | trivial | rfl), HB2.out⟩
          case measure => simp [intOf]; omega
      · obtain rfl : k = n := by omega
        have HX : Hid (dq = true) := HYes.out (take_all HR.out HL.out HM.out)
        go_wp2_with fail
        go_ret
        exact ⟨retb HX.out.symm, HB.out⟩
  · have HX : Hid (decide (l = m) = false) := decide_eq_false fun e => hne (by rw [← hl, ← hl', e])
    clear hl hl'
    go_enter Try.func11, Try.ntmps11
    go_wp2_with fail
    go_ret
    exact ⟨retb HX.out.symm, Below.refl _ _⟩
end Go.Proofs.Yteeeomcdknjolaa.Tre
