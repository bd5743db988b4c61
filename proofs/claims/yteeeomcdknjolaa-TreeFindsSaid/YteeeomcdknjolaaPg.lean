/- The law's pages: any nodes, cut. -/
import Derived.Test.YteeeomcdknjolaaTH
import Derived.Test.YteeeomcdknjolaaTX
namespace Go.Proofs.Yteeeomcdknjolaa.Tre
open Go.RowKit Crc Chk Frm Fra Nod

theorem isN_cut {w : World} {B : Nat} {n : Nd} {A1 : Option Addr} {n1 c1 : Nat} {A2 : Option Addr} {n2 c2 : Nat} {A3 : Option Addr} {n3 c3 : Nat} (h : IsN w B n A1 n1 c1 A2 n2 c2 A3 n3 c3) :
    IsN w B ⟨n.ps.take 8, n.ks.take 10, n.cs.take 10⟩ A1 (min n1 8) c1 A2 (min n2 10) c2 A3 (min n3 10) c3 :=
  ⟨h.ps.take 8, h.ks.take 10, h.cs.take 10, by rw [List.length_take, h.l1]; omega, by rw [List.length_take, h.l2]; omega, by rw [List.length_take, h.l3]; omega, by have := h.r1; omega, by have := h.r2; omega, by have := h.r3; omega, by omega, by omega, by omega⟩
theorem rexec6 {P : Program} {o : Oper} {a : Act} {w w' : World} {v : Value} {K : Act → World → Prop} {Q : Exit → Act → World → Prop} (h : (execOp a.eval o).run P w = .ok (.value v) w') (hk : K (a.put o.dst v) w') : o.wp P a w K Q := by
  unfold Oper.wp
  rw [h]
  simpa [Oper.upon] using hk
/-- What is cut already: a row of the call's own; each node's parts lie where they lay. -/
structure PgSt (w : World) (i : Nat) (v : Value) (ds : List Sd) (L : List Nd) (x : World) : Prop where
  own : OwnN x w.heap.size v ds
  len : ds.length = i
  len2 : L.length = i
  at_ : ∀ j, (hi : j < L.length) → (hj : j < ds.length) → IsS w w.heap.size L[j] ds[j]
theorem PgSt.next {w x x' : World} {i : Nat} {v v' : Value} {ds : List Sd} {L : List Nd} (h : PgSt w i v ds L x) {n : Nd} {d : Sd} (hd : IsS w w.heap.size n d) (ho : OwnN x' w.heap.size v' (ds ++ [d])) : PgSt w (i + 1) v' (ds ++ [d]) (L ++ [n]) x' := by
  refine ⟨ho, by simp [h.len], by simp [h.len2], fun j hi hj => ?_⟩
  have e1 := h.len
  have e2 := h.len2
  simp only [List.length_append, List.length_cons, List.length_nil] at hi hj
  by_cases hlt : j < i
  · rw [List.getElem_append_left (by omega), List.getElem_append_left (by omega)]
    exact h.at_ j (by omega) (by omega)
  · rw [List.getElem_append_right (by omega), List.getElem_append_right (by omega)]
    simp only [List.getElem_singleton]
    exact hd
set_option maxHeartbeats 3200000 in
theorem cutN_any (A : Option Addr) (L : List Nd) (n c : Nat) (w : World) (h : Nds w w.heap.size A L) (hl : L.length = n) (hc : n ≤ c) (hn : n ≤ 9223372036854775807) :
    Calls Try.prog 17 #[.slice A n c] w fun e w' => ∃ A' c' L', e = .returned (.slice A' L'.length c') ∧ Nds w' w'.heap.size A' L' ∧ L'.length ≤ 40 ∧ Below w.heap.size w w' := by
  have HP := Lib.hid h
  have HL := Lib.hid hl
  obtain ⟨m, hm⟩ : ∃ m, m = min n 40 := ⟨_, rfl⟩
  have HM := Lib.hid hm
  have hm' : m ≤ 40 := by omega
  have hmn : m ≤ n := by omega
  have HC := Lib.hid hc
  clear h hl hm hc
  go_enter Try.func17, Try.ntmps17
  go_upto_if 8 with fail
  go_cut [0] (fun s0 wx => s0 = .slice A m c ∧ w = wx)
  case first =>
    have hcc := HC.out
    by_cases hlt : 40 < n
    · have HE : Hid (m = 40) := by show _ = _; rw [HM.out]; omega
      go_wp2_with fail
      go_meet
      exact ⟨by rw [HE.out], by first | trivial | rfl⟩
    · have HE : Hid (m = n) := by show _ = _; rw [HM.out]; omega
      go_wp2_with fail
      go_meet
      exact ⟨by rw [HE.out], by first | trivial | rfl⟩
  case rest =>
  obtain ⟨rfl, rfl⟩ := hcut
  go_wp2_with fail
  go_loopw [3, 4] (fun y z wr => ∃ (i : Nat) (v : Value) (ds : List Sd) (L' : List Nd), i ≤ m ∧ z = .int .i64 i ∧ v = y ∧ Hid (PgSt w i v ds L' wr) ∧ Hid (Below w.heap.size w wr)) (fun _ z _ => m - (intOf z).toNat)
  case atStart => exact ⟨0, .slice none 0 0, [], [], Nat.zero_le _, rfl, rfl, ⟨World.ownsRow_nil _ _ _ _, rfl, rfl, fun j hj => by cases hj⟩, Below.refl _ _⟩
  case round =>
    obtain ⟨k, v, ds, L', hk, rfl, rfl, HS, HB⟩ := hrel
    by_cases hlt : k < m
    · have hkl : k < L.length := by rw [HL.out]; omega
      obtain ⟨b0, o0, A1, n1, c1, A2, n2, c2, A3, n3, c3, rfl, hb1, z1, z2, z3, hN⟩ := HP.out k hkl
      have hwr := HB.out.size
      have hbw : b0 < wr.heap.size := by omega
      have q1 := (HB.out.cell (p := ⟨b0, o0 + k * 3, none⟩) hb1).trans z1
      have q2 := (HB.out.cell (p := ⟨b0, o0 + k * 3 + 1, none⟩) hb1).trans z2
      have q3 := (HB.out.cell (p := ⟨b0, o0 + k * 3 + 2, none⟩) hb1).trans z3
      have HN := Lib.hid (isN_cut hN)
      have HR : Hid (n1 ≤ c1 ∧ n2 ≤ c2 ∧ n3 ≤ c3) := ⟨hN.r1, hN.r2, hN.r3⟩
      have hkm : (k : Int) < m := by omega
      have HF0 : Hid (∀ x : World, Below wr.heap.size wr x → x.cell? ⟨b0, o0 + k * 3, none⟩ = some (.slice A1 n1 c1) ∧ x.cell? ⟨b0, o0 + k * 3 + 1, none⟩ = some (.slice A2 n2 c2) ∧ x.cell? ⟨b0, o0 + k * 3 + 2, none⟩ = some (.slice A3 n3 c3)) := fun x hx =>
        ⟨(hx.cell (p := ⟨b0, o0 + k * 3, none⟩) hbw).trans q1, (hx.cell (p := ⟨b0, o0 + k * 3 + 1, none⟩) hbw).trans q2, (hx.cell (p := ⟨b0, o0 + k * 3 + 2, none⟩) hbw).trans q3⟩
      obtain ⟨nd, hnd⟩ : ∃ y : Nd, y = ⟨L[k].ps.take 8, L[k].ks.take 10, L[k].cs.take 10⟩ := ⟨_, rfl⟩
      rw [← hnd] at HN
      clear z1 z2 z3 hN q1 q2 q3 hnd hkl hb1
      go_upto_region 7 with fail
      refine wp_region_chain2 (by kernel_rfl) (fun q9 => [(.slice (some ⟨b0, o0, none⟩) m c), (.int .i64 k), (.pointer (some ⟨b0, o0 + k * 3, none⟩)), (.pointer (some ⟨b0, o0 + k * 3, none⟩)), (.slice A1 n1 c1), (.slice (some ⟨b0, o0, none⟩) m c), (.int .i64 k), (.pointer (some ⟨b0, o0 + k * 3, none⟩)), (.pointer (some ⟨b0, o0 + k * 3 + 1, none⟩)), (.slice A2 n2 c2), (.slice (some ⟨b0, o0, none⟩) m c), (.int .i64 k), (.pointer (some ⟨b0, o0 + k * 3, none⟩)), (.pointer (some ⟨b0, o0 + k * 3 + 2, none⟩)), (.slice A3 n3 c3), (.agg #[.slice A1 n1 c1, .slice A2 n2 c2, .slice A3 n3 c3]), undef, undef].getD q9 undef) [16, 17] [16]
        (fun vs x => (x.cell? ⟨b0, o0 + k * 3, none⟩ = some (.slice A1 n1 c1) ∧ x.cell? ⟨b0, o0 + k * 3 + 1, none⟩ = some (.slice A2 n2 c2) ∧ x.cell? ⟨b0, o0 + k * 3 + 2, none⟩ = some (.slice A3 n3 c3)) ∧ ((vs = [] ∧ x = wr.drewN 1) ∨ (vs = [.pointer (some ⟨wr.heap.size, 0, none⟩)] ∧ BoxN wr.heap.size none 0 0 none 0 0 none 0 0 x ∧ Below wr.heap.size wr x) ∨ (vs = [.pointer (some ⟨wr.heap.size, 0, none⟩), undef] ∧ BoxN wr.heap.size A1 n1 c1 A2 n2 c2 A3 n3 c3 x ∧ Below wr.heap.size wr x)))
        ⟨HF0.out _ (below_drewN wr 1), .inl ⟨rfl, rfl⟩⟩ (by kernel_rfl) (backsB_spec (by kernel_rfl)) (by kernel_rfl) (by decide) (by decide) ?pure7 ?acts7 ?fin7
      case pure7 =>
        intro i vs o listed a1 x hic ho hR hwait hlen hk hund hdep
        obtain ⟨⟨f0, f1, f2⟩, -⟩ := hR
        have hi : i < 18 := (Array.getElem?_eq_some_iff.1 ho).1
        have hii : i = 0 ∨ i = 1 ∨ i = 2 ∨ i = 3 ∨ i = 4 ∨ i = 5 ∨ i = 6 ∨ i = 7 ∨ i = 8 ∨ i = 9 ∨ i = 10 ∨ i = 11 ∨ i = 12 ∨ i = 13 ∨ i = 14 ∨ i = 15 := by simp at hic; omega
        rcases hii with rfl | rfl | rfl | rfl | rfl | rfl | rfl | rfl | rfl | rfl | rfl | rfl | rfl | rfl | rfl | rfl
        · cases ho
          have e0 := ev (show a1.eval (.tmp 0) = .slice (some ⟨b0, o0, none⟩) m c from hk.frame 0 (frame_of (by kernel_rfl)))
          exact ⟨rfl, by simp [execOp, e0, Act.eval]⟩
        · cases ho
          have e4 := ev (show a1.eval (.tmp 4) = .int .i64 k from hk.frame 4 (frame_of (by kernel_rfl)))
          exact ⟨rfl, by simp [execOp, e4, Act.eval]⟩
        · cases ho
          have d0 := ev (show a1.eval (.tmp 17) = .slice (some ⟨b0, o0, none⟩) m c from hk.done 0 _ 17 rfl rfl (hdep ⟨0, .data⟩ (by simp) rfl) (by decide))
          have d1 := ev (show a1.eval (.tmp 18) = .int .i64 k from hk.done 1 _ 18 rfl rfl (hdep ⟨1, .data⟩ (by simp) rfl) (by decide))
          exact ⟨rfl, by go_simp⟩
        · cases ho
          have d2 := ev (show a1.eval (.tmp 19) = .pointer (some ⟨b0, o0 + k * 3, none⟩) from hk.done 2 _ 19 rfl rfl (hdep ⟨2, .data⟩ (by simp) rfl) (by decide))
          exact ⟨rfl, by go_simp⟩
        · cases ho
          have d3 := ev (show a1.eval (.tmp 20) = .pointer (some ⟨b0, o0 + k * 3, none⟩) from hk.done 3 _ 20 rfl rfl (hdep ⟨3, .data⟩ (by simp) rfl) (by decide))
          exact ⟨rfl, by go_simp⟩
        · cases ho
          have e0 := ev (show a1.eval (.tmp 0) = .slice (some ⟨b0, o0, none⟩) m c from hk.frame 0 (frame_of (by kernel_rfl)))
          exact ⟨rfl, by simp [execOp, e0, Act.eval]⟩
        · cases ho
          have e4 := ev (show a1.eval (.tmp 4) = .int .i64 k from hk.frame 4 (frame_of (by kernel_rfl)))
          exact ⟨rfl, by simp [execOp, e4, Act.eval]⟩
        · cases ho
          have d5 := ev (show a1.eval (.tmp 22) = .slice (some ⟨b0, o0, none⟩) m c from hk.done 5 _ 22 rfl rfl (hdep ⟨5, .data⟩ (by simp) rfl) (by decide))
          have d6 := ev (show a1.eval (.tmp 23) = .int .i64 k from hk.done 6 _ 23 rfl rfl (hdep ⟨6, .data⟩ (by simp) rfl) (by decide))
          exact ⟨rfl, by go_simp⟩
        · cases ho
          have d7 := ev (show a1.eval (.tmp 24) = .pointer (some ⟨b0, o0 + k * 3, none⟩) from hk.done 7 _ 24 rfl rfl (hdep ⟨7, .data⟩ (by simp) rfl) (by decide))
          exact ⟨rfl, by go_simp⟩
        · cases ho
          have d8 := ev (show a1.eval (.tmp 25) = .pointer (some ⟨b0, o0 + k * 3 + 1, none⟩) from hk.done 8 _ 25 rfl rfl (hdep ⟨8, .data⟩ (by simp) rfl) (by decide))
          exact ⟨rfl, by go_simp⟩
        · cases ho
          have e0 := ev (show a1.eval (.tmp 0) = .slice (some ⟨b0, o0, none⟩) m c from hk.frame 0 (frame_of (by kernel_rfl)))
          exact ⟨rfl, by simp [execOp, e0, Act.eval]⟩
        · cases ho
          have e4 := ev (show a1.eval (.tmp 4) = .int .i64 k from hk.frame 4 (frame_of (by kernel_rfl)))
          exact ⟨rfl, by simp [execOp, e4, Act.eval]⟩
        · cases ho
          have d10 := ev (show a1.eval (.tmp 27) = .slice (some ⟨b0, o0, none⟩) m c from hk.done 10 _ 27 rfl rfl (hdep ⟨10, .data⟩ (by simp) rfl) (by decide))
          have d11 := ev (show a1.eval (.tmp 28) = .int .i64 k from hk.done 11 _ 28 rfl rfl (hdep ⟨11, .data⟩ (by simp) rfl) (by decide))
          exact ⟨rfl, by go_simp⟩
        · cases ho
          have d12 := ev (show a1.eval (.tmp 29) = .pointer (some ⟨b0, o0 + k * 3, none⟩) from hk.done 12 _ 29 rfl rfl (hdep ⟨12, .data⟩ (by simp) rfl) (by decide))
          exact ⟨rfl, by go_simp⟩
        · cases ho
          have d13 := ev (show a1.eval (.tmp 30) = .pointer (some ⟨b0, o0 + k * 3 + 2, none⟩) from hk.done 13 _ 30 rfl rfl (hdep ⟨13, .data⟩ (by simp) rfl) (by decide))
          exact ⟨rfl, by go_simp⟩
        · cases ho
          have d4 := ev (show a1.eval (.tmp 21) = .slice A1 n1 c1 from hk.done 4 _ 21 rfl rfl (hdep ⟨4, .data⟩ (by simp) rfl) (by decide))
          have d9 := ev (show a1.eval (.tmp 26) = .slice A2 n2 c2 from hk.done 9 _ 26 rfl rfl (hdep ⟨9, .data⟩ (by simp) rfl) (by decide))
          have d14 := ev (show a1.eval (.tmp 31) = .slice A3 n3 c3 from hk.done 14 _ 31 rfl rfl (hdep ⟨14, .data⟩ (by simp) rfl) (by decide))
          exact ⟨rfl, by go_simp⟩
      case acts7 =>
        intro i vs o listed a1 x hj ho hev hR hk hund hdep
        obtain ⟨hF, hR⟩ := hR
        rcases hR with ⟨rfl, hP⟩ | ⟨rfl, hP⟩ | ⟨rfl, hP⟩
        · cases hj
          cases ho
          subst hP
          have hbA : Below wr.heap.size wr ((wr.drewN 1).alloc (.cells #[.slice none 0 0, .slice none 0 0, .slice none 0 0] 55)) := (below_drewN wr 1).alloc (Nat.le_refl _) _
          refine ⟨rfl, rexec6 (v := .pointer (some ⟨wr.heap.size, 0, none⟩)) (w' := (wr.drewN 1).alloc (.cells #[.slice none 0 0, .slice none 0 0, .slice none 0 0] 55)) (by go_simp) ?_⟩
          exact ⟨_, rfl, (fun h => absurd (by decide) h), HF0.out _ hbA, .inr (.inl ⟨rfl, boxN_new (wr.drewN 1) .., hbA⟩)⟩
        · cases hj
          cases ho
          have d16 := ev (hev 0 16 _ 5 _ rfl rfl rfl rfl)
          have d15 := ev (show a1.eval (.tmp 32) = .agg #[.slice A1 n1 c1, .slice A2 n2 c2, .slice A3 n3 c3] from hk.done 15 _ 32 rfl rfl (hdep ⟨15, .data⟩ (by simp) rfl) (by decide))
          obtain ⟨p2, p3⟩ := hP
          obtain ⟨z1, z2, z3, z4⟩ := p2.cells
          have hbB : Below wr.heap.size wr (((x.setCell ⟨wr.heap.size, 0, none⟩ (.slice A1 n1 c1)).setCell ⟨wr.heap.size, 1, none⟩ (.slice A2 n2 c2)).setCell ⟨wr.heap.size, 2, none⟩ (.slice A3 n3 c3)) := ((p3.setCell (p := ⟨wr.heap.size, 0, none⟩) (Nat.le_refl _) _).setCell (p := ⟨wr.heap.size, 1, none⟩) (Nat.le_refl _) _).setCell (p := ⟨wr.heap.size, 2, none⟩) (Nat.le_refl _) _
          refine ⟨rfl, rexec5 (w' := ((x.setCell ⟨wr.heap.size, 0, none⟩ (.slice A1 n1 c1)).setCell ⟨wr.heap.size, 1, none⟩ (.slice A2 n2 c2)).setCell ⟨wr.heap.size, 2, none⟩ (.slice A3 n3 c3)) (by go_simp) ?_⟩
          exact ⟨undef, rfl, (fun _ => rfl), HF0.out _ hbB, .inr (.inr ⟨rfl, ((p2.set0 _ _ _).set1 _ _ _).set2 _ _ _, hbB⟩)⟩
        · cases hj
      case fin7 =>
        intro vs listed a2 x hall hlen hev hR hk
        obtain ⟨hF, hR⟩ := hR
        rcases hR with ⟨rfl, hP⟩ | ⟨rfl, hP⟩ | ⟨rfl, hP⟩
        · cases hlen
        · cases hlen
        · have h5 : a2.eval (.tmp 5) = .pointer (some ⟨wr.heap.size, 0, none⟩) := hev 0 16 _ 5 _ rfl rfl rfl rfl
          have hact := fr_all [17, 18, 19, 20, 21, 22, 23, 24, 25, 26, 27, 28, 29, 30, 31, 32, 5] hk (by kernel_rfl)
          simp only [List.foldl_cons, List.foldl_nil, List.setIfInBounds_toArray, List.set_cons_succ, List.set_cons_zero] at hact
          rw [h5] at hact
          generalize a2.eval (.tmp 17) = u17 at hact
          generalize a2.eval (.tmp 18) = u18 at hact
          generalize a2.eval (.tmp 19) = u19 at hact
          generalize a2.eval (.tmp 20) = u20 at hact
          generalize a2.eval (.tmp 21) = u21 at hact
          generalize a2.eval (.tmp 22) = u22 at hact
          generalize a2.eval (.tmp 23) = u23 at hact
          generalize a2.eval (.tmp 24) = u24 at hact
          generalize a2.eval (.tmp 25) = u25 at hact
          generalize a2.eval (.tmp 26) = u26 at hact
          generalize a2.eval (.tmp 27) = u27 at hact
          generalize a2.eval (.tmp 28) = u28 at hact
          generalize a2.eval (.tmp 29) = u29 at hact
          generalize a2.eval (.tmp 30) = u30 at hact
          generalize a2.eval (.tmp 31) = u31 at hact
          generalize a2.eval (.tmp 32) = u32 at hact
          rw [hact]
          clear hact h5 hev hk
          obtain ⟨hBX, hBW⟩ := hP
          have HBX := Lib.hid hBX
          have HBW := Lib.hid hBW
          clear hBX hBW
          have hzz := HBW.out.size
          obtain ⟨y1, y2, y3, y4⟩ := HBX.out.cells
          go_upto_if 36 with fail
          go_cut [] (fun wx => BoxN wr.heap.size A1 (min n1 8) c1 A2 n2 c2 A3 n3 c3 wx ∧ Below wr.heap.size wr wx)
          case first =>
            obtain ⟨hr1, -, -⟩ := HR.out
            by_cases h9 : 8 < n1
            · have HE : Hid (8 = min n1 8) := by show _ = _; omega
              go_wp2_with fail
              go_meet
              exact ⟨by rw [← HE.out]; exact HBX.out.set0 _ _ _, HBW.out.setCell (p := ⟨wr.heap.size, 0, none⟩) (Nat.le_refl _) _⟩
            · have HE : Hid (n1 = min n1 8) := by show _ = _; omega
              go_wp2_with fail
              go_meet
              exact ⟨by rw [← HE.out]; exact HBX.out, HBW.out⟩
          case rest =>
          clear y1 y2 y3 y4
          obtain ⟨hBX, hBW⟩ := hcut
          have HBX := Lib.hid hBX
          have HBW := Lib.hid hBW
          clear hBX hBW
          obtain ⟨wa, rfl⟩ : ∃ y, y = wc := ⟨_, rfl⟩
          obtain ⟨y1, y2, y3, y4⟩ := HBX.out.cells
          go_upto_if 44 with fail
          go_cut [] (fun wx => BoxN wr.heap.size A1 (min n1 8) c1 A2 (min n2 10) c2 A3 n3 c3 wx ∧ Below wr.heap.size wr wx)
          case first =>
            obtain ⟨-, hr2, -⟩ := HR.out
            by_cases h9 : 10 < n2
            · have HE : Hid (10 = min n2 10) := by show _ = _; omega
              go_wp2_with fail
              go_meet
              exact ⟨by rw [← HE.out]; exact HBX.out.set1 _ _ _, HBW.out.setCell (p := ⟨wr.heap.size, 1, none⟩) (Nat.le_refl _) _⟩
            · have HE : Hid (n2 = min n2 10) := by show _ = _; omega
              go_wp2_with fail
              go_meet
              exact ⟨by rw [← HE.out]; exact HBX.out, HBW.out⟩
          case rest =>
          clear y1 y2 y3 y4
          obtain ⟨hBX, hBW⟩ := hcut
          have HBX := Lib.hid hBX
          have HBW := Lib.hid hBW
          clear hBX hBW
          obtain ⟨wb, rfl⟩ : ∃ y, y = wc := ⟨_, rfl⟩
          obtain ⟨y1, y2, y3, y4⟩ := HBX.out.cells
          go_upto_if 52 with fail
          go_cut [] (fun wx => BoxN wr.heap.size A1 (min n1 8) c1 A2 (min n2 10) c2 A3 (min n3 10) c3 wx ∧ Below wr.heap.size wr wx)
          case first =>
            obtain ⟨-, -, hr3⟩ := HR.out
            by_cases h9 : 10 < n3
            · have HE : Hid (10 = min n3 10) := by show _ = _; omega
              go_wp2_with fail
              go_meet
              exact ⟨by rw [← HE.out]; exact HBX.out.set2 _ _ _, HBW.out.setCell (p := ⟨wr.heap.size, 2, none⟩) (Nat.le_refl _) _⟩
            · have HE : Hid (n3 = min n3 10) := by show _ = _; omega
              go_wp2_with fail
              go_meet
              exact ⟨by rw [← HE.out]; exact HBX.out, HBW.out⟩
          case rest =>
          clear y1 y2 y3 y4
          obtain ⟨hBX, hBW⟩ := hcut
          obtain ⟨y1, y2, y3, y4⟩ := hBX.cells
          obtain ⟨m1, hm1⟩ : ∃ y, y = min n1 8 := ⟨_, rfl⟩
          obtain ⟨m2, hm2⟩ : ∃ y, y = min n2 10 := ⟨_, rfl⟩
          obtain ⟨m3, hm3⟩ : ∃ y, y = min n3 10 := ⟨_, rfl⟩
          rw [← hm1] at y1 HN
          rw [← hm2] at y2 HN
          rw [← hm3] at y3 HN
          have hO := row_below HS.out.own hBW (Nat.le_refl _)
          have hBc : Below w.heap.size w wc := HB.out.trans (hBW.mono hwr)
          obtain ⟨v6, w6, hr6, ho6, hg6, -⟩ := run_appN wc w.heap.size v ds hO ⟨A1, m1, c1, A2, m2, c2, A3, m3, c3⟩ (by have := HS.out.len; omega) hBc.size
          have HR6 := Lib.hid hr6
          have HS6 := Lib.hid (HS.out.next HN.out ho6)
          have HB6 := Lib.hid (hBc.grown hg6 hBc.size fun q hq => (hO.lt q hq).1)
          clear hr6 ho6 hg6 hO hBc hBX hBW hm1 hm2 hm3 HBX HBW HR HF0
          go_wp2_with (at_builtin; refine Go.Lib.wpList_append_run _ rfl (.tmp 57) (.tmp 59) 24 24 rfl _ _ rfl rfl _ w6 HR6.out ?_)
          go_roundw
          case rel => exact ⟨k + 1, _, _, _, by omega, by go_num, rfl, HS6, HB6⟩
          case measure => simp [intOf]; omega
    · obtain rfl : k = m := by omega
      obtain ⟨A9, c9, rfl, hle⟩ := row_sl HS.out.own
      have HS' := HS.out
      go_wp2_with fail
      go_ret
      exact ⟨A9, c9, L', by rw [HS.out.len2, HS.out.len]; rfl, nds_of HS.out.own rfl (by rw [HS.out.len2, HS.out.len]) (fun i hi hj => ((HS.out.at_ i hi hj).below HB.out (Nat.le_refl _)).more HB.out.size), by rw [HS.out.len2]; exact hm', HB.out⟩
end Go.Proofs.Yteeeomcdknjolaa.Tre
