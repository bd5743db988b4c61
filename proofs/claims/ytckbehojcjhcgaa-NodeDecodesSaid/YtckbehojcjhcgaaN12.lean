/- Contracts: few. -/
import Derived.Test.YtckbehojcjhcgaaN11
namespace Go.Proofs.Ytckbehojcjhcgaa.Nod
open Go.RowKit Crc Chk Frm Fra

def cutP (p : T × T) : T × T := (p.1.take 100, p.2.take 100)
def cutT (s : T) : T := s.take 100
def fewN (n : Nd) : Nd := ⟨(n.ps.take 9).map cutP, (n.ks.take 12).map cutT, n.cs.take 12⟩
/-- What few keeps: its node's box, the result's box. -/
structure FewB (w0 : World) (A1 : Option Addr) (m1 c1 : Nat) (A2 : Option Addr) (m2 c2 : Nat) (A3 : Option Addr) (m3 c3 : Nat) (w : World) : Prop where
  bx : BoxN w0.heap.size A1 m1 c1 A2 m2 c2 A3 m3 c3 w
  rs : w.heap[w0.heap.size + 1]? = some (.cells nil3 26 (0, 0))
  bl : Below w0.heap.size w0 w
  sz : w0.heap.size + 2 ≤ w.heap.size
theorem FewB.next {w0 : World} {A1 : Option Addr} {m1 c1 : Nat} {A2 : Option Addr} {m2 c2 : Nat} {A3 : Option Addr} {m3 c3 : Nat} {w w' : World} {B : Nat} (h : FewB w0 A1 m1 c1 A2 m2 c2 A3 m3 c3 w) (hb : Below B w w') (hB : w0.heap.size + 2 ≤ B) : FewB w0 A1 m1 c1 A2 m2 c2 A3 m3 c3 w' :=
  ⟨h.bx.below hb (by omega), (hb.block _ (by omega)).trans h.rs, h.bl.trans (hb.mono (by omega)), Nat.le_trans h.sz hb.size⟩
theorem BoxN.set0 {r : Nat} {A1 : Option Addr} {n1 c1 : Nat} {A2 : Option Addr} {n2 c2 : Nat} {A3 : Option Addr} {n3 c3 : Nat} {w : World} (h : BoxN r A1 n1 c1 A2 n2 c2 A3 n3 c3 w) (A : Option Addr) (n c : Nat) : BoxN r A n c A2 n2 c2 A3 n3 c3 (w.setCell ⟨r, 0, none⟩ (.slice A n c)) := by
  unfold BoxN at h ⊢
  simp [World.setCell, Array.getElem?_modify, h]
theorem BoxN.set1 {r : Nat} {A1 : Option Addr} {n1 c1 : Nat} {A2 : Option Addr} {n2 c2 : Nat} {A3 : Option Addr} {n3 c3 : Nat} {w : World} (h : BoxN r A1 n1 c1 A2 n2 c2 A3 n3 c3 w) (A : Option Addr) (n c : Nat) : BoxN r A1 n1 c1 A n c A3 n3 c3 (w.setCell ⟨r, 1, none⟩ (.slice A n c)) := by
  unfold BoxN at h ⊢
  simp [World.setCell, Array.getElem?_modify, h]
theorem BoxN.set2 {r : Nat} {A1 : Option Addr} {n1 c1 : Nat} {A2 : Option Addr} {n2 c2 : Nat} {A3 : Option Addr} {n3 c3 : Nat} {w : World} (h : BoxN r A1 n1 c1 A2 n2 c2 A3 n3 c3 w) (A : Option Addr) (n c : Nat) : BoxN r A1 n1 c1 A2 n2 c2 A n c (w.setCell ⟨r, 2, none⟩ (.slice A n c)) := by
  unfold BoxN at h ⊢
  simp [World.setCell, Array.getElem?_modify, h]
theorem FewB.set {w0 : World} {A1 : Option Addr} {m1 c1 : Nat} {A2 : Option Addr} {m2 c2 : Nat} {A3 : Option Addr} {m3 c3 : Nat} {w : World} {A1' : Option Addr} {m1' c1' : Nat} {A2' : Option Addr} {m2' c2' : Nat} {A3' : Option Addr} {m3' c3' : Nat} (h : FewB w0 A1 m1 c1 A2 m2 c2 A3 m3 c3 w) (j : Nat) (v : Value)
    (hb : BoxN w0.heap.size A1' m1' c1' A2' m2' c2' A3' m3' c3' (w.setCell ⟨w0.heap.size, j, none⟩ v)) : FewB w0 A1' m1' c1' A2' m2' c2' A3' m3' c3' (w.setCell ⟨w0.heap.size, j, none⟩ v) :=
  ⟨hb, (Below.heap_setCell w ⟨w0.heap.size, j, none⟩ v _ (show w0.heap.size + 1 ≠ w0.heap.size by omega)).trans h.rs, h.bl.setCell (p := ⟨w0.heap.size, j, none⟩) (Nat.le_refl _) _, by simpa [World.setCell] using h.sz⟩
theorem wp_exact4 {P : Program} {o : Oper} {a : Act} {w w' : World} {K : Act → World → Prop} {Q : Exit → Act → World → Prop} {v : Value} (h : (execOp a.eval o).run P w = .ok (.value v) w') (hk : K (a.put o.dst v) w') : o.wp P a w K Q := by
  unfold Oper.wp
  rw [h]
  exact hk
set_option maxHeartbeats 3200000 in
theorem few_any (n : Nd) (A1 : Option Addr) (n1 c1 : Nat) (A2 : Option Addr) (n2 c2 : Nat) (A3 : Option Addr) (n3 c3 : Nat) (w : World) (h : IsN w w.heap.size n A1 n1 c1 A2 n2 c2 A3 n3 c3) :
    Calls Try.prog 7 #[nv A1 n1 c1 A2 n2 c2 A3 n3 c3] w (ReadD w (fewN n)) := by
  obtain ⟨W1, hW1⟩ : ∃ W1, W1 = (w.alloc (.cells #[.slice A1 n1 c1, .slice A2 n2 c2, .slice A3 n3 c3] 26)).alloc (.cells nil3 26) := ⟨_, rfl⟩
  have HF1 : Hid (FewB w A1 n1 c1 A2 n2 c2 A3 n3 c3 W1) := by
    have hb : Below w.heap.size w W1 := by rw [hW1]; exact ((Below.refl _ _).alloc (Nat.le_refl _) _).alloc (by rw [alloc_size]; omega) _
    refine ⟨?_, ?_, hb, by rw [hW1, alloc_size, alloc_size]; omega⟩
    · rw [hW1]
      exact (Below.heap_alloc _ _ w.heap.size (by rw [alloc_size]; omega)).trans (boxN_new w ..)
    · have := heap_alloc_new (w.alloc (.cells #[.slice A1 n1 c1, .slice A2 n2 c2, .slice A3 n3 c3] 26)) (.cells nil3 26)
      rw [alloc_size] at this
      rw [hW1]; exact this
  have HW1 := Lib.hid hW1
  have HN := Lib.hid h
  obtain ⟨m1, hm1⟩ : ∃ m, m = min n1 9 := ⟨_, rfl⟩
  obtain ⟨m2, hm2⟩ : ∃ m, m = min n2 12 := ⟨_, rfl⟩
  obtain ⟨m3, hm3⟩ : ∃ m, m = min n3 12 := ⟨_, rfl⟩
  have r1 := h.r1
  have r2 := h.r2
  have r3 := h.r3
  have q1 := h.m1
  have q2 := h.m2
  have q3 := h.m3
  have HM1 := Lib.hid hm1
  have HM2 := Lib.hid hm2
  have HM3 := Lib.hid hm3
  have hm1' : m1 ≤ 9 := by omega
  have hm2' : m2 ≤ 12 := by omega
  clear hW1 h hm1 hm2 hm3
  go_enter Try.func7, Try.ntmps7
  go_upto_region 1 with fail
  rw [← HW1.out]
  obtain ⟨k0, k1, k2, k4⟩ := HF1.out.bx.cells
  go_upto_if 10 with fail
  go_cut [7] (fun s7 wx => s7 = s7 ∧ FewB w A1 m1 c1 A2 n2 c2 A3 n3 c3 wx)
  case first =>
    by_cases hlt : 9 < n1
    · have HG := Lib.hid (HF1.out.set 0 (.slice A1 9 c1) (HF1.out.bx.set0 A1 9 c1))
      have HE : Hid (m1 = 9) := by show _ = _; rw [HM1.out]; omega
      go_wp2_with fail
      go_meet
      exact ⟨trivial, by rw [HE.out]; exact HG.out⟩
    · have HE : Hid (m1 = n1) := by show _ = _; rw [HM1.out]; omega
      go_wp2_with fail
      go_meet
      exact ⟨trivial, by rw [HE.out]; exact HF1.out⟩
  case rest =>
  obtain ⟨-, hf2⟩ := hcut
  obtain ⟨W2, rfl⟩ : ∃ x, x = wc := ⟨wc, rfl⟩
  have HF2 := Lib.hid hf2
  clear hf2 k0 k1 k2 k4 HF1 HW1
  obtain ⟨k0, k1, k2, k4⟩ := HF2.out.bx.cells
  go_upto_if 18 with fail
  go_cut [15] (fun s7 wx => s7 = s7 ∧ FewB w A1 m1 c1 A2 m2 c2 A3 n3 c3 wx)
  case first =>
    by_cases hlt : 12 < n2
    · have HG := Lib.hid (HF2.out.set 1 (.slice A2 12 c2) (HF2.out.bx.set1 A2 12 c2))
      have HE : Hid (m2 = 12) := by show _ = _; rw [HM2.out]; omega
      go_wp2_with fail
      go_meet
      exact ⟨trivial, by rw [HE.out]; exact HG.out⟩
    · have HE : Hid (m2 = n2) := by show _ = _; rw [HM2.out]; omega
      go_wp2_with fail
      go_meet
      exact ⟨trivial, by rw [HE.out]; exact HF2.out⟩
  case rest =>
  obtain ⟨-, hf3⟩ := hcut
  obtain ⟨W3, rfl⟩ : ∃ x, x = wc := ⟨wc, rfl⟩
  have HF3 := Lib.hid hf3
  clear hf3 k0 k1 k2 k4 HF2
  obtain ⟨k0, k1, k2, k4⟩ := HF3.out.bx.cells
  go_upto_if 26 with fail
  go_cut [23] (fun s7 wx => s7 = s7 ∧ FewB w A1 m1 c1 A2 m2 c2 A3 m3 c3 wx)
  case first =>
    by_cases hlt : 12 < n3
    · have HG := Lib.hid (HF3.out.set 2 (.slice A3 12 c3) (HF3.out.bx.set2 A3 12 c3))
      have HE : Hid (m3 = 12) := by show _ = _; rw [HM3.out]; omega
      go_wp2_with fail
      go_meet
      exact ⟨trivial, by rw [HE.out]; exact HG.out⟩
    · have HE : Hid (m3 = n3) := by show _ = _; rw [HM3.out]; omega
      go_wp2_with fail
      go_meet
      exact ⟨trivial, by rw [HE.out]; exact HF3.out⟩
  case rest =>
  obtain ⟨-, hf4⟩ := hcut
  obtain ⟨W4, rfl⟩ : ∃ x, x = wc := ⟨wc, rfl⟩
  have HF4 := Lib.hid hf4
  clear hf4 k0 k1 k2 k4 HF3
  go_wp2_with fail
  obtain ⟨k0, k1, k2, k4⟩ := HF4.out.bx.cells
  clear k0 k1 k2 k4
  go_loopw [3, 4] (fun y i wr => ∃ (k : Nat) (v : Value), k ≤ m1 ∧ i = .int .i64 k ∧ v = y ∧ Hid (OwnP wr (w.heap.size + 2) v ((n.ps.take k).map cutP)) ∧ Hid (FewB w A1 m1 c1 A2 m2 c2 A3 m3 c3 wr)) (fun _ i _ => m1 - (intOf i).toNat)
  case atStart => exact ⟨0, .slice none 0 0, Nat.zero_le _, rfl, rfl, World.ownsRow_nil _ _ _ _, HF4.out⟩
  case round =>
    obtain ⟨k, v, hk, rfl, rfl, HO, HF⟩ := hrel
    obtain ⟨k0, k1, k2, k4⟩ := HF.out.bx.cells
    by_cases hlt : k < m1
    · have hlt' : k < n.ps.length := by rw [HN.out.l1]; have := HM1.out; omega
      have HP := HN.out.ps
      obtain ⟨b0, o0, rfl, hb1, hc0, hd0⟩ := HP k hlt'
      have hc := (HF.out.bl.cell (p := ⟨b0, o0 + k * 2, none⟩) hb1).trans hc0
      have hd := (HF.out.bl.cell (p := ⟨b0, o0 + k * 2 + 1, none⟩) hb1).trans hd0
      have HS : Hid ((n.ps.take (k + 1)).map cutP = (n.ps.take k).map cutP ++ [(n.ps[k].1.take 100, n.ps[k].2.take 100)]) := by
        show _ = _
        rw [List.take_succ_eq_append_getElem hlt', List.map_append]; rfl
      have hll : ((n.ps.take k).map cutP).length ≤ 1000000 := by rw [List.length_map, List.length_take]; omega
      have HT1 := Lib.hid (ltext_any n.ps[k].1)
      have HT2 := Lib.hid (ltext_any n.ps[k].2)
      obtain ⟨v2, w2, hrun2, hown2, hb2, hz2⟩ := run_appP (wr.drewN 1) (w.heap.size + 2) v _ HO.out (n.ps[k].1.take 100) (n.ps[k].2.take 100) hll HF.out.sz
      have HO2 : Hid (OwnP w2 (w.heap.size + 2) v2 ((n.ps.take (k + 1)).map cutP)) := by show World.ownsRow _ _ _ _ _ _ _; rw [HS.out]; exact hown2
      have hbw : Below (w.heap.size + 2) wr w2 := ((below_drewN wr 1).mono HF.out.sz).trans hb2
      have HF2 := Lib.hid (HF.out.next hbw (Nat.le_refl _))
      obtain ⟨t, ht⟩ : ∃ t, t = text n.ps[k].1 := ⟨_, rfl⟩
      obtain ⟨u, hu⟩ : ∃ t, t = text n.ps[k].2 := ⟨_, rfl⟩
      obtain ⟨ta, hta⟩ : ∃ t, t = text (n.ps[k].1.take 100) := ⟨_, rfl⟩
      obtain ⟨ub, hub⟩ : ∃ t, t = text (n.ps[k].2.take 100) := ⟨_, rfl⟩
      rw [← ht] at hc HT1
      rw [← hu] at hd HT2
      rw [← hta] at HT1 hrun2
      rw [← hub] at HT2 hrun2
      have HK2 : Hid (w2.cell? ⟨w.heap.size, 0, none⟩ = some (.slice (some ⟨b0, o0, none⟩) m1 c1) ∧ w2.cell? ⟨b0, o0 + k * 2, none⟩ = some (.string t) ∧ w2.cell? ⟨b0, o0 + k * 2 + 1, none⟩ = some (.string u)) :=
        ⟨(hbw.cell (p := ⟨w.heap.size, 0, none⟩) (show w.heap.size < w.heap.size + 2 by omega)).trans k0, (hbw.cell (p := ⟨b0, o0 + k * 2, none⟩) (show b0 < w.heap.size + 2 by omega)).trans hc, (hbw.cell (p := ⟨b0, o0 + k * 2 + 1, none⟩) (show b0 < w.heap.size + 2 by omega)).trans hd⟩
      have hzl : w.heap.size < (wr.drewN 1).heap.size := by have := HF.out.sz; show _ < wr.heap.size; omega
      have hbl : b0 < (wr.drewN 1).heap.size := by omega
      have HR2 := Lib.hid hrun2
      clear hc0 hd0 hlt' HP hll hrun2 hown2 hb2 hz2 hbw ht hu hta hub HS
      go_upto_region 11 with fail
      refine wp_region_chain (by kernel_rfl) (fun i => [v, .pointer (some ⟨w.heap.size, 0, none⟩), .slice (some ⟨b0, o0, none⟩) m1 c1, .int .i64 k, .pointer (some ⟨b0, o0 + k * 2, none⟩), .pointer (some ⟨b0, o0 + k * 2, none⟩), .string t, .string ta, .pointer (some ⟨w.heap.size, 0, none⟩), .slice (some ⟨b0, o0, none⟩) m1 c1, .int .i64 k, .pointer (some ⟨b0, o0 + k * 2, none⟩), .pointer (some ⟨b0, o0 + k * 2 + 1, none⟩), .string u, .string ub, .agg #[.string ta, .string ub], .slice (some ⟨wr.heap.size, 0, none⟩) 1 1, v2, v2].getD i undef) [7, 14, 15, 16, 17, 18] []
        (fun x => x.cell? ⟨w.heap.size, 0, none⟩ = some (.slice (some ⟨b0, o0, none⟩) m1 c1) ∧ x.cell? ⟨b0, o0 + k * 2, none⟩ = some (.string t) ∧ x.cell? ⟨b0, o0 + k * 2 + 1, none⟩ = some (.string u))
        (fun j _ x => match j with | 0 => x = wr.drewN 1 | 1 => x = wr.drewN 1 | 2 => x = wr.drewN 1 | 3 => x = wr.drewN 1 | 4 => x = (wr.drewN 1).alloc (.cells #[.string ta, .string ub] 49) | _ => x = w2)
        ⟨k0, hc, hd⟩ rfl (by kernel_rfl) (backsB_spec (by kernel_rfl)) (by kernel_rfl) (by decide) (by decide) ?pure11 ?acts11 ?fin11
      case pure11 =>
        intro i o listed a1 x hic ho hF hk hund hdep
        obtain ⟨z0, z1, z2⟩ := hF
        have hi : i < 19 := (Array.getElem?_eq_some_iff.1 ho).1
        have e1 := ev (show a1.eval (.tmp 1) = .pointer (some ⟨w.heap.size, 0, none⟩) from hk.frame 1 (frame_of (by kernel_rfl)))
        have e4 := ev (show a1.eval (.tmp 4) = .int .i64 k from hk.frame 4 (frame_of (by kernel_rfl)))
        have hii : i = 0 ∨ i = 1 ∨ i = 2 ∨ i = 3 ∨ i = 4 ∨ i = 5 ∨ i = 6 ∨ i = 8 ∨ i = 9 ∨ i = 10 ∨ i = 11 ∨ i = 12 ∨ i = 13 := by simp at hic; omega
        rcases hii with rfl | rfl | rfl | rfl | rfl | rfl | rfl | rfl | rfl | rfl | rfl | rfl | rfl
        · cases ho
          have e3 := ev (show a1.eval (.tmp 3) = v from hund 18 _ 3 rfl rfl (by kernel_rfl))
          exact ⟨rfl, by simp [execOp, e3, Act.eval]⟩
        · cases ho
          exact ⟨rfl, by go_simp⟩
        · cases ho
          have d1 := ev (show a1.eval (.tmp 39) = .pointer (some ⟨w.heap.size, 0, none⟩) from hk.done 1 _ 39 rfl rfl (hdep ⟨1, .data⟩ (by simp) rfl) (by decide))
          exact ⟨rfl, by go_simp⟩
        · cases ho
          exact ⟨rfl, by simp [execOp, e4, Act.eval]⟩
        · cases ho
          have d2 := ev (show a1.eval (.tmp 40) = .slice (some ⟨b0, o0, none⟩) m1 c1 from hk.done 2 _ 40 rfl rfl (hdep ⟨2, .data⟩ (by simp) rfl) (by decide))
          have d3 := ev (show a1.eval (.tmp 41) = .int .i64 k from hk.done 3 _ 41 rfl rfl (hdep ⟨3, .data⟩ (by simp) rfl) (by decide))
          exact ⟨rfl, by go_simp⟩
        · cases ho
          have d4 := ev (show a1.eval (.tmp 42) = .pointer (some ⟨b0, o0 + k * 2, none⟩) from hk.done 4 _ 42 rfl rfl (hdep ⟨4, .data⟩ (by simp) rfl) (by decide))
          exact ⟨rfl, by go_simp⟩
        · cases ho
          have d5 := ev (show a1.eval (.tmp 43) = .pointer (some ⟨b0, o0 + k * 2, none⟩) from hk.done 5 _ 43 rfl rfl (hdep ⟨5, .data⟩ (by simp) rfl) (by decide))
          exact ⟨rfl, by go_simp⟩
        · cases ho
          exact ⟨rfl, by go_simp⟩
        · cases ho
          have d8 := ev (show a1.eval (.tmp 46) = .pointer (some ⟨w.heap.size, 0, none⟩) from hk.done 8 _ 46 rfl rfl (hdep ⟨8, .data⟩ (by simp) rfl) (by decide))
          exact ⟨rfl, by go_simp⟩
        · cases ho
          exact ⟨rfl, by simp [execOp, e4, Act.eval]⟩
        · cases ho
          have d9 := ev (show a1.eval (.tmp 47) = .slice (some ⟨b0, o0, none⟩) m1 c1 from hk.done 9 _ 47 rfl rfl (hdep ⟨9, .data⟩ (by simp) rfl) (by decide))
          have d10 := ev (show a1.eval (.tmp 48) = .int .i64 k from hk.done 10 _ 48 rfl rfl (hdep ⟨10, .data⟩ (by simp) rfl) (by decide))
          exact ⟨rfl, by go_simp⟩
        · cases ho
          have d11 := ev (show a1.eval (.tmp 49) = .pointer (some ⟨b0, o0 + k * 2, none⟩) from hk.done 11 _ 49 rfl rfl (hdep ⟨11, .data⟩ (by simp) rfl) (by decide))
          exact ⟨rfl, by go_simp⟩
        · cases ho
          have d12 := ev (show a1.eval (.tmp 50) = .pointer (some ⟨b0, o0 + k * 2 + 1, none⟩) from hk.done 12 _ 50 rfl rfl (hdep ⟨12, .data⟩ (by simp) rfl) (by decide))
          exact ⟨rfl, by go_simp⟩
      case acts11 =>
        intro i j o listed a1 x hj ho hF hst hk hund hdep
        have hjj : j = 0 ∨ j = 1 ∨ j = 2 ∨ j = 3 ∨ j = 4 ∨ j = 5 := by
          have := (List.getElem?_eq_some_iff.1 hj).1
          simp at this; omega
        rcases hjj with rfl | rfl | rfl | rfl | rfl | rfl
        · cases hj
          cases ho
          have hR : x = wr.drewN 1 := hst.1 rfl
          subst hR
          have d6 := ev (show a1.eval (.tmp 44) = .string t from hk.done 6 _ 44 rfl rfl (hdep ⟨6, .data⟩ (by simp) rfl) (by decide))
          refine ⟨rfl, ?_⟩
          go_simp
          refine (HT1.out _).mono ?_
          rintro e x' ⟨rfl, rfl⟩
          exact ⟨_, rfl, rfl, hF, rfl⟩
        · cases hj
          cases ho
          have hR : x = wr.drewN 1 := hst.2 0 7 _ 45 rfl rfl rfl rfl
          subst hR
          have d13 := ev (show a1.eval (.tmp 51) = .string u from hk.done 13 _ 51 rfl rfl (hdep ⟨13, .data⟩ (by simp) rfl) (by decide))
          refine ⟨rfl, ?_⟩
          go_simp
          refine (HT2.out _).mono ?_
          rintro e x' ⟨rfl, rfl⟩
          exact ⟨_, rfl, rfl, hF, rfl⟩
        · cases hj
          cases ho
          have hR : x = wr.drewN 1 := hst.2 1 14 _ 52 rfl rfl rfl rfl
          subst hR
          have d7 := ev (show a1.eval (.tmp 45) = .string ta from hk.done 7 _ 45 rfl rfl (hdep ⟨7, .data⟩ (by simp) rfl) (by decide))
          have d14 := ev (show a1.eval (.tmp 52) = .string ub from hk.done 14 _ 52 rfl rfl (hdep ⟨14, .data⟩ (by simp) rfl) (by decide))
          refine ⟨rfl, Oper.wp_mono (fun a' w' hl => ?_) (wp_value (v := .agg #[.string ta, .string ub]) (φ := fun v w' => v = .agg #[.string ta, .string ub] ∧ w' = wr.drewN 1) (by go_simp) ⟨rfl, rfl⟩)⟩
          obtain ⟨v', rfl, ⟨rfl, rfl⟩, -⟩ := hl
          exact ⟨_, rfl, (fun _ => rfl), hF, rfl⟩
        · cases hj
          cases ho
          have hR : x = wr.drewN 1 := hst.2 2 15 _ 53 rfl rfl rfl rfl
          subst hR
          have d15 := ev (show a1.eval (.tmp 53) = .agg #[.string ta, .string ub] from hk.done 15 _ 53 rfl rfl (hdep ⟨15, .data⟩ (by simp) rfl) (by decide))
          refine ⟨rfl, wp_exact4 (v := .slice (some ⟨wr.heap.size, 0, none⟩) 1 1) (w' := (wr.drewN 1).alloc (.cells #[.string ta, .string ub] 49)) (by go_simp) ?_⟩
          exact ⟨_, rfl, (fun _ => rfl), ⟨(World.cell?_alloc_lt _ _ ⟨w.heap.size, 0, none⟩ hzl).trans hF.1, (World.cell?_alloc_lt _ _ ⟨b0, _, none⟩ hbl).trans hF.2.1, (World.cell?_alloc_lt _ _ ⟨b0, _, none⟩ hbl).trans hF.2.2⟩, rfl⟩
        · cases hj
          cases ho
          have hR : x = (wr.drewN 1).alloc (.cells #[.string ta, .string ub] 49) := hst.2 3 16 _ 54 rfl rfl rfl rfl
          subst hR
          have D0 : a1.eval (.tmp 38) = v := hk.done 0 _ 38 rfl rfl (hdep ⟨0, .data⟩ (by simp) rfl) (by decide)
          have D16 : a1.eval (.tmp 54) = .slice (some ⟨wr.heap.size, 0, none⟩) 1 1 := hk.done 16 _ 54 rfl rfl (hdep ⟨16, .data⟩ (by simp) rfl) (by decide)
          refine ⟨rfl, Go.Lib.wp_append_run _ (.tmp 38) (.tmp 54) 22 22 rfl _ _ D0 D16 v2 w2 HR2.out ?_⟩
          exact ⟨_, rfl, (fun _ => rfl), ⟨HK2.out.1, HK2.out.2.1, HK2.out.2.2⟩, rfl⟩
        · cases hj
          cases ho
          have hR : x = w2 := hst.2 4 17 _ 55 rfl rfl rfl rfl
          have d17 := ev (show a1.eval (.tmp 55) = v2 from hk.done 17 _ 55 rfl rfl (hdep ⟨17, .data⟩ (by simp) rfl) (by decide))
          refine ⟨rfl, Oper.wp_mono (fun a' w' hl => ?_) (wp_value (v := v2) (φ := fun v w' => v = v2 ∧ w' = x) (by simp [execOp, d17, Act.eval]) ⟨rfl, rfl⟩)⟩
          obtain ⟨v', rfl, ⟨rfl, rfl⟩, -⟩ := hl
          exact ⟨_, rfl, (fun _ => rfl), hF, hR⟩
      case fin11 =>
        intro listed a2 x hall hF hst hk
        have hR : x = w2 := hst.2 5 18 _ 3 rfl rfl rfl rfl
        subst hR
        have h3 : a2.eval (.tmp 3) = v2 := hk.done 18 _ 3 rfl rfl (hall 18 (by decide)) (by decide)
        have hact := fr_all [38, 39, 40, 41, 42, 43, 44, 45, 46, 47, 48, 49, 50, 51, 52, 53, 54, 55, 3] hk (by kernel_rfl)
        simp only [List.foldl_cons, List.foldl_nil, List.setIfInBounds_toArray, List.set_cons_succ, List.set_cons_zero] at hact
        rw [h3] at hact
        generalize a2.eval (.tmp 38) = u38 at hact
        generalize a2.eval (.tmp 39) = u39 at hact
        generalize a2.eval (.tmp 40) = u40 at hact
        generalize a2.eval (.tmp 41) = u41 at hact
        generalize a2.eval (.tmp 42) = u42 at hact
        generalize a2.eval (.tmp 43) = u43 at hact
        generalize a2.eval (.tmp 44) = u44 at hact
        generalize a2.eval (.tmp 45) = u45 at hact
        generalize a2.eval (.tmp 46) = u46 at hact
        generalize a2.eval (.tmp 47) = u47 at hact
        generalize a2.eval (.tmp 48) = u48 at hact
        generalize a2.eval (.tmp 49) = u49 at hact
        generalize a2.eval (.tmp 50) = u50 at hact
        generalize a2.eval (.tmp 51) = u51 at hact
        generalize a2.eval (.tmp 52) = u52 at hact
        generalize a2.eval (.tmp 53) = u53 at hact
        generalize a2.eval (.tmp 54) = u54 at hact
        generalize a2.eval (.tmp 55) = u55 at hact
        rw [hact]
        clear hact h3 hst hF hk
        go_wp2_with fail
        go_roundw
        case rel => exact ⟨k + 1, _, by omega, by go_num, rfl, HO2.out, HF2.out⟩
        case measure => simp [intOf]; omega
    · obtain rfl : k = m1 := by omega
      have HPs : Hid ((n.ps.take k).map cutP = (n.ps.take 9).map cutP) := by
        show _ = _
        have h1 := HN.out.l1
        have h2 := HM1.out
        congr 1
        rw [h2, ← h1, Nat.min_comm, ← List.take_take, List.take_length]
      obtain ⟨ps, hps⟩ : ∃ ps, ps = (n.ps.take 9).map cutP := ⟨_, rfl⟩
      rw [HPs.out, ← hps] at HO
      have hpl : ps.length = k := by rw [hps, ← HPs.out, List.length_map, List.length_take, HN.out.l1]; have := HM1.out; omega
      obtain ⟨A, c, rfl, hAc⟩ := row_sl HO.out
      rw [hpl] at hAc
      have HRP : Hid (wr.ownsRow (w.heap.size + 2) 49 2 (.slice A k c) k (pcs ps)) := by have h5 := HO.out; unfold OwnP at h5; rwa [hpl] at h5
      have HPN := Lib.hid hps
      obtain ⟨W5, hW5⟩ : ∃ W5, W5 = wr.setCell ⟨w.heap.size, 0, none⟩ (.slice A k c) := ⟨_, rfl⟩
      have HF5 : Hid (FewB w A k c A2 m2 c2 A3 m3 c3 W5) := by rw [hW5]; exact HF.out.set 0 _ (HF.out.bx.set0 A k c)
      have HR5 : Hid (W5.ownsRow (w.heap.size + 2) 49 2 (.slice A k c) k (pcs ps)) := by rw [hW5]; exact ownsRow_setCell_other HRP.out (a := ⟨w.heap.size, 0, none⟩) (row_ne HRP.out HF.out.bx (by decide)) _
      have HW5 := Lib.hid hW5
      rw [hpl]
      clear hps hW5 HO
      go_upto_region 13 with fail
      rw [← HW5.out]
      clear k0 k1 k2 k4
      go_wp2_with fail
      go_loopw [5, 6] (fun y i wr => ∃ (j : Nat) (v : Value), j ≤ m2 ∧ i = .int .i64 j ∧ v = y ∧ Hid (OwnT wr W5.heap.size v ((n.ks.take j).map cutT)) ∧ Hid (Below W5.heap.size W5 wr)) (fun _ i _ => m2 - (intOf i).toNat)
      case atStart => exact ⟨0, .slice none 0 0, Nat.zero_le _, rfl, rfl, World.ownsRow_nil _ _ _ _, Below.refl _ _⟩
      case round =>
        obtain ⟨j, v, hj, rfl, rfl, HO, HB⟩ := hrel
        have hz5 := HF5.out.sz
        have HFr := Lib.hid (HF5.out.next HB.out hz5)
        obtain ⟨k0, k1, k2, k4⟩ := HFr.out.bx.cells
        by_cases hlt : j < m2
        · have hlt' : j < n.ks.length := by rw [HN.out.l2]; have := HM2.out; omega
          have HK := HN.out.ks
          obtain ⟨b0, o0, rfl, hb1, hc0⟩ := HK j hlt'
          have hc := (HFr.out.bl.cell (p := ⟨b0, o0 + j, none⟩) hb1).trans hc0
          have HS : Hid ((n.ks.take (j + 1)).map cutT = (n.ks.take j).map cutT ++ [n.ks[j].take 100]) := by
            show _ = _
            rw [List.take_succ_eq_append_getElem hlt', List.map_append]; rfl
          have hll : ((n.ks.take j).map cutT).length ≤ 1000000 := by rw [List.length_map, List.length_take]; omega
          have HT1 := Lib.hid (ltext_any n.ks[j])
          obtain ⟨v2, w2, hrun2, hown2, hb2, hz2⟩ := run_appT wr W5.heap.size v _ HO.out (n.ks[j].take 100) hll HB.out.size
          have HO2 : Hid (OwnT w2 W5.heap.size v2 ((n.ks.take (j + 1)).map cutT)) := by show World.ownsRow _ _ _ _ _ _ _; rw [HS.out]; exact hown2
          have HB2 := Lib.hid (HB.out.trans hb2)
          obtain ⟨t, ht⟩ : ∃ t, t = text n.ks[j] := ⟨_, rfl⟩
          obtain ⟨ta, hta⟩ : ∃ t, t = text (n.ks[j].take 100) := ⟨_, rfl⟩
          rw [← ht] at hc HT1
          rw [← hta] at HT1 hrun2
          have HR2 := Lib.hid hrun2
          clear hc0 hlt' HK hll hrun2 hown2 hb2 hz2 ht hta HS
          go_wp2_with fail
          refine (HT1.out _).mono ?_
          rintro e w3 ⟨rfl, rfl⟩
          go_wp2_with (at_builtin; refine Go.Lib.wpList_append_run _ rfl (.tmp 65) (.tmp 72) 23 23 rfl _ _ rfl rfl v2 w2 HR2.out ?_)
          go_roundw
          case rel => exact ⟨j + 1, _, by omega, by go_num, rfl, HO2.out, HB2.out⟩
          case measure => simp [intOf]; omega
        · obtain rfl : j = m2 := by omega
          have HKs : Hid ((n.ks.take j).map cutT = (n.ks.take 12).map cutT) := by
            show _ = _
            have h1 := HN.out.l2
            have h2 := HM2.out
            congr 1
            rw [h2, ← h1, Nat.min_comm, ← List.take_take, List.take_length]
          obtain ⟨ks, hks⟩ : ∃ ks, ks = (n.ks.take 12).map cutT := ⟨_, rfl⟩
          rw [HKs.out, ← hks] at HO
          have hkl : ks.length = j := by rw [hks, ← HKs.out, List.length_map, List.length_take, HN.out.l2]; have := HM2.out; omega
          obtain ⟨A', c', rfl, hAc'⟩ := row_sl HO.out
          rw [hkl] at hAc'
          have HRK : Hid (wr.ownsRow W5.heap.size 9 1 (.slice A' j c') j (tcs ks)) := by have h5 := HO.out; unfold OwnT at h5; rwa [hkl] at h5
          have HRPr := Lib.hid (row_below HR5.out HB.out (Nat.le_refl _))
          have HKN := Lib.hid hks
          obtain ⟨W7, hW7⟩ : ∃ W7, W7 = wr.setCell ⟨w.heap.size, 1, none⟩ (.slice A' j c') := ⟨_, rfl⟩
          have HF7 : Hid (FewB w A k c A' j c' A3 m3 c3 W7) := by rw [hW7]; exact HFr.out.set 1 _ (HFr.out.bx.set1 A' j c')
          have HRP7 : Hid (W7.ownsRow (w.heap.size + 2) 49 2 (.slice A k c) k (pcs ps)) := by rw [hW7]; exact ownsRow_setCell_other HRPr.out (a := ⟨w.heap.size, 1, none⟩) (row_ne HRPr.out HFr.out.bx (by decide)) _
          have HRK7 : Hid (W7.ownsRow W5.heap.size 9 1 (.slice A' j c') j (tcs ks)) := by rw [hW7]; exact ownsRow_setCell_other HRK.out (a := ⟨w.heap.size, 1, none⟩) (row_ne HRK.out HFr.out.bx (by decide)) _
          have HW7 := Lib.hid hW7
          rw [hkl]
          clear hks hW7 HO
          go_upto_region 19 with fail
          rw [← HW7.out]
          clear k0 k1 k2 k4
          obtain ⟨k0, k1, k2, -⟩ := HF7.out.bx.cells
          obtain ⟨q0, q1, q2, q4⟩ := (show BoxN (w.heap.size + 1) none 0 0 none 0 0 none 0 0 W7 from HF7.out.rs).cells
          have HBf : Hid (∀ a b d, Below w.heap.size w (stN W7 (w.heap.size + 1) a b d)) := fun a b d => stN_below HF7.out.bl (by omega) a b d
          have hm3 : m3 = min n3 12 := HM3.out
          have HZ : Hid (∀ a b d, IsN (stN W7 (w.heap.size + 1) a b d) W7.heap.size (fewN n) A k c A' j c' A3 m3 c3) := fun a b d => by
            have h1 := row_stN HRP7.out (row_ne HRP7.out HF7.out.rs (by decide)) a b d
            have h2 := row_stN HRK7.out (row_ne HRK7.out HF7.out.rs (by decide)) a b d
            have e1 := prs_of h1 hpl.symm
            have e2 := txs_of h2 hkl.symm
            rw [stN_size] at e1 e2
            have hs7 := HF7.out.sz
            refine ⟨by show Prs _ _ _ ((n.ps.take 9).map cutP); rw [← HPN.out]; exact e1, by show Txs _ _ _ ((n.ks.take 12).map cutT); rw [← HKN.out]; exact e2, ((HN.out.cs.take 12).below (HBf.out a b d) (Nat.le_refl _)).more (by omega), by show ((n.ps.take 9).map cutP).length = _; rw [← HPN.out]; exact hpl, by show ((n.ks.take 12).map cutT).length = _; rw [← HKN.out]; exact hkl, by show (n.cs.take 12).length = _; rw [List.length_take, HN.out.l3, hm3, Nat.min_comm], hAc, hAc', by omega, by omega, by omega, by omega⟩
          clear hm3
          go_wp2_with fail
          refine bodyPost_ret (v := nv A k c A' j c' A3 m3 c3) (by simp [results, Try.results7, go_sem, q0, q1, q2]) rfl ⟨A, k, c, A', j, c', A3, m3, c3, rfl, ?_, ?_⟩
          · have := HZ.out (.slice A k c) (.slice A' j c') (.slice A3 m3 c3)
            rw [← stN_size W7 (w.heap.size + 1) (.slice A k c) (.slice A' j c') (.slice A3 m3 c3)] at this
            exact this
          · exact HBf.out (.slice A k c) (.slice A' j c') (.slice A3 m3 c3)
end Go.Proofs.Ytckbehojcjhcgaa.Nod
