/- Contracts: the last place taken out of a row. Conditions: none. -/
import Derived.Test.YtgnkcgmmmkfkkaaDoorP3
namespace Go.Proofs.YtgnkcgmmmkfkkaaDoor.Hep
open Go.RowKit Cht

set_option maxHeartbeats 1600000 in
theorem qpop_any (B g m : Nat) (q : List Pl) (x : Pl) (w : World) (h : HQ w B g q) (hm : q.length = m + 1) (hx : q[m]'(by omega) = x) (hn : q.length ≤ 1000) (hB : B ≤ w.heap.size) :
    Calls Tryd.prog 65 #[.pointer (some ⟨g, 0, none⟩)] w fun e w' => e = .returned (.iface 59 (.agg (lcell x))) ∧ HQ w' B g (q.take m) ∧ Below B w w' ∧ Kp w w' := by
  obtain ⟨hg, b, cap, hq, hr⟩ := h
  have hne := hr.ne hq
  obtain ⟨c0, c1, c2⟩ := hr.at m (by omega)
  rw [hx] at c0 c1 c2
  have hcap := hr.caps
  have hgl := hq.lt
  obtain ⟨w1, hw1⟩ : ∃ W, W = w.alloc (.cells (lcell x) 59) := ⟨_, rfl⟩
  have hb1 : Below w.heap.size w w1 := by rw [hw1]; exact (Below.refl _ _).alloc (Nat.le_refl _) _
  have hx1 : BoxL w.heap.size x w1 := by rw [hw1]; exact Hol.alloc_new w _
  have hq1 : BoxQ g b q.length cap w1 := hq.below hb1 hgl
  have hr1 := hr.below hb1
  obtain ⟨w2, hw2⟩ : ∃ W, W = w1.setCell ⟨g, 0, none⟩ (.slice (some ⟨b, 0, none⟩) m cap) := ⟨_, rfl⟩
  have hx2 : BoxL w.heap.size x w2 := by rw [hw2]; unfold BoxL at *; rw [heap_setCell_other w1 ⟨g, 0, none⟩ w.heap.size _ (fun e => by simp only at e; omega)]; exact hx1
  have hl : (q.take m).length = m := by rw [List.length_take]; omega
  have hfin : HQ w2 B g (q.take m) := ⟨hg, b, cap, by rw [hl, hw2]; exact hq1.put _ _ _, by rw [hw2]; exact (hr1.less m (by omega)).other hne _⟩
  have hbf : Below B w w2 := by rw [hw2]; exact (hb1.mono hB).setCell (p := ⟨g, 0, none⟩) hg _
  have hkp : Kp w w2 := by rw [hw2]; exact (Kp.of hb1).tr (Kp.box hq1 _)
  have HKP := Lib.hid hkp
  clear hkp
  obtain ⟨q0, qf⟩ := hq.cells
  obtain ⟨q10, qf1⟩ := hq1.cells
  obtain ⟨x0, x1, x2, xf⟩ := hx2.cells
  rw [hm] at q0 q10 hn hcap
  have HF := Lib.hid hfin
  have HB := Lib.hid hbf
  have HW1 := Lib.hid hw1
  have HW2 := Lib.hid hw2
  clear hfin hbf hw1 hw2 hq hq1 hr hr1 hb1 hx1 hx2 hx hg hne hl hm
  go_enter Tryd.func65, Tryd.ntmps65
  go_upto_region 3 with fail
  rw [← HW1.out]
  clear c0 c1 c2 q0 qf
  go_upto_region 4 with fail
  rw [← HW2.out]
  clear q10 qf1
  go_wp2
  go_ret
  exact ⟨rfl, HF.out, HB.out, HKP.out⟩
end Go.Proofs.YtgnkcgmmmkfkkaaDoor.Hep
