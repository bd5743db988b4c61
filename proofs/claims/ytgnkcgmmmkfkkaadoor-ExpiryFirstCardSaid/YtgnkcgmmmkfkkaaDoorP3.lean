/- Contracts: a row of places behind an interface: which method is meant; one more place, the last one taken. Conditions: none. -/
import Derived.Test.YtgnkcgmmmkfkkaaDoorP2
import Derived.Test.YtgnkcgmmmkfkkaaDoorP3a
namespace Go.Proofs.YtgnkcgmmmkfkkaaDoor.Hep
open Go.RowKit Cht Any

theorem wrap_ok (g : Nat) (s : String) (w : World) : (Builtin.ssaWrapNilChk_ #[55] 55 #[.pointer (some ⟨g, 0, none⟩), strVal "", strVal s]).run Tryd.prog w = .ok (.pointer (some ⟨g, 0, none⟩)) w := by kernel_rfl
theorem recv_len (g : Nat) (s : String) (A : Option Addr) (n c : Nat) (w : World) (h : w.cell? ⟨g, 0, none⟩ = some (.slice A n c)) : (receiverAt 55 (.val (.pointer (some ⟨g, 0, none⟩))) false (some s)).run Tryd.prog w = .ok (.slice A n c) w := by
  have h1 : (receiverAt 55 (.val (.pointer (some ⟨g, 0, none⟩))) false (some s)).run Tryd.prog w = ((loadVar 64 ⟨g, 0, none⟩).run Tryd.prog w) := by kernel_rfl
  rw [h1]
  simp [loadVar, h, go_sem]
theorem method_len (g : Nat) (A : Option Addr) (n c : Nat) (w : World) (h : w.cell? ⟨g, 0, none⟩ = some (.slice A n c)) : (method 197 55 (.pointer (some ⟨g, 0, none⟩)) "Len").run Tryd.prog w = .ok (34, .slice A n c) w := by
  unfold method
  simp only [Sem.run_bind]
  have h2 : (typeInfo 55).run Tryd.prog w = .ok ((Tryd.prog.info? 55).getD default) w := by kernel_rfl
  rw [h2]
  simp only [Result.andThen_ok]
  have h3 : ((Tryd.prog.info? 55).getD default).methods.find? (fun x => x.name == "Len") = some ⟨ "Len", 57, #[], some (34, false)⟩ := by kernel_rfl
  rw [h3]
  simp only [follow, Sem.run_bind, Sem.run_pure, Result.andThen_ok]
  rw [if_pos (show (#[] : Array FieldStep).isEmpty = true from rfl)]
  rw [recv_len g _ A n c w h]
  rfl
theorem method_less (g : Nat) (A : Option Addr) (n c : Nat) (w : World) (h : w.cell? ⟨g, 0, none⟩ = some (.slice A n c)) : (method 197 55 (.pointer (some ⟨g, 0, none⟩)) "Less").run Tryd.prog w = .ok (64, .slice A n c) w := by
  unfold method
  simp only [Sem.run_bind]
  have h2 : (typeInfo 55).run Tryd.prog w = .ok ((Tryd.prog.info? 55).getD default) w := by kernel_rfl
  rw [h2]
  simp only [Result.andThen_ok]
  have h3 : ((Tryd.prog.info? 55).getD default).methods.find? (fun x => x.name == "Less") = some ⟨ "Less", 75, #[], some (64, false)⟩ := by kernel_rfl
  rw [h3]
  simp only [follow, Sem.run_bind, Sem.run_pure, Result.andThen_ok]
  rw [if_pos (show (#[] : Array FieldStep).isEmpty = true from rfl)]
  rw [recv_len g _ A n c w h]
  rfl
theorem method_swap (g : Nat) (A : Option Addr) (n c : Nat) (w : World) (h : w.cell? ⟨g, 0, none⟩ = some (.slice A n c)) : (method 197 55 (.pointer (some ⟨g, 0, none⟩)) "Swap").run Tryd.prog w = .ok (67, .slice A n c) w := by
  unfold method
  simp only [Sem.run_bind]
  have h2 : (typeInfo 55).run Tryd.prog w = .ok ((Tryd.prog.info? 55).getD default) w := by kernel_rfl
  rw [h2]
  simp only [Result.andThen_ok]
  have h3 : ((Tryd.prog.info? 55).getD default).methods.find? (fun x => x.name == "Swap") = some ⟨ "Swap", 69, #[], some (67, false)⟩ := by kernel_rfl
  rw [h3]
  simp only [follow, Sem.run_bind, Sem.run_pure, Result.andThen_ok]
  rw [if_pos (show (#[] : Array FieldStep).isEmpty = true from rfl)]
  rw [recv_len g _ A n c w h]
  rfl
theorem method_push (g : Nat) (w : World) : (method 197 55 (.pointer (some ⟨g, 0, none⟩)) "Push").run Tryd.prog w = .ok (66, .pointer (some ⟨g, 0, none⟩)) w := by kernel_rfl
theorem method_pop (g : Nat) (w : World) : (method 197 55 (.pointer (some ⟨g, 0, none⟩)) "Pop").run Tryd.prog w = .ok (65, .pointer (some ⟨g, 0, none⟩)) w := by kernel_rfl

/-- The box with the slice of places. -/
def BoxQ (g b n cap : Nat) (w : World) : Prop := w.heap[g]? = some (.cells #[.slice (some ⟨b, 0, none⟩) n cap] 64 (0, 0))
theorem BoxQ.cells {g b n cap : Nat} {w : World} (h : BoxQ g b n cap w) : w.cell? ⟨g, 0, none⟩ = some (.slice (some ⟨b, 0, none⟩) n cap) ∧ w.frozen? ⟨g, 0, none⟩ = false := by
  unfold BoxQ at h
  refine ⟨?_, ?_⟩ <;> simp [World.cell?, World.frozen?, h]
theorem BoxQ.lt {g b n cap : Nat} {w : World} (h : BoxQ g b n cap w) : g < w.heap.size := (Array.getElem?_eq_some_iff.1 h).1
theorem BoxQ.below {g b n cap B : Nat} {w w' : World} (h : BoxQ g b n cap w) (hb : Below B w w') (hr : g < B) : BoxQ g b n cap w' := (hb.block g hr).trans h
theorem BoxQ.put {g b n cap : Nat} {w : World} (h : BoxQ g b n cap w) (b' n' cap' : Nat) : BoxQ g b' n' cap' (w.setCell ⟨g, 0, none⟩ (.slice (some ⟨b', 0, none⟩) n' cap')) := by
  unfold BoxQ at *
  simp [World.setCell, Array.getElem?_modify, h]
theorem Row.row {w : World} {B b cap : Nat} {q : List Pl} (h : Row w B b cap q) : ∃ cur : Array Value, w.heap[b]? = some (.cells cur 59 (0, 0)) ∧ B ≤ b ∧ q.length ≤ cap ∧ cap ≤ maxLen ∧ cur.size = cap * 3 ∧ cur.toList.take (q.length * 3) = pcs q := by
  rcases h.2 with ⟨h', _⟩ | ⟨g, cap', cur, h', h0, hg, h1, h2, h3, h4⟩
  · simp at h'
  · simp only [Value.slice.injEq, Option.some.injEq, Addr.mk.injEq, and_true, true_and] at h'
    obtain ⟨rfl, rfl⟩ := h'
    exact ⟨cur, hg, h0, h1, h2, h3, h4⟩
theorem Row.ne {w : World} {B b cap g c n m : Nat} {q : List Pl} (h : Row w B b cap q) (hq : BoxQ g c n m w) : g ≠ b := fun e => by
  subst e
  obtain ⟨cur, hc, _⟩ := h.row
  unfold BoxQ at hq
  rw [hq] at hc
  simp at hc
theorem Row.other {w : World} {B b cap g k : Nat} {q : List Pl} (h : Row w B b cap q) (hg : g ≠ b) (u : Value) : Row (w.setCell ⟨g, k, none⟩ u) B b cap q := by
  obtain ⟨cur, hc, h1, h2, h3, h4, h5⟩ := h.row
  refine ⟨h.1, .inr ⟨b, cap, cur, rfl, h1, ?_, h2, h3, h4, h5⟩⟩
  rw [heap_setCell_other w ⟨g, k, none⟩ b u (fun e => hg e.symm)]; exact hc
theorem Row.less {w : World} {B b cap : Nat} {q : List Pl} (h : Row w B b cap q) (n : Nat) (hn : n ≤ q.length) : Row w B b cap (q.take n) := by
  obtain ⟨cur, hc, h1, h2, h3, h4, h5⟩ := h.row
  have hl : (q.take n).length = n := by rw [List.length_take]; omega
  refine ⟨by rw [pcs_len], .inr ⟨b, cap, cur, rfl, h1, hc, by omega, h3, h4, ?_⟩⟩
  rw [pcs_take, ← h5, List.take_take, hl, Nat.min_eq_left (by omega)]
theorem Row.wider {w : World} {B B' b cap : Nat} {q : List Pl} (h : Row w B b cap q) (hB : B' ≤ B) : Row w B' b cap q := by
  obtain ⟨cur, hc, h1, h2, h3, h4, h5⟩ := h.row
  exact ⟨h.1, .inr ⟨b, cap, cur, rfl, by omega, hc, h2, h3, h4, h5⟩⟩
/-- Places in a row of the call's own, and its slice in a box of the call's own. -/
def HQ (w : World) (B g : Nat) (q : List Pl) : Prop := B ≤ g ∧ ∃ b cap, BoxQ g b q.length cap w ∧ Row w B b cap q
theorem HQ.below {w w' : World} {B g : Nat} {q : List Pl} (h : HQ w B g q) (hb : Below w.heap.size w w') : HQ w' B g q := by
  obtain ⟨h0, b, cap, h1, h2⟩ := h
  exact ⟨h0, b, cap, h1.below hb h1.lt, h2.below hb⟩
theorem HQ.lt {w : World} {B g : Nat} {q : List Pl} (h : HQ w B g q) : g < w.heap.size := by
  obtain ⟨h0, b, cap, h1, h2⟩ := h
  exact h1.lt
/-- A row changed in place. -/
theorem HQ.set {w' : World} {B g b cap : Nat} {q q' : List Pl} (h0 : B ≤ g) (h1 : BoxQ g b q.length cap w') (hl : q'.length = q.length) (h2 : Row w' B b cap q') : HQ w' B g q' := ⟨h0, b, cap, by rw [hl]; exact h1, h2⟩

theorem undrew {B : Nat} {w w' : World} (h : Below B w.drew w') : Below B w w' := ⟨h.os, h.tape, h.output, h.size, h.block⟩
theorem heap_keep (w : World) (o : Obj) (g : Nat) (hg : g < w.heap.size) : (w.alloc o).heap[g]? = w.heap[g]? := ((Below.refl (w.heap.size) w).alloc (Nat.le_refl _) o).block g hg
/-- Rows of numbers stay. -/
def Kp (w w' : World) : Prop := ∀ (k : Nat) (cs : Array Value), w.heap[k]? = some (.cells cs 3 (0, 0)) → w'.heap[k]? = some (.cells cs 3 (0, 0))
theorem Kp.refl (w : World) : Kp w w := fun _ _ h => h
theorem Kp.tr {w w1 w2 : World} (h : Kp w w1) (h2 : Kp w1 w2) : Kp w w2 := fun k cs hk => h2 k cs (h k cs hk)
theorem Kp.of {w w' : World} (h : Below w.heap.size w w') : Kp w w' := fun k _ hk => (h.block k (Array.getElem?_eq_some_iff.1 hk).1).trans hk
theorem Kp.row {w w' : World} {B b cap : Nat} {q : List Pl} (h : Row w B b cap q) (ho : ∀ k, k ≠ b → w'.heap[k]? = w.heap[k]?) : Kp w w' := fun k cs hk => by
  refine (ho k fun e => ?_).trans hk
  subst e
  obtain ⟨cur, hc, _⟩ := h.row
  rw [hk] at hc
  simp at hc
theorem Kp.box {w : World} {g b n cap : Nat} (h : BoxQ g b n cap w) (u : Value) : Kp w (w.setCell ⟨g, 0, none⟩ u) := fun k cs hk => by
  rw [heap_setCell_other w ⟨g, 0, none⟩ k u (fun e => by
    simp only at e
    subst e
    unfold BoxQ at h
    rw [hk] at h
    simp at h)]
  exact hk

theorem infoP : (Tryd.prog.info? 59).map (fun i => (i.zero, i.size, i.bytes)) = some (some (.agg #[.int .i64 0, .string ⟨#[]⟩, .int .i64 0]), 3, 32) := by kernel_rfl
theorem one_place (x : Pl) : ∀ u ∈ [Value.int .i64 x.u, .string x.k, .int .i64 x.i], u.oneCell' = true := by
  intro u hu; simp at hu; rcases hu with rfl | rfl | rfl <;> rfl
abbrev lcell (x : Pl) : Array Value := #[.int .i64 x.u, .string x.k, .int .i64 x.i]
/-- One more place, out of a box of its own. -/
theorem run_appP (w : World) (B b cap : Nat) (q : List Pl) (h : Row w B b cap q) (x : Pl) (hn : q.length ≤ 1000) (hb : B ≤ w.heap.size) :
    ∃ b' cap' w', (Builtin.append_ #[64, 64] 64 #[.slice (some ⟨b, 0, none⟩) q.length cap, .slice (some ⟨w.heap.size, 0, none⟩) 1 1]).run Tryd.prog (w.alloc (.cells (lcell x) 59)) = .ok (.slice (some ⟨b', 0, none⟩) (q.length + 1) cap') w' ∧ Row w' B b' cap' (q ++ [x]) ∧ Below B w w' ∧ ∀ g, g < w.heap.size → g ≠ b → w'.heap[g]? = w.heap[g]? := by
  obtain ⟨i0, hi, hzz0, hz1, hz2⟩ := info_parts infoP
  have hO1 : (w.alloc (.cells (lcell x) 59)).ownsRow B 59 3 (.slice (some ⟨b, 0, none⟩) q.length cap) q.length (pcs q) := h.alloc _
  obtain ⟨v', w', hrun, h2, h3, _, h5⟩ := run_append_own_at (P := Tryd.prog) (w := w.alloc (.cells (lcell x) 59)) B 64 64 59 i0 (.agg #[.int .i64 0, .string ⟨#[]⟩, .int .i64 0]) 3 32 Tryd.underlying64 hi hzz0 hz1 hz2 rfl (by decide) (.slice (some ⟨b, 0, none⟩) q.length cap) q.length (pcs q) hO1 ⟨w.heap.size, 0, none⟩ 1 1 [.int .i64 x.u, .string x.k, .int .i64 x.i] rfl (fun j u hj => by
    rw [Addr.add_lit, Nat.zero_add, World.cell?_alloc_new]
    simpa using hj) (one_place x) (by unfold maxLen; omega) (by omega) (by rw [World.size_alloc]; omega)
  have hlen : (q ++ [x]).length = q.length + 1 := by simp
  have hp : pcs (q ++ [x]) = pcs q ++ [.int .i64 x.u, .string x.k, .int .i64 x.i] := by rw [pcs_append]; rfl
  rcases h2.2 with ⟨_, h0⟩ | ⟨b', cap', cur, rfl, k1, k2, k3, k4, k5, k6⟩
  · omega
  · refine ⟨b', cap', w', hrun, ?_, ((Below.refl _ _).alloc hb _).grown h3 (by rw [World.size_alloc]; omega) (fun j hj => (hO1.lt j hj).1), fun g hg hgb => ?_⟩
    · show World.ownsRow _ _ _ _ _ _ _
      rw [hlen, hp]; exact h2
    · obtain ⟨-, -, -, -, k7⟩ := h3
      rw [k7 g (by rw [World.size_alloc]; omega) (by simp [Value.ownBlock]; omega)]
      exact (heap_keep w _ g hg)

set_option maxRecDepth 20000 in
set_option maxHeartbeats 1600000 in
theorem qpush_any (B g : Nat) (q : List Pl) (x : Pl) (w : World) (h : HQ w B g q) (hn : q.length ≤ 1000) (hB : B ≤ w.heap.size) :
    Calls Tryd.prog 66 #[.pointer (some ⟨g, 0, none⟩), .iface 59 (.agg (lcell x))] w fun e w' => e = .returned (.tuple #[]) ∧ HQ w' B g (q ++ [x]) ∧ Below B w w' := by
  obtain ⟨hg, b, cap, hq, hr⟩ := h
  have hne := hr.ne hq
  have hqd : BoxQ g b q.length cap w.drew := hq
  obtain ⟨b', cap', w2, hrun, hr2, hb2, hfr⟩ := run_appP w.drew B b cap q (Row.drew hr) x hn hB
  obtain ⟨w1, hw1⟩ : ∃ W, W = (w.alloc (.cells (lcell x) 59)).drew := ⟨_, rfl⟩
  have hrun' : (Builtin.append_ #[64, 64] 64 #[.slice (some ⟨b, 0, none⟩) q.length cap, .slice (some ⟨w.heap.size, 0, none⟩) 1 1]).run Tryd.prog w1 = .ok (.slice (some ⟨b', 0, none⟩) (q.length + 1) cap') w2 := by rw [hw1]; exact hrun
  replace hrun := hrun'
  clear hrun'
  have hq1 : BoxQ g b q.length cap w1 := by rw [hw1]; exact hqd.below (B := w.drew.heap.size) ((Below.refl _ _).alloc (Nat.le_refl _) _) hq.lt
  have hq2 : BoxQ g b q.length cap w2 := (hfr g hq.lt hne).trans hqd
  obtain ⟨w3, hw3⟩ : ∃ W, W = w2.setCell ⟨g, 0, none⟩ (.slice (some ⟨b', 0, none⟩) (q.length + 1) cap') := ⟨_, rfl⟩
  have hl : (q ++ [x]).length = q.length + 1 := by simp
  have hne2 : g ≠ b' := hr2.ne hq2
  have hfin : HQ w3 B g (q ++ [x]) := ⟨hg, b', cap', by rw [hl, hw3]; exact hq2.put _ _ _, by rw [hw3]; exact hr2.other hne2 _⟩
  have hbf : Below B w w3 := by rw [hw3]; exact Below.setCell (p := ⟨g, 0, none⟩) (undrew hb2) hg _
  have C0 := Lib.hid hqd.cells.1
  have C1 := Lib.hid hq1.cells.1
  have C2 := Lib.hid hq2.cells.1
  have F2 := Lib.hid hq2.cells.2
  have HF := Lib.hid hfin
  have HB := Lib.hid hbf
  have HW1 := Lib.hid hw1
  have HW3 := Lib.hid hw3
  have HRUN := Lib.hid hrun
  have HTA : Hid (∀ W : World, (Instr.typeAssert (.iface 59 (.agg (lcell x))) 20 59 false).run Tryd.prog W = .ok (.agg (lcell x)) W) := fun _ => by kernel_rfl
  obtain ⟨n, hnn⟩ : ∃ n, n = q.length := ⟨_, rfl⟩
  rw [← hnn] at C0 C1 C2 HW3 HRUN hn
  clear hqd hq1 hq2 hfin hbf hw1 hw3 hrun hq hr hne hne2 hr2 hb2 hfr hl hg hB hnn
  go_enter Tryd.func66, Tryd.ntmps66
  go_upto_region 0 with fail
  refine wp_region_m (by kernel_rfl) (PhiM [.pointer (some ⟨g, 0, none⟩), .pointer (some ⟨g, 0, none⟩), .pointer (some ⟨g, 0, none⟩), .slice (some ⟨b, 0, none⟩) n cap, .iface 59 (.agg (lcell x)), .agg (lcell x), .slice (some ⟨w.heap.size, 0, none⟩) 1 1, (.slice (some ⟨b', 0, none⟩) (n + 1) cap'), .pointer (some ⟨g, 0, none⟩)]) (On 6 7 9 w.drew w1 w2 w3) (by kernel_rfl) (fun _ h0 => on_start h0) ?step ?fin
  case step =>
    intro i o listed a1 w9 ho hls hn hk hdep
    have hi : i < 10 := (Array.getElem?_eq_some_iff.1 ho).1
    have e0 := ev (show a1.eval (.tmp 0) = .pointer (some ⟨g, 0, none⟩) from hk.frame 0 (frame_of (by kernel_rfl)))
    have e1 := ev (show a1.eval (.tmp 1) = .iface 59 (.agg (lcell x)) from hk.frame 1 (frame_of (by kernel_rfl)))
    have hii : i = 0 ∨ i = 1 ∨ i = 2 ∨ i = 3 ∨ i = 4 ∨ i = 5 ∨ i = 6 ∨ i = 7 ∨ i = 8 ∨ i = 9 := by omega
    rcases hii with rfl | rfl | rfl | rfl | rfl | rfl | rfl | rfl | rfl | rfl
    · cases ho
      refine wpOp_of rfl rfl (wpm_value (v := .pointer (some ⟨g, 0, none⟩)) ?_ rfl (on_skip hk.world (by decide) (by decide) (by decide) hn))
      go_simp
    · cases ho
      refine wpOp_of rfl rfl (wpm_value (v := .pointer (some ⟨g, 0, none⟩)) ?_ rfl (on_skip hk.world (by decide) (by decide) (by decide) hn))
      go_simp
    · cases ho
      have d1 := ev (show a1.eval (.tmp 5) = .pointer (some ⟨g, 0, none⟩) from hk.done 1 _ 5 rfl rfl (hdep ⟨1, .data⟩ (by simp) rfl))
      refine wpOp_of rfl rfl (wpm_value (v := .pointer (some ⟨g, 0, none⟩)) ?_ rfl (on_skip hk.world (by decide) (by decide) (by decide) hn))
      go_simp
    · cases ho
      have d2 := ev (show a1.eval (.tmp 6) = .pointer (some ⟨g, 0, none⟩) from hk.done 2 _ 6 rfl rfl (hdep ⟨2, .data⟩ (by simp) rfl))
      refine wpOp_of rfl rfl (wpm_value (v := .slice (some ⟨b, 0, none⟩) n cap) ?_ rfl (on_skip hk.world (by decide) (by decide) (by decide) hn))
      have z : w9.cell? ⟨g, 0, none⟩ = some (.slice (some ⟨b, 0, none⟩) n cap) := by
        rcases on_is hk.world (by decide) hn with e | e | e
        · rw [e]; exact C0.out
        · rw [e]; exact C1.out
        · rw [e]; exact C2.out
      go_simp
    · cases ho
      refine wpOp_of rfl rfl (wpm_value (v := .iface 59 (.agg (lcell x))) ?_ rfl (on_skip hk.world (by decide) (by decide) (by decide) hn))
      go_simp
    · cases ho
      have d4 := ev (show a1.eval (.tmp 8) = .iface 59 (.agg (lcell x)) from hk.done 4 _ 8 rfl rfl (hdep ⟨4, .data⟩ (by simp) rfl))
      refine wpOp_of rfl rfl (wpm_value (v := .agg (lcell x)) ?_ rfl (on_skip hk.world (by decide) (by decide) (by decide) hn))
      go_simp
      rw [HTA.out]
      rfl
    · cases ho
      have d5 := ev (show a1.eval (.tmp 9) = .agg (lcell x) from hk.done 5 _ 9 rfl rfl (hdep ⟨5, .data⟩ (by simp) rfl))
      obtain ⟨hw9, hom⟩ := on_e hk.world (by decide) (by decide) (by omega) hn
      refine wpOp_of rfl rfl ?_
      rw [hw9]
      go_simp
      refine ⟨_, rfl, rfl, ?_⟩
      rw [HW1.out] at hom ⊢
      exact hom
    · cases ho
      have d3 := ev (show a1.eval (.tmp 7) = .slice (some ⟨b, 0, none⟩) n cap from hk.done 3 _ 7 rfl rfl (hdep ⟨3, .data⟩ (by simp) rfl))
      have d6 := ev (show a1.eval (.tmp 10) = .slice (some ⟨w.heap.size, 0, none⟩) 1 1 from hk.done 6 _ 10 rfl rfl (hdep ⟨6, .data⟩ (by simp) rfl))
      have ha : listed.getD 6 false = true := hdep ⟨6, .data⟩ (by simp) rfl
      obtain ⟨hw9, hom⟩ := on_f hk.world (by decide) (by omega) hn ha
      refine wpOp_of rfl rfl ?_
      rw [hw9]
      refine Go.Lib.wp_append_run _ (.tmp 7) (.tmp 10) 64 64 rfl _ _ (hk.done 3 _ 7 rfl rfl (hdep ⟨3, .data⟩ (by simp) rfl)) (hk.done 6 _ 10 rfl rfl (hdep ⟨6, .data⟩ (by simp) rfl)) _ w2 HRUN.out ?_
      exact ⟨_, rfl, rfl, hom⟩
    · cases ho
      have d0 := ev (show a1.eval (.tmp 4) = .pointer (some ⟨g, 0, none⟩) from hk.done 0 _ 4 rfl rfl (hdep ⟨0, .data⟩ (by simp) rfl))
      refine wpOp_of rfl rfl (wpm_value (v := .pointer (some ⟨g, 0, none⟩)) ?_ rfl (on_skip hk.world (by decide) (by decide) (by decide) hn))
      go_simp
    · cases ho
      have d8 := ev (show a1.eval (.tmp 12) = .pointer (some ⟨g, 0, none⟩) from hk.done 8 _ 12 rfl rfl (hdep ⟨8, .data⟩ (by simp) rfl))
      have d7 := ev (show a1.eval (.tmp 11) = (.slice (some ⟨b', 0, none⟩) (n + 1) cap') from hk.done 7 _ 11 rfl rfl (hdep ⟨7, .data⟩ (by simp) rfl))
      have hall9 : ∀ i, i < 9 → listed.getD i false = true := fun i hi => by
        have hii : i = 0 ∨ i = 1 ∨ i = 2 ∨ i = 3 ∨ i = 4 ∨ i = 5 ∨ i = 6 ∨ i = 7 ∨ i = 8 := by omega
        rcases hii with rfl | rfl | rfl | rfl | rfl | rfl | rfl | rfl | rfl
        · exact hdep ⟨0, .phase⟩ (by simp) rfl
        · exact hdep ⟨1, .phase⟩ (by simp) rfl
        · exact hdep ⟨2, .phase⟩ (by simp) rfl
        · exact hdep ⟨3, .phase⟩ (by simp) rfl
        · exact hdep ⟨4, .phase⟩ (by simp) rfl
        · exact hdep ⟨5, .phase⟩ (by simp) rfl
        · exact hdep ⟨6, .phase⟩ (by simp) rfl
        · exact hdep ⟨7, .phase⟩ (by simp) rfl
        · exact hdep ⟨8, .data⟩ (by simp) rfl
      obtain ⟨hw9, hom⟩ := on_s hk.world (by decide) (by omega) hn hall9
      refine wpOp_of rfl rfl ?_
      rw [hw9]
      have z := C2.out
      have zf := F2.out
      unfold Oper.wp
      simp [execOp, Act.eval, d8, d7, Result.andThen, go_sem, z, zf]
      refine ⟨undef, rfl, trivial, ?_⟩
      rw [← HW3.out]
      exact hom
  case fin =>
    intro listed a2 w4 hk hall
    have hw := on_fin hk.world (hall 9 (by decide))
    have hact := keptM_all [4, 5, 6, 7, 8, 9, 10, 11, 12] hk (by kernel_rfl)
    simp only [List.foldl_cons, List.foldl_nil, List.setIfInBounds_toArray, List.set_cons_succ, List.set_cons_zero] at hact
    generalize a2.eval (.tmp 4) = u4 at hact
    generalize a2.eval (.tmp 5) = u5 at hact
    generalize a2.eval (.tmp 6) = u6 at hact
    generalize a2.eval (.tmp 7) = u7 at hact
    generalize a2.eval (.tmp 8) = u8 at hact
    generalize a2.eval (.tmp 9) = u9 at hact
    generalize a2.eval (.tmp 10) = u10 at hact
    generalize a2.eval (.tmp 11) = u11 at hact
    generalize a2.eval (.tmp 12) = u12 at hact
    rw [hact]
    clear hact
    subst hw
    go_wp2
    refine bodyPost_end (results_none rfl _ _ _) rfl ?_
    exact ⟨rfl, HF.out, HB.out⟩
end Go.Proofs.YtgnkcgmmmkfkkaaDoor.Hep
