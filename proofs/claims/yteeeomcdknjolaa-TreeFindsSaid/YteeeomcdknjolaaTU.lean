/- The pairs of a range: the test; what is deleted; the program's Range. -/
import Derived.Test.YteeeomcdknjolaaTR
import Derived.Laws.CopyOwn
namespace Go.Proofs.Yteeeomcdknjolaa.Tre
open Go.RowKit Crc Chk Frm Fra Nod

def outB (from_ upt : T) (p : P) : Bool := ltB p.1 from_ || (!upt.isEmpty && !ltB p.1 upt)
theorem range_out (l : List P) (from_ upt : T) : rangeL l from_ upt = l.filter fun p => !outB from_ upt p := rfl
/-- Is a pair outside? -/
theorem outside_any (p : P) (from_ upt : T) (Y Z : Nat) (w : World) (hy : BoxS Y (text from_) w) (hz : BoxS Z (text upt) w) :
    Calls Try.prog 48 #[.agg #[.string (text p.1), .string (text p.2)], .pointer (some ⟨Y, 0, none⟩), .pointer (some ⟨Z, 0, none⟩)] w fun e w' => e = .returned (.bool (outB from_ upt p)) ∧ Below w.heap.size w w' := by
  obtain ⟨W0, hW0⟩ : ∃ x, x = w.alloc (.cells #[.string (text p.1), .string (text p.2)] 49) := ⟨_, rfl⟩
  have HB0 : Hid (Below w.heap.size w W0) := by rw [hW0]; exact (Below.refl _ _).alloc (Nat.le_refl _) _
  have hbx : W0.heap[w.heap.size]? = some (.cells #[.string (text p.1), .string (text p.2)] 49 (0, 0)) := by rw [hW0]; exact heap_alloc_new w _
  obtain ⟨k0, k1⟩ := boxP_cells hbx
  have hyc := boxS_cell (boxS_below hy HB0.out (boxS_lt hy))
  have hzc := boxS_cell (boxS_below hz HB0.out (boxS_lt hz))
  have HX1 : Hid (Op.bytesLess (text p.1).toList (text from_).toList = ltB p.1 from_) := by show _ = _; rw [text_toList, text_toList]; rfl
  have HX2 : Hid (Op.bytesLess (text p.1).toList (text upt).toList = ltB p.1 upt) := by show _ = _; rw [text_toList, text_toList]; rfl
  have HX3 : Hid ((text upt).toList.isEmpty = upt.isEmpty) := by show _ = _; rw [text_toList]
  unfold outB
  obtain ⟨x1, hx1⟩ : ∃ x, x = ltB p.1 from_ := ⟨_, rfl⟩
  obtain ⟨x2, hx2⟩ : ∃ x, x = ltB p.1 upt := ⟨_, rfl⟩
  obtain ⟨x3, hx3⟩ : ∃ x, x = upt.isEmpty := ⟨_, rfl⟩
  obtain ⟨t, ht⟩ : ∃ t, t = text p.1 := ⟨_, rfl⟩
  obtain ⟨v, hv⟩ : ∃ t, t = text p.2 := ⟨_, rfl⟩
  obtain ⟨u, hu⟩ : ∃ t, t = text from_ := ⟨_, rfl⟩
  obtain ⟨z, hz9⟩ : ∃ t, t = text upt := ⟨_, rfl⟩
  rw [← ht] at k0 hW0 HX1 HX2 ⊢
  rw [← hv] at k1 hW0 ⊢
  rw [← hu] at hyc HX1
  rw [← hz9] at hzc HX2 HX3
  rw [← hx1] at HX1 ⊢
  rw [← hx2] at HX2 ⊢
  rw [← hx3] at HX3 ⊢
  have HW0 := Lib.hid hW0
  have g1 : Op.bytesLess t.toList u.toList = x1 := HX1.out
  have g2 : Op.bytesLess t.toList z.toList = x2 := HX2.out
  have g3 : z.toList.isEmpty = x3 := HX3.out
  clear hy hz hW0 hbx hx1 hx2 hx3 ht hv hu hz9 HX1 HX2 HX3
  cases x1 with
  | true =>
    go_enter Try.func48, Try.ntmps48
    go_upto_region 1 with fail
    rw [← HW0.out]
    go_wp2_with fail
    go_ret
    exact ⟨rfl, HB0.out⟩
  | false =>
    cases x3 with
    | true =>
      have g4 : z.toList = [] := by simpa using g3
      clear g3
      go_enter Try.func48, Try.ntmps48
      go_upto_region 1 with fail
      rw [← HW0.out]
      go_wp2_with fail
      go_ret
      exact ⟨rfl, HB0.out⟩
    | false =>
      have g4 : ¬ z.toList = [] := by simpa using g3
      have G5 := Lib.hid g3
      clear g3
      cases x2 with
      | true =>
        have hge : ∀ W, (binOp .geq 9 (.string t) (.string z)).run Try.prog W = .ok (.bool false) W := fun W => by simp [binOp, Op.stringOp, g2]
        go_enter Try.func48, Try.ntmps48
        go_upto_region 1 with fail
        rw [← HW0.out]
        go_wp2_with fail
        go_ret
        exact ⟨rfl, HB0.out⟩
      | false =>
        have hge : ∀ W, (binOp .geq 9 (.string t) (.string z)).run Try.prog W = .ok (.bool true) W := fun W => by simp [binOp, Op.stringOp, g2]
        go_enter Try.func48, Try.ntmps48
        go_upto_region 1 with fail
        rw [← HW0.out]
        go_wp2_with fail
        go_ret
        exact ⟨by
          show Ending.returned (.bool (!z.toList.isEmpty)) = _
          rw [G5.out]; rfl, HB0.out⟩
/-- A row of pairs with one set. -/
theorem pcs_set (l : List P) (i : Nat) (p : P) : pcs (l.set i p) = ((pcs l).set (i * 2) (.string (text p.1))).set (i * 2 + 1) (.string (text p.2)) := by
  induction l generalizing i with
  | nil => simp [pcs]
  | cons a l ih =>
    cases i with
    | zero => rfl
    | succ i =>
      rw [show (i + 1) * 2 = i * 2 + 1 + 1 by omega, show i * 2 + 1 + 1 + 1 = (i * 2 + 1) + 1 + 1 by omega]
      simp only [List.set_cons_succ, pcs]
      rw [ih]
theorem own_setP {w : World} {base g n cap : Nat} {l : List P} (h : w.ownsRow base 49 2 (.slice (some ⟨g, 0, none⟩) n cap) n (pcs l)) (i : Nat) (p : P) :
    ((w.setCell ⟨g, i * 2, none⟩ (.string (text p.1))).setCell ⟨g, i * 2 + 1, none⟩ (.string (text p.2))).ownsRow base 49 2 (.slice (some ⟨g, 0, none⟩) n cap) n (pcs (l.set i p)) := by
  rw [pcs_set]
  exact ((h.stored (i * 2) _).1.stored (i * 2 + 1) _).1
theorem zero49 : (Try.prog.info? 49).map (fun i => i.zero) = some (some (.agg #[.string ⟨#[]⟩, .string ⟨#[]⟩])) := by kernel_rfl
theorem zeroes (n : Nat) (s : Value) : (Builtin.zeroCells #[s, s] n).toList = List.replicate (n * 2) s := by
  apply List.ext_getElem
  · simp [Builtin.zeroCells]
  · intro i h1 h2
    simp only [Builtin.zeroCells, List.size_toArray, List.length_cons, List.length_nil, Nat.zero_add, Nat.reduceAdd, Array.getElem_toList, Array.getElem_map, Array.getElem_range, List.getElem_replicate]
    rcases Nat.mod_two_eq_zero_or_one i with h | h <;> rw [h] <;> rfl
theorem run_clearP (w : World) (b o n c : Nat) (hn : 0 < n) (hv : ∀ w, (zeroValue 49).run Try.prog w = .ok (.agg #[.string ⟨#[]⟩, .string ⟨#[]⟩]) w)
    (hc : ∀ j, j < n * 2 → (w.cell? ⟨b, o + j, none⟩).isSome = true) (hf : ∀ j, j < n * 2 → w.frozen? ⟨b, o + j, none⟩ = false) :
    (Builtin.clear_ #[22] 0 #[.slice (some ⟨b, o, none⟩) n c]).run Try.prog w = .ok (.tuple #[]) (w.setCells b o (List.replicate (n * 2) (.string ⟨#[]⟩))) := by
  have hst := run_storeCells_cells (P := Try.prog) b o (List.replicate (n * 2) (.string ⟨#[]⟩)) 0 w (by simpa using hc) (by simpa using hf) (by intro v hv'; rw [List.eq_of_mem_replicate hv']; rfl)
  simp only [Nat.add_zero] at hst
  obtain ⟨m, rfl⟩ : ∃ m, n = m + 1 := ⟨n - 1, by omega⟩
  have hz := zeroes (m + 1) (.string ⟨#[]⟩)
  simp [Builtin.clear_, run_underlying Try.underlying22, hv, Value.cells, hz, hst]
end Go.Proofs.Yteeeomcdknjolaa.Tre
