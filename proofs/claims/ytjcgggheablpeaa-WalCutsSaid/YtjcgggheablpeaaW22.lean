/- Rows of records: one behind an empty one; a row that is made empty. -/
import Derived.Test.YtjcgggheablpeaaW21
namespace Go.Proofs.Ytjcgggheablpeaa.Wal
open Go.RowKit Dis Dis.Dk

theorem RdW.up {w : World} {b2 b3 : Nat} {xs : List Value} {W : Ws} (h : RdW w b2 xs W) (hb : b2 ≤ b3) : RdW w b3 xs W := ⟨h.1, fun k hk => by
  obtain ⟨A, c, h1, h2, h3, h4⟩ := h.2 k hk
  exact ⟨A, c, h1, h2, OctsW.up h3 hb, h4⟩⟩
theorem FaRow.up {w : World} {base b2 b3 : Nat} {v : Value} {fs : Ws} (h : FaRow w base b2 v fs) (hb : b2 ≤ b3) : FaRow w base b3 v fs := by
  obtain ⟨xs, h1, h2, h3⟩ := h
  exact ⟨xs, h1, RdW.up h2 hb, h3⟩
theorem FaRow.down {w : World} {base base' b2 : Nat} {v : Value} {fs : Ws} (h : FaRow w base b2 v fs) (hb : base' ≤ base) : FaRow w base' b2 v fs := by
  obtain ⟨xs, h1, h2, h3⟩ := h
  exact ⟨xs, ⟨h1.1, h1.2.imp id fun ⟨g, cap, cur, e, hg, r⟩ => ⟨g, cap, cur, e, Nat.le_trans hb hg, r⟩⟩, h2, h3⟩
theorem faRow_made (w : World) (b2 : Nat) {base : Nat} (hb : base ≤ w.heap.size) : FaRow (w.alloc (.cells #[] 58)) base b2 (.slice (some ⟨w.heap.size, 0, none⟩) 0 0) [] :=
  ⟨[], World.ownsRow_made w #[] 0 hb (by unfold maxLen; omega) rfl, ⟨rfl, fun k hk => by cases hk⟩, fun g cs T fr e hh j u hu => by
    simp [Value.ownBlock] at e
    subst e
    rw [heap_alloc_new w _] at hh
    injection hh with hh
    injection hh with hh
    subst hh
    simp at hu⟩
theorem app_none (w : World) (g : Nat) (A : Option Addr) (c : Nat) : (Builtin.append_ #[43, 43] 43 #[.slice (some ⟨g, 0, none⟩) 0 0, .slice A 0 c]).run Try.prog w = .ok (.slice (some ⟨g, 0, none⟩) 0 0) w := by
  obtain ⟨i0, hi, hz0, hz1, hz2⟩ := info_parts info58
  rcases A with _ | ad
  · simp [Builtin.append_, run_underlying Try.underlying43, sizeOf, typeInfo, hi, Builtin.lenOf, Builtin.firstCells, storeCells]
  · simp [Builtin.append_, run_underlying Try.underlying43, sizeOf, typeInfo, hi, Builtin.lenOf, Builtin.firstCells, storeCells, loadCells]
    try rfl
theorem faRow_app {w : World} {base b2 base0 b0 g0 : Nat} {A : Option Addr} {c : Nat} {fs : Ws} (h : FaRow w base b2 (.slice (some ⟨g0, 0, none⟩) 0 0) []) (hall : FaRow w base0 b0 (.slice A fs.length c) fs) (hn : fs.length ≤ 1000000) (hb : base ≤ w.heap.size) (hb2 : b2 ≤ base) (hb0 : b0 ≤ b2) :
    ∃ v' w', (Builtin.append_ #[43, 43] 43 #[.slice (some ⟨g0, 0, none⟩) 0 0, .slice A fs.length c]).run Try.prog w = .ok v' w' ∧ FaRow w' base b2 v' fs ∧ Below w.heap.size w w' := by
  rcases Nat.eq_zero_or_pos fs.length with h0 | h0
  · have hfs : fs = [] := List.eq_nil_of_length_eq_zero h0
    subst hfs
    exact ⟨_, w, app_none w g0 A c, h, Below.refl _ _⟩
  · obtain ⟨xs, q1, q2, q3⟩ := h
    obtain ⟨ys, p1, p2, p3⟩ := hall
    have hxs : xs = [] := List.eq_nil_of_length_eq_zero (by have := q2.1; simpa using this)
    subst hxs
    obtain ⟨i0, hi, hz0, hz1, hz2⟩ := info_parts info58
    obtain ⟨g, cap, e, _, hg⟩ := p1.form h0
    injection e with e1 e2 e3
    subst e1
    have hy : ∀ (j : Nat) (u : Value), ys[j]? = some u → PcF (j % 2) u ∧ u.oneCell' = true := fun j u hu => by
      have hj : j < ys.length := (List.getElem?_eq_some_iff.1 hu).1
      have hl := p2.1
      obtain ⟨A', c', y0, y1, _⟩ := p2.2 (j / 2) (by omega)
      rcases (show j % 2 = 0 ∨ j % 2 = 1 by omega) with hj2 | hj2
      · rw [show j / 2 * 2 = j by omega, hu] at y0
        injection y0 with y0
        rw [y0, hj2]
        exact ⟨.inl ⟨rfl, _, rfl⟩, rfl⟩
      · rw [show j / 2 * 2 + 1 = j by omega, hu] at y1
        injection y1 with y1
        rw [y1, hj2]
        exact ⟨.inr ⟨rfl, _, _, _, rfl⟩, rfl⟩
    obtain ⟨v', w', hr, hw, hgr, hp, hat⟩ := run_app_pc (P := Try.prog) w base 43 58 i0 _ 2 32 Try.underlying43 hi hz0 hz1 hz2 rfl (by decide) (.slice (some ⟨g0, 0, none⟩) 0 0) 0 [] q1 ⟨g, 0, none⟩ fs.length c ys p2.1 (fun j u hu => p1.cells (g := g) rfl j u hu)
      (fun u hu => by obtain ⟨j, hj⟩ := List.getElem?_of_mem hu; exact (hy j u hj).2) h0 (by simp only [maxLen]; omega) (by omega) hb PcF q3 (fun j u hu => by
        rcases j with _ | _ | j
        · cases hu; exact .inl ⟨rfl, _, rfl⟩
        · cases hu; exact .inr ⟨rfl, _, _, _, rfl⟩
        · cases hu) (fun j u hu => (hy j u hu).1)
    have hk : KeepW b2 w w' := keep_row q1 (by decide) hb2 hgr
    have eq1 := run_append_grow (P := Try.prog) w 43 43 58 i0 _ Try.underlying43 hi hz0 ⟨g0, 0, none⟩ 0 0 [] (by simp) (fun j u hu => by cases hu) ⟨g, 0, none⟩ fs.length c ys (by rw [hz1]; exact p2.1) (fun j u hu => p1.cells (g := g) rfl j u hu) (by omega) (by omega) (growslice_fits (by omega) (by rw [hz2]; omega))
    rw [eq1] at hr
    injection hr with e1 e2
    rw [Nat.zero_add] at hw
    refine ⟨v', w', by rw [eq1, e1, e2], ⟨_, by simpa using hw, (RdW.up p2 hb0).keep hk, hp⟩, ?_⟩
    refine ⟨hgr.os, hgr.tape, hgr.output, hgr.size, fun i hi' => ?_⟩
    rw [← e2, Below.heap_alloc _ _ _ (show i < w.drew.heap.size from hi')]
    rfl
/-! What operations leave: an empty row, a row of records, a pair in a block of its own. -/
def lfRow (base b2 : Nat) (fs : Ws) : Dis.Left := ⟨fun v w => FaRow w base b2 v fs, fun _ _ _ hb h => h.below hb⟩
def lfRow0 (base b2 : Nat) : Dis.Left := ⟨fun v w => ∃ g, v = .slice (some ⟨g, 0, none⟩) 0 0 ∧ FaRow w base b2 v [], fun _ _ _ hb ⟨g, e, h⟩ => ⟨g, e, h.below hb⟩⟩
def lfPair (T : TypeId) (a b : Value) : Dis.Left := ⟨fun v w => ∃ g, v = .slice (some ⟨g, 0, none⟩) 1 1 ∧ w.heap[g]? = some (.cells #[a, b] T (0, 0)), fun _ _ _ hb ⟨g, e, h⟩ => ⟨g, e, box_at h hb⟩⟩
end Go.Proofs.Ytjcgggheablpeaa.Wal
