/- Contracts: rows of balances of a call's own: a copy of one, one balance put in, one taken out. Conditions: none. -/
import Derived.Test.YtejdhemnlcbffaaDoorB5
import Derived.Shelf.RegionOpenPlain
import Derived.Lib.SliceRun
import Derived.Lib.AppendZerosOnto
import Derived.Lib.Overlaps
import Derived.Laws.Externs
import Derived.Laws.Cover3
import Derived.Laws.IdiomCopy
import Derived.Deep.RegionLaw
import Derived.Lib.LazyBuf
namespace Go.Proofs.YtejdhemnlcbffaaDoor.Bok
open Go.RowKit Cht Ent
open Go.Shelf Go.Lib

/-! ### Runs -/
section
variable {P : Program}
theorem run_copyZ (w : World) (dT sT ty elem : TypeId) (z b o dLen dCap : Nat) (a : Addr) (sLen sCap : Nat) (cs : List Value)
    (hu : P.underlying dT = some (.slice elem)) (hs : (P.info? elem).map (·.size) = some z) (hn : cs.length = Nat.min sLen dLen * z)
    (hsrc : ∀ j v, cs[j]? = some v → w.cell? (a.add j) = some v) (hc : ∀ j, j < cs.length → (w.cell? ⟨b, o + j, none⟩).isSome = true) (hf : ∀ j, j < cs.length → w.frozen? ⟨b, o + j, none⟩ = false) (h1 : ∀ v ∈ cs, v.oneCell' = true) :
    (Builtin.copy_ #[dT, sT] ty #[.slice (some ⟨b, o, none⟩) dLen dCap, .slice (some a) sLen sCap]).run P w = .ok (goInt (Nat.min sLen dLen)) (w.setCells b o cs) := by
  have hl := run_loadCells_list (P := P) w a cs hsrc
  have hst := run_storeCells_cells (P := P) b o cs 0 w (by simpa using hc) (by simpa using hf) h1
  cases hq : P.info? elem with
  | none => simp [hq] at hs
  | some i =>
    have hi : i.size = z := by simpa [hq] using hs
    rw [hn] at hl
    simp [Builtin.copy_, run_underlying hu, Builtin.lenOf, Builtin.firstCells, sizeOf, typeInfo, hq, hi, hl, hst]
theorem wp_copyR (w : World) {o : Oper} {a : Act} {K : Act → World → Prop} {Q : Exit → Act → World → Prop} (d s : Operand) (t t' : TypeId)
    (ho : o.op = .call { callee := .builtin .copy, args := #[d, s], argTypes := #[t, t'] }) (v u : Value) (hd : a.eval d = v) (hs : a.eval s = u) {v' : Value} {w' : World}
    (hr : (Builtin.copy_ #[t, t'] o.type #[v, u]).run P w = .ok v' w') (h : K (a.put o.dst v') w') : o.wp P a w K Q := by
  unfold Oper.wp execOp
  simp only [ho, resolve, invoke, builtin, Sem.run_bind, Sem.run_pure, Result.andThen_ok, List.map_toArray, List.map_cons, List.map_nil, hd, hs, hr]
  exact h
theorem wpList_copyR (w : World) {ops : Array Oper} {rest : List Oper} {o : Oper} {a : Act} {Q : Exit → Act → World → Prop} (hgd : o.guard = none) (d s : Operand) (t t' : TypeId)
    (ho : o.op = .call { callee := .builtin .copy, args := #[d, s], argTypes := #[t, t'] }) (v u : Value) (hd : a.eval d = v) (hs : a.eval s = u) {v' : Value} {w' : World}
    (hr : (Builtin.copy_ #[t, t'] o.type #[v, u]).run P w = .ok v' w') (h : wpList P ops Q rest (a.put o.dst v') w') : wpList P ops Q (o :: rest) a w :=
  wpList_plain hgd fun _ hK => wp_copyR w d s t t' ho v u hd hs hr (hK _ _ h)
theorem step_copyR {ops : Array Oper} {o : Oper} {a : Act} {w : World} {K : Act → World → Prop} {Q : Exit → Act → World → Prop} {E : Prop}
    (hg : o.guard = none) (d x : Operand) (dT sT : TypeId) (hop : o.op = Op.call { callee := Callee.builtin Builtin.copy, args := #[d, x], argTypes := #[dT, sT] })
    (v u : Value) (hd : a.eval d = v) (hx : a.eval x = u) {v' : Value} {w' : World} (hr : (Builtin.copy_ #[dT, sT] o.type #[v, u]).run P w = .ok v' w') (hK : K (a.put o.dst v') w') :
    if Region.wanted o (yielded ops a.tmps) = true then Oper.wp P o a w K Q else E := by
  rw [if_pos (by simp [Region.wanted, hg])]
  exact wp_copyR w d x dT sT hop v u hd hx hr hK
end
theorem infoB : (Tryd.prog.info? 51).map (fun i => (i.zero, i.size, i.bytes)) = some (some (.agg #[.int .i64 0, .string ⟨#[]⟩, .int .i64 0]), 3, 32) := by kernel_rfl
theorem sizeB : (Tryd.prog.info? 51).map (·.size) = some 3 := by kernel_rfl
theorem one_cells (l : List Ln) : ∀ u ∈ lcs l, u.oneCell' = true := by
  intro u hu
  unfold lcs at hu
  obtain ⟨x, _, h⟩ := List.mem_flatMap.1 hu
  exact one_line x u h
theorem lcs_append (l m : List Ln) : lcs (l ++ m) = lcs l ++ lcs m := by unfold lcs; simp
theorem lcs_cons (x : Ln) (m : List Ln) : lcs (x :: m) = [.int .i64 x.k, .string x.s, .int .i64 x.n] ++ lcs m := by unfold lcs; simp
theorem lcs_take (l : List Ln) (i : Nat) : lcs (l.take i) = (lcs l).take (i * 3) := by
  induction l generalizing i with
  | nil => simp [lcs]
  | cons x l ih =>
    cases i with
    | zero => simp [lcs]
    | succ i =>
      rw [List.take_succ_cons, lcs_cons, lcs_cons, ih, show (i + 1) * 3 = i * 3 + 1 + 1 + 1 by omega]
      simp
theorem lcs_drop (l : List Ln) (i : Nat) : lcs (l.drop i) = (lcs l).drop (i * 3) := by
  induction l generalizing i with
  | nil => simp [lcs]
  | cons x l ih =>
    cases i with
    | zero => simp
    | succ i =>
      rw [List.drop_succ_cons, ih, lcs_cons, show (i + 1) * 3 = i * 3 + 1 + 1 + 1 by omega]
      simp
theorem lns_cells {w : World} {B b o : Nat} {l : List Ln} (h : Lns w B (some ⟨b, o, none⟩) l) : ∀ j u, (lcs l)[j]? = some u → w.cell? ⟨b, o + j, none⟩ = some u := fun j u hj => by
  have hlt := (List.getElem?_eq_some_iff.1 hj).1
  rw [lcs_len] at hlt
  have hi : j / 3 < l.length := by omega
  obtain ⟨b', o', e, -, h1, h2, h3⟩ := h (j / 3) hi
  injection e with e
  injection e with e1 e2
  subst e1 e2
  obtain ⟨g1, g2, g3⟩ := lcs_at l (j / 3) hi
  have hr : j = j / 3 * 3 ∨ j = j / 3 * 3 + 1 ∨ j = j / 3 * 3 + 2 := by omega
  rcases hr with hr | hr | hr
  · rw [hr] at hj ⊢; rw [g1] at hj; rw [← hj]; exact h1
  · rw [hr] at hj ⊢; rw [g2] at hj; rw [← hj]; exact h2
  · rw [hr] at hj ⊢; rw [g3] at hj; rw [← hj]; exact h3

/-- A whole row behind cells that are set. -/
theorem row_set (g : Nat) (t : TypeId) : ∀ (vs : List Value) (o : Nat) (w : World) (cur : List Value), w.heap[g]? = some (.cells cur.toArray t (0, 0)) → o + vs.length ≤ cur.length →
    (w.setCells g o vs).heap[g]? = some (.cells (cur.take o ++ vs ++ cur.drop (o + vs.length)).toArray t (0, 0))
  | [], o, w, cur, h, _ => by simpa [World.setCells] using h
  | v :: r, o, w, cur, h, hl => by
    have h1 := heap_setCell_same w g o cur.toArray t v h
    have h2 : (w.setCell ⟨g, o, none⟩ v).heap[g]? = some (.cells (cur.set o v).toArray t (0, 0)) := by
      rw [h1]; simp
    have h3 := row_set g t r (o + 1) _ (cur.set o v) h2 (by simp at hl ⊢; omega)
    rw [World.setCells, h3]
    congr 3
    rw [list_seg_step cur o v r (by simpa using hl)]
    rw [show o + (v :: r).length = o + (r.length + 1) by simp]
theorem size_setCells (b : Nat) : ∀ (vs : List Value) (o : Nat) (w : World), (w.setCells b o vs).heap.size = w.heap.size
  | [], _, _ => rfl
  | v :: r, o, w => by rw [World.setCells, size_setCells b r]; simp [World.setCell]
/-- Cells and freezes of a whole row. -/
theorem row_cell {w : World} {g : Nat} {t : TypeId} {cur : List Value} (h : w.heap[g]? = some (.cells cur.toArray t (0, 0))) (j : Nat) : w.cell? ⟨g, j, none⟩ = cur[j]? := by
  rw [cell_of_row w g j _ _ _ h]; simp
theorem row_free {w : World} {g : Nat} {t : TypeId} {cur : List Value} (h : w.heap[g]? = some (.cells cur.toArray t (0, 0))) (j : Nat) : w.frozen? ⟨g, j, none⟩ = false := frozen_of_row w g j _ _ h
/-- The row behind a slice of a call's own. -/
theorem own_row {w : World} {base e g n cap : Nat} {xs : List Value} (h : w.ownsRow base e 3 (.slice (some ⟨g, 0, none⟩) n cap) n xs) :
    ∃ cur : List Value, w.heap[g]? = some (.cells cur.toArray e (0, 0)) ∧ base ≤ g ∧ n ≤ cap ∧ cap ≤ maxLen ∧ cur.length = cap * 3 ∧ cur.take (n * 3) = xs ∧ xs.length = n * 3 := by
  rcases h.2 with ⟨h', _⟩ | ⟨g', cap', cur, h', hb, hg, hnc, hcm, hcs, ht⟩
  · simp at h'
  · simp only [Value.slice.injEq, Option.some.injEq, Addr.mk.injEq, and_true, true_and] at h'
    obtain ⟨rfl, rfl⟩ := h'
    exact ⟨cur.toList, by simpa using hg, hb, hnc, hcm, by simpa using hcs, ht, h.1⟩
theorem own_of_row {w : World} {base e g n cap : Nat} {cur xs : List Value} (h : w.heap[g]? = some (.cells cur.toArray e (0, 0))) (hb : base ≤ g) (hn : n ≤ cap) (hm : cap ≤ maxLen) (hl : cur.length = cap * 3) (ht : cur.take (n * 3) = xs) (hx : xs.length = n * 3) :
    w.ownsRow base e 3 (.slice (some ⟨g, 0, none⟩) n cap) n xs :=
  ⟨hx, .inr ⟨g, cap, cur.toArray, rfl, hb, h, hn, hm, by simpa using hl, by simpa using ht⟩⟩

/-- A book as a slice of the call's own. -/
abbrev OwnB (w : World) (base : Nat) (v : Value) (l : List Ln) : Prop := w.ownsRow base 51 3 v l.length (lcs l)

theorem eq_nil (A : Option Addr) (n c : Nat) (w : World) : (binOp .eql 22 (.slice A n c) (.slice none 0 0)).run Tryd.prog w = .ok (.bool A.isNone) w := by
  simp only [binOp]
  simp [run_equal_slice_nil w 22 51 A n c Tryd.underlying22]

set_option maxRecDepth 20000 in
set_option maxHeartbeats 1600000 in
theorem clone_any (A : Option Addr) (l : List Ln) (m c : Nat) (w : World) (h : Lns w w.heap.size A l) (hm : l.length = m) (hl : m ≤ 1000) :
    Calls Tryd.prog 30 #[.slice A m c] w fun e w' => ∃ v, e = .returned v ∧ OwnB w' w.heap.size v l ∧ Below w.heap.size w w' := by
  cases A with
  | none =>
    have h0 : l = [] := by
      cases l with
      | nil => rfl
      | cons x l => obtain ⟨b, o, e, -⟩ := h 0 (by simp); cases e
    subst h0
    have hnil := fun W => eq_nil none m c W
    go_enter Tryd.func30, Tryd.ntmps30
    go_wp2_with fail
    go_ret
    exact ⟨_, rfl, World.ownsRow_nil _ _ _ _, Below.refl _ _⟩
  | some a =>
    obtain ⟨i0, hi, hzz0, hz1, hz2⟩ := info_parts infoB
    obtain ⟨w0, hw⟩ : ∃ w0, w0 = w.alloc (.cells #[] 51) := ⟨_, rfl⟩
    have hb0 : Below w.heap.size w w0 := by rw [hw]; exact (Below.refl w.heap.size w).alloc (Nat.le_refl _) _
    have ho0 : w0.ownsRow w.heap.size 51 3 (.slice (some ⟨w.heap.size, 0, none⟩) 0 0) 0 [] := by
      rw [hw]; exact World.ownsRow_made w #[] 0 (Nat.le_refl _) (by unfold maxLen; omega) rfl
    have hcells : ∀ j u, (lcs l)[j]? = some u → w0.cell? (a.add j) = some u := fun j u hj => by
      have hlt := (List.getElem?_eq_some_iff.1 hj).1
      rw [lcs_len] at hlt
      obtain ⟨b, o, e, hb, -⟩ := h 0 (by omega)
      injection e with e
      subst e
      rw [Addr.add_lit]
      exact (hb0.cell (p := ⟨b, o + j, none⟩) hb).trans (lns_cells h j u hj)
    obtain ⟨v', w', hrun, h2, h3, -, h5⟩ := run_append_own_at (P := Tryd.prog) (w := w0) w.heap.size 22 22 51 i0 (.agg #[.int .i64 0, .string ⟨#[]⟩, .int .i64 0]) 3 32 Tryd.underlying22 hi hzz0 hz1 hz2 rfl (by decide) _ 0 [] ho0 a m c (lcs l) (by rw [lcs_len, hm]) hcells (one_cells l) (by unfold maxLen; omega) (by omega) hb0.size
    have HRUN := Lib.hid hrun
    have HO : Hid (OwnB w' w.heap.size v' l) := by
      show World.ownsRow _ _ _ _ _ _ _
      rw [hm]; simpa using h2
    have HB : Hid (Below w.heap.size w w') := hb0.grown h3 hb0.size (fun j hj => (ho0.lt j hj).1)
    have HW := Lib.hid hw
    clear hrun h2 h3 h5 hcells h ho0 hb0 hw
    have hnil := fun W => eq_nil (some a) m c W
    go_enter Tryd.func30, Tryd.ntmps30
    go_wp2_with (at_builtin; rw [← HW.out]; refine Go.Lib.wpList_append_run _ rfl (.tmp 5) (.tmp 6) 22 22 rfl _ _ rfl rfl _ w' HRUN.out ?_)
    go_ret
    exact ⟨_, rfl, HO.out, HB.out⟩
end Go.Proofs.YtejdhemnlcbffaaDoor.Bok
