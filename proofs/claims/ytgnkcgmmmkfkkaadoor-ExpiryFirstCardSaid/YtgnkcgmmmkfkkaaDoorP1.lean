/- Contracts: a row of places: how many there are, two changed with one another. Conditions: none. -/
import Derived.Test.YtgnkcgmmmkfkkaaDoorPA
import Derived.BigRegion
namespace Go.Proofs.YtgnkcgmmmkfkkaaDoor.Hep
open Go.RowKit Cht

/-- The cells of places, one behind the other. -/
def pcs (l : List Pl) : List Value := l.flatMap fun x => [.int .i64 x.u, .string x.k, .int .i64 x.i]
theorem pcs_nil : pcs [] = [] := rfl
theorem pcs_cons (x : Pl) (l : List Pl) : pcs (x :: l) = .int .i64 x.u :: .string x.k :: .int .i64 x.i :: pcs l := by simp [pcs]
theorem pcs_len (l : List Pl) : (pcs l).length = l.length * 3 := by
  induction l with
  | nil => rfl
  | cons x l ih => rw [pcs_cons]; simp [ih]; omega
theorem pcs_append (l m : List Pl) : pcs (l ++ m) = pcs l ++ pcs m := by simp [pcs]
theorem pcs_at (l : List Pl) (i : Nat) (h : i < l.length) : (pcs l)[i * 3]? = some (.int .i64 l[i].u) ∧ (pcs l)[i * 3 + 1]? = some (.string l[i].k) ∧ (pcs l)[i * 3 + 2]? = some (.int .i64 l[i].i) := by
  induction l generalizing i with
  | nil => simp at h
  | cons x l ih =>
    cases i with
    | zero => rw [pcs_cons]; exact ⟨rfl, rfl, rfl⟩
    | succ i =>
      rw [pcs_cons, show (i + 1) * 3 = i * 3 + 1 + 1 + 1 by omega, show i * 3 + 1 + 1 + 1 + 1 = (i * 3 + 1) + 1 + 1 + 1 by omega, show i * 3 + 1 + 1 + 1 + 2 = (i * 3 + 2) + 1 + 1 + 1 by omega]
      simp only [List.getElem?_cons_succ, List.getElem_cons_succ]
      exact ih i (by simpa using h)
theorem pcs_set (l : List Pl) (i : Nat) (x : Pl) : pcs (l.set i x) = (((pcs l).set (i * 3) (.int .i64 x.u)).set (i * 3 + 1) (.string x.k)).set (i * 3 + 2) (.int .i64 x.i) := by
  induction l generalizing i with
  | nil => simp [pcs]
  | cons y l ih =>
    cases i with
    | zero => rw [List.set_cons_zero, pcs_cons, pcs_cons]; rfl
    | succ i =>
      rw [List.set_cons_succ, pcs_cons, pcs_cons, ih, show (i + 1) * 3 = i * 3 + 1 + 1 + 1 by omega, show i * 3 + 1 + 1 + 1 + 1 = (i * 3 + 1) + 1 + 1 + 1 by omega, show i * 3 + 1 + 1 + 1 + 2 = (i * 3 + 2) + 1 + 1 + 1 by omega]
      simp only [List.set_cons_succ]
theorem pcs_take (l : List Pl) (i : Nat) : pcs (l.take i) = (pcs l).take (i * 3) := by
  induction l generalizing i with
  | nil => simp [pcs]
  | cons x l ih =>
    cases i with
    | zero => simp [pcs]
    | succ i =>
      rw [List.take_succ_cons, pcs_cons, pcs_cons, ih, show (i + 1) * 3 = i * 3 + 1 + 1 + 1 by omega]
      simp
/-- A row of places of a call's own. -/
abbrev Row (w : World) (B b cap : Nat) (q : List Pl) : Prop := w.ownsRow B 59 3 (.slice (some ⟨b, 0, none⟩) q.length cap) q.length (pcs q)
theorem Row.at {w : World} {B b cap : Nat} {q : List Pl} (h : Row w B b cap q) (i : Nat) (hi : i < q.length) :
    w.cell? ⟨b, i * 3, none⟩ = some (.int .i64 q[i].u) ∧ w.cell? ⟨b, i * 3 + 1, none⟩ = some (.string q[i].k) ∧ w.cell? ⟨b, i * 3 + 2, none⟩ = some (.int .i64 q[i].i) := by
  obtain ⟨h1, h2, h3⟩ := pcs_at q i hi
  exact ⟨(h.cellAt _ (by omega)).trans h1, (h.cellAt _ (by omega)).trans h2, (h.cellAt _ (by omega)).trans h3⟩
theorem Row.lt {w : World} {B b cap : Nat} {q : List Pl} (h : Row w B b cap q) : B ≤ b ∧ b < w.heap.size := World.ownsRow.lt h b rfl
theorem Row.below {w w' : World} {B b cap : Nat} {q : List Pl} (h : Row w B b cap q) (hb : Below w.heap.size w w') : Row w' B b cap q := Hol.own_below h hb
theorem drew_heap (w : World) (g : Nat) : w.drew.heap[g]? = w.heap[g]? := rfl
theorem Row.drew {w : World} {B b cap : Nat} {q : List Pl} (h : Row w B b cap q) : Row w.drew B b cap q := h
theorem Row.caps {w : World} {B b cap : Nat} {q : List Pl} (h : Row w B b cap q) : q.length ≤ cap ∧ cap ≤ maxLen := by
  rcases h.2 with ⟨h', _⟩ | ⟨g, cap', cur, h', _, _, h1, h2, _⟩
  · simp at h'
  · simp only [Value.slice.injEq, Option.some.injEq, Addr.mk.injEq, and_true, true_and] at h'
    obtain ⟨rfl, rfl⟩ := h'
    exact ⟨h1, h2⟩

theorem len_any (A : Option Addr) (n c : Nat) (w : World) : Calls Tryd.prog 34 #[.slice A n c] w fun e w' => e = .returned (.int .i64 n) ∧ w = w' := by
  go_enter Tryd.func34, Tryd.ntmps34
  go_wp2_with fail
  go_ret
  exact ⟨rfl, rfl⟩

theorem Row.put {w : World} {B b cap : Nat} {q : List Pl} (h : Row w B b cap q) (i : Nat) (x : Pl) :
    Row (((w.setCell ⟨b, i * 3, none⟩ (.int .i64 x.u)).setCell ⟨b, i * 3 + 1, none⟩ (.string x.k)).setCell ⟨b, i * 3 + 2, none⟩ (.int .i64 x.i)) B b cap (q.set i x) := by
  have h1 := (h.stored (i * 3) (.int .i64 x.u)).1
  have h2 := (h1.stored (i * 3 + 1) (.string x.k)).1
  have h3 := (h2.stored (i * 3 + 2) (.int .i64 x.i)).1
  show World.ownsRow _ _ _ _ _ _ _
  rw [pcs_set, List.length_set]
  exact h3
theorem Row.swp {w : World} {B b cap : Nat} {q : List Pl} (h : Row w B b cap q) {i j : Nat} (hi : i < q.length) (hj : j < q.length) :
    Row ((((((w.setCell ⟨b, i * 3, none⟩ (.int .i64 q[j].u)).setCell ⟨b, i * 3 + 1, none⟩ (.string q[j].k)).setCell ⟨b, i * 3 + 2, none⟩ (.int .i64 q[j].i)).setCell ⟨b, j * 3, none⟩ (.int .i64 q[i].u)).setCell ⟨b, j * 3 + 1, none⟩ (.string q[i].k)).setCell ⟨b, j * 3 + 2, none⟩ (.int .i64 q[i].i)) B b cap (swp q i j) := by
  rw [swp_eq hi hj]
  exact (h.put i q[j]).put j q[i]

set_option maxRecDepth 20000 in
set_option maxHeartbeats 1600000 in
theorem swap_any (B b cap : Nat) (q : List Pl) (i j n : Nat) (w : World) (h : Row w B b cap q) (hn : q.length = n) (hi : i < q.length) (hj : j < q.length) :
    Calls Tryd.prog 67 #[.slice (some ⟨b, 0, none⟩) n cap, .int .i64 i, .int .i64 j] w fun e w' => e = .returned (.tuple #[]) ∧ Row w' B b cap (swp q i j) ∧ Below B w w' ∧ ∀ g, g ≠ b → w'.heap[g]? = w.heap[g]? := by
  obtain ⟨a0, a1, a2⟩ := h.at i hi
  obtain ⟨b0, b1, b2⟩ := h.at j hj
  have f0 := fun m => World.ownsRow.frozenAt h m
  have hs := h.swp hi hj
  have hlt := h.lt
  have hcap := h.caps
  have hB : Below B w ((((((w.setCell ⟨b, i * 3, none⟩ (.int .i64 q[j].u)).setCell ⟨b, i * 3 + 1, none⟩ (.string q[j].k)).setCell ⟨b, i * 3 + 2, none⟩ (.int .i64 q[j].i)).setCell ⟨b, j * 3, none⟩ (.int .i64 q[i].u)).setCell ⟨b, j * 3 + 1, none⟩ (.string q[i].k)).setCell ⟨b, j * 3 + 2, none⟩ (.int .i64 q[i].i)) :=
    ((((((Below.refl B w).setCell (p := ⟨b, i * 3, none⟩) hlt.1 _).setCell (p := ⟨b, i * 3 + 1, none⟩) hlt.1 _).setCell (p := ⟨b, i * 3 + 2, none⟩) hlt.1 _).setCell (p := ⟨b, j * 3, none⟩) hlt.1 _).setCell (p := ⟨b, j * 3 + 1, none⟩) hlt.1 _).setCell (p := ⟨b, j * 3 + 2, none⟩) hlt.1 _
  have hO : ∀ g, g ≠ b → ((((((w.setCell ⟨b, i * 3, none⟩ (.int .i64 q[j].u)).setCell ⟨b, i * 3 + 1, none⟩ (.string q[j].k)).setCell ⟨b, i * 3 + 2, none⟩ (.int .i64 q[j].i)).setCell ⟨b, j * 3, none⟩ (.int .i64 q[i].u)).setCell ⟨b, j * 3 + 1, none⟩ (.string q[i].k)).setCell ⟨b, j * 3 + 2, none⟩ (.int .i64 q[i].i)).heap[g]? = w.heap[g]? := fun g hg => by
    rw [heap_setCell_other _ _ g _ hg, heap_setCell_other _ _ g _ hg, heap_setCell_other _ _ g _ hg, heap_setCell_other _ _ g _ hg, heap_setCell_other _ _ g _ hg, heap_setCell_other _ _ g _ hg]
  have hin : (i : Int) < n := by omega
  have hjn : (j : Int) < n := by omega
  have hnc : n ≤ cap := by omega
  have HS := Lib.hid hs
  have HB := Lib.hid hB
  have HO := Lib.hid hO
  clear hs hB hO h hn hcap
  obtain ⟨x, hx⟩ : ∃ x, x = q[i] := ⟨_, rfl⟩
  obtain ⟨y, hy⟩ : ∃ y, y = q[j] := ⟨_, rfl⟩
  rw [← hx] at a0 a1 a2 HS HB HO
  rw [← hy] at b0 b1 b2 HS HB HO
  have HIJ : i = j → x = y := fun e => by subst e; rw [hx, hy]
  clear hx hy hi hj
  by_cases hij : i = j
  · have hxy := HIJ hij
    subst hij hxy
    clear HIJ b0 b1 b2
    go_enter Tryd.func67, Tryd.ntmps67
    go_wp2
    go_region
    go_wp2
    refine bodyPost_end (results_none rfl _ _ _) rfl ?_
    exact ⟨rfl, Row.drew HS.out, HB.out.drew, fun g hg => (drew_heap _ g).trans (HO.out g hg)⟩
  · clear HIJ
    have hne00 : ¬ i * 3 = j * 3 := by omega
    have hnf00 : ¬ j * 3 = i * 3 := by omega
    have hne01 : ¬ i * 3 = j * 3 + 1 := by omega
    have hnf01 : ¬ j * 3 = i * 3 + 1 := by omega
    have hne02 : ¬ i * 3 = j * 3 + 2 := by omega
    have hnf02 : ¬ j * 3 = i * 3 + 2 := by omega
    have hne10 : ¬ i * 3 + 1 = j * 3 := by omega
    have hnf10 : ¬ j * 3 + 1 = i * 3 := by omega
    have hne11 : ¬ i * 3 + 1 = j * 3 + 1 := by omega
    have hnf11 : ¬ j * 3 + 1 = i * 3 + 1 := by omega
    have hne12 : ¬ i * 3 + 1 = j * 3 + 2 := by omega
    have hnf12 : ¬ j * 3 + 1 = i * 3 + 2 := by omega
    have hne20 : ¬ i * 3 + 2 = j * 3 := by omega
    have hnf20 : ¬ j * 3 + 2 = i * 3 := by omega
    have hne21 : ¬ i * 3 + 2 = j * 3 + 1 := by omega
    have hnf21 : ¬ j * 3 + 2 = i * 3 + 1 := by omega
    have hne22 : ¬ i * 3 + 2 = j * 3 + 2 := by omega
    have hnf22 : ¬ j * 3 + 2 = i * 3 + 2 := by omega
    go_enter Tryd.func67, Tryd.ntmps67
    go_wp2
    go_region
    go_wp2
    refine bodyPost_end (results_none rfl _ _ _) rfl ?_
    exact ⟨rfl, Row.drew HS.out, HB.out.drew, fun g hg => (drew_heap _ g).trans (HO.out g hg)⟩
end Go.Proofs.YtgnkcgmmmkfkkaaDoor.Hep
