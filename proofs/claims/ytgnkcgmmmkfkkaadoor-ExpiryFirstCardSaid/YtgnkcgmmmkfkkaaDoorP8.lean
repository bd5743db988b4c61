/- Contracts: what is asked of each hold that comes out of the heap; an ordered row of places. Conditions: the program's array of sizes holds what its initialiser lays. -/
import Derived.Test.YtgnkcgmmmkfkkaaDoorP7
namespace Go.Proofs.YtgnkcgmmmkfkkaaDoor.Hep
open Go.RowKit Cht
open Hol (Hd hv hcs FitH mayH BoxH Hds lapse_any lapseH noH)

/-! ### Rows of numbers -/
def ics (l : List Nat) : List Value := l.map fun i : Nat => .int .i64 (i : Int)
theorem ics_len (l : List Nat) : (ics l).length = l.length := by simp [ics]
theorem ics_append (l m : List Nat) : ics (l ++ m) = ics l ++ ics m := by simp [ics]
abbrev OwnI (w : World) (B : Nat) (v : Value) (l : List Nat) : Prop := w.ownsRow B 3 1 v l.length (ics l)
theorem infoI : (Tryd.prog.info? 3).map (fun i => (i.zero, i.size, i.bytes)) = some (some (.int .i64 0), 1, 8) := by kernel_rfl
theorem one_num (x : Nat) : ∀ u ∈ [Value.int .i64 x], u.oneCell' = true := by
  intro u hu; simp at hu; subst hu; rfl
theorem OwnI.kp {w w' : World} {B : Nat} {v : Value} {l : List Nat} (h : OwnI w B v l) (hk : Kp w w') : OwnI w' B v l := by
  refine ⟨h.1, ?_⟩
  rcases h.2 with hh | ⟨g, cap, cur, e1, h1, h2, h3⟩
  · exact .inl hh
  · exact .inr ⟨g, cap, cur, e1, h1, hk g cur h2, h3⟩
theorem OwnI.set {w : World} {B g : Nat} {v : Value} {l : List Nat} (h : OwnI w B v l) (hg : g < B) (j : Nat) (u : Value) : OwnI (w.setCell ⟨g, j, none⟩ u) B v l := by
  refine ⟨h.1, ?_⟩
  rcases h.2 with hh | ⟨k, cap, cur, e1, h1, h2, h3⟩
  · exact .inl hh
  · exact .inr ⟨k, cap, cur, e1, h1, (heap_setCell_other w ⟨g, j, none⟩ k u (fun e => by simp only at e; omega)).trans h2, h3⟩
/-- One more number, out of a row of one of its own. -/
theorem run_appI (w : World) (B : Nat) (v : Value) (l : List Nat) (h : OwnI w B v l) (x : Nat) (hn : l.length ≤ 1000) (hb : B ≤ w.heap.size) :
    ∃ v' w', (Builtin.append_ #[24, 24] 24 #[v, .slice (some ⟨w.heap.size, 0, none⟩) 1 1]).run Tryd.prog (w.alloc (.cells #[.int .i64 x] 3)) = .ok v' w' ∧ OwnI w' B v' (l ++ [x]) ∧ Below B w w' ∧ (∀ k, k < w.heap.size → v.ownBlock ≠ some k → w'.heap[k]? = w.heap[k]?) := by
  obtain ⟨i0, hi, hzz0, hz1, hz2⟩ := info_parts infoI
  have hO1 : (w.alloc (.cells #[.int .i64 x] 3)).ownsRow B 3 1 v l.length (ics l) := h.alloc _
  obtain ⟨v', w', hrun, h2, h3, _, h5⟩ := run_append_own_at (P := Tryd.prog) (w := w.alloc (.cells #[.int .i64 x] 3)) B 24 24 3 i0 (.int .i64 0) 1 8 Tryd.underlying24 hi hzz0 hz1 hz2 rfl (by decide) v l.length (ics l) hO1 ⟨w.heap.size, 0, none⟩ 1 1 [.int .i64 x] rfl (fun j u hj => by
    rw [Addr.add_lit, Nat.zero_add, World.cell?_alloc_new]
    simpa using hj) (one_num x) (by unfold maxLen; omega) (by omega) (by rw [World.size_alloc]; omega)
  refine ⟨v', w', hrun, ?_, ((Below.refl _ _).alloc hb _).grown h3 (by rw [World.size_alloc]; omega) (fun j hj => (hO1.lt j hj).1), fun k hk hne => ?_⟩
  · show World.ownsRow _ _ _ _ _ _ _
    rw [ics_append, List.length_append]; exact h2
  · obtain ⟨-, -, -, -, k7⟩ := h3
    rw [k7 k (by rw [World.size_alloc]; omega) (fun e => hne e.symm)]
    exact heap_keep w _ k hk
def lenV : Value → Nat
  | .slice _ n _ => n
  | _ => 0
theorem own_lenV {w : World} {B : Nat} {v : Value} {l : List Nat} (h : OwnI w B v l) : lenV v = l.length := by
  rcases h.2 with ⟨rfl, h0⟩ | ⟨g, cap, cur, rfl, _⟩
  · exact h0.symm
  · rfl
theorem HQ.setLow {w : World} {B g k : Nat} {q : List Pl} (h : HQ w B g q) (hk : k < B) (u : Value) : HQ (w.setCell ⟨k, 0, none⟩ u) B g q := by
  obtain ⟨h0, b, cap, h1, h2⟩ := h
  have h3 := h2.lt
  exact ⟨h0, b, cap, (heap_setCell_other w ⟨k, 0, none⟩ g u (fun e => by simp only at e; omega)).trans h1, h2.other (by omega) u⟩
/-- The queue is not touched by an append onto a row of numbers. -/
theorem HQ.keep {w w' : World} {B g : Nat} {q : List Pl} {v : Value} {l : List Nat} (h : HQ w B g q) (ho : OwnI w B v l) (hk : ∀ k, k < w.heap.size → v.ownBlock ≠ some k → w'.heap[k]? = w.heap[k]?) : HQ w' B g q := by
  obtain ⟨h0, b, cap, h1, h2⟩ := h
  obtain ⟨cur, hc, c1, c2, c3, c4, c5⟩ := h2.row
  have hb := (Array.getElem?_eq_some_iff.1 hc).1
  have hg := h1.lt
  have key : ∀ k cs t, t ≠ 3 → w.heap[k]? = some (.cells cs t (0, 0)) → v.ownBlock ≠ some k := fun k cs t ht hk e => by
    rcases ho.2 with ⟨rfl, _⟩ | ⟨g', cap', cur', rfl, _, hg', _⟩
    · simp [Value.ownBlock] at e
    · simp [Value.ownBlock] at e
      subst e
      rw [hk] at hg'
      simp at hg'
      exact ht hg'.2
  exact ⟨h0, b, cap, (hk g hg (key g _ 64 (by decide) h1)).trans h1, ⟨h2.1, .inr ⟨b, cap, cur, rfl, c1, (hk b hb (key b _ 59 (by decide) hc)).trans hc, c2, c3, c4, c5⟩⟩⟩

/-! ### In order of time -/
def insP (x : Pl) : List Pl → List Pl
  | [] => [x]
  | y :: s => if ltP x y = true then x :: y :: s else y :: insP x s
theorem ins_perm (x : Pl) (s : List Pl) : (insP x s).Perm (x :: s) := by
  induction s with
  | nil => exact List.Perm.refl _
  | cons y s ih =>
    unfold insP
    split
    · exact List.Perm.refl _
    · exact (List.Perm.cons y ih).trans (List.Perm.swap _ _ _)
theorem ins_srt {x : Pl} {s : List Pl} (h : Srt s) (hx : ∀ y ∈ s, x ≠ y) : Srt (insP x s) := by
  induction s with
  | nil => exact List.pairwise_singleton _ _
  | cons y s ih =>
    obtain ⟨h1, h2⟩ := List.pairwise_cons.1 h
    unfold insP
    split
    · rename_i hlt
      refine List.pairwise_cons.2 ⟨fun z hz => ?_, h⟩
      rcases List.mem_cons.1 hz with rfl | hz
      · exact hlt
      · exact ltP_tr hlt (h1 z hz)
    · rename_i hlt
      have hyx : ltP y x = true := by
        rcases ltP_tri x y with e | e | e
        · exact absurd e hlt
        · exact absurd e (hx y (List.mem_cons_self))
        · exact e
      refine List.pairwise_cons.2 ⟨fun z hz => ?_, ih h2 (fun z hz => hx z (List.mem_cons_of_mem _ hz))⟩
      rcases List.mem_cons.1 ((ins_perm x s).mem_iff.1 hz) with rfl | hz
      · exact hyx
      · exact h1 z hz
def srtP : List Pl → List Pl
  | [] => []
  | x :: s => insP x (srtP s)
theorem srt_perm (s : List Pl) : (srtP s).Perm s := by
  induction s with
  | nil => exact List.Perm.refl _
  | cons x s ih => exact (ins_perm x (srtP s)).trans (List.Perm.cons x ih)
theorem srt_srt {s : List Pl} (h : s.Pairwise fun a b => a ≠ b) : Srt (srtP s) := by
  induction s with
  | nil => exact List.Pairwise.nil
  | cons x s ih =>
    obtain ⟨h1, h2⟩ := List.pairwise_cons.1 h
    exact ins_srt (ih h2) (fun y hy => h1 y ((srt_perm s).mem_iff.1 hy))
/-- All that are open, in order of time. -/
def ordL (l : List Hd) : List Pl := srtP (opn l l.length)
theorem ord_perm (l : List Hd) : (ordL l).Perm (opn l l.length) := srt_perm _
theorem ord_srt (l : List Hd) : Srt (ordL l) := srt_srt ((opn_once l l.length).imp fun h e => by rw [e] at h; exact absurd h (Nat.lt_irrefl _))
theorem ord_mem {l : List Hd} {p : Pl} (h : p ∈ ordL l) : ∃ hk : p.i < l.length, opH l[p.i] = true ∧ p = plc l[p.i] p.i := by
  obtain ⟨a, b, c, d⟩ := opn_mem ((ord_perm l).mem_iff.1 h)
  exact ⟨a, c, d⟩
theorem ord_len (l : List Hd) : (ordL l).length ≤ l.length := by rw [(ord_perm l).length_eq]; exact opn_len _ _
/-- Those that are taken, up to the first that is not. -/
def tkP (P : Nat → Nat → Bool) : Nat → List Pl → List Nat
  | _, [] => []
  | k, x :: s => if P k x.i = true then x.i :: tkP P (k + 1) s else []
theorem tk_yes {P : Nat → Nat → Bool} {k : Nat} {x : Pl} {s : List Pl} (h : P k x.i = true) : tkP P k (x :: s) = x.i :: tkP P (k + 1) s := if_pos h
theorem tk_no {P : Nat → Nat → Bool} {k : Nat} {x : Pl} {s : List Pl} (h : P k x.i = false) : tkP P k (x :: s) = [] := if_neg (by rw [h]; decide)

set_option maxHeartbeats 800000 in
theorem due1_any (x : Hd) (t : Int) (gt : Nat) (w : World) (hE : Env w) (hf : FitH x) (ht : w.cell? ⟨gt, 0, none⟩ = some (.int .i64 t)) (hl : gt < w.heap.size) :
    Calls Tryd.prog 25 #[hv x, .pointer (some ⟨gt, 0, none⟩)] w fun e w' => e = .returned (.bool (lapseH x t).2) ∧ Below w.heap.size w w' := by
  obtain ⟨W, hW⟩ : ∃ W, W = w.alloc (.cells (hcs x) 29) := ⟨_, rfl⟩
  have hb : Below w.heap.size w W := by rw [hW]; exact (Below.refl _ _).alloc (Nat.le_refl _) _
  have hx : BoxH w.heap.size x W := by rw [hW]; exact BoxH.new w x
  have ht2 := (hb.cell (p := ⟨gt, 0, none⟩) hl).trans ht
  have HB := Lib.hid hb
  have HW := Lib.hid hW
  have HM := Lib.hid (lapse_any x t W (hE.below hb) hf)
  obtain ⟨c0, c1, c2, c3, c4, c5, c6, -⟩ := hx.cells
  generalize lapseH x t = y at *
  obtain ⟨y1, y2⟩ := y
  clear hx hb hW hE hf ht
  go_enter Tryd.func25, Tryd.ntmps25
  go_upto_region 1 with fail
  rw [← HW.out]
  go_wp2_with fail
  refine HM.out.mono ?_
  rintro e w1 ⟨rfl, hb1⟩
  have HB1 := Lib.hid (Below.on HB.out hb1)
  clear hb1 c0 c1 c2 c3 c4 c5 c6
  go_wp2_with fail
  go_ret
  exact ⟨rfl, HB1.out.alloc HB1.out.size _⟩
theorem below_set {B g : Nat} {w w' : World} (h : Below B w w') (u : Value) : Below B (w.setCell ⟨g, 0, none⟩ u) (w'.setCell ⟨g, 0, none⟩ u) := by
  refine ⟨h.os, h.tape, h.output, ?_, fun k hk => ?_⟩
  · have := h.size; simpa [World.setCell] using this
  · have := h.block k hk
    simp only [World.setCell, Array.getElem?_modify]
    split <;> simp [this]
set_option maxHeartbeats 800000 in
theorem first1_any (x : Hd) (a n : Int) (gc gn : Nat) (w : World) (hc : w.cell? ⟨gc, 0, none⟩ = some (.int .i64 a)) (hcf : w.frozen? ⟨gc, 0, none⟩ = false) (hn : w.cell? ⟨gn, 0, none⟩ = some (.int .i64 n)) (hlc : gc < w.heap.size) (hln : gn < w.heap.size) (hne : gn ≠ gc) (ha : 0 ≤ a ∧ a ≤ 1000) :
    Calls Tryd.prog 26 #[hv x, .pointer (some ⟨gc, 0, none⟩), .pointer (some ⟨gn, 0, none⟩)] w fun e w' => e = .returned (.bool (decide (a + 1 ≤ n))) ∧ Below w.heap.size (w.setCell ⟨gc, 0, none⟩ (.int .i64 (a + 1))) w' := by
  obtain ⟨W, hW⟩ : ∃ W, W = w.alloc (.cells (hcs x) 29) := ⟨_, rfl⟩
  have hb : Below w.heap.size w W := by rw [hW]; exact (Below.refl _ _).alloc (Nat.le_refl _) _
  have hc2 := (hb.cell (p := ⟨gc, 0, none⟩) hlc).trans hc
  have hn2 := (hb.cell (p := ⟨gn, 0, none⟩) hln).trans hn
  have hf2 : W.frozen? ⟨gc, 0, none⟩ = false := (hb.frozen (p := ⟨gc, 0, none⟩) hlc).trans hcf
  have HB := Lib.hid (below_set (g := gc) hb (.int .i64 (a + 1)))
  have HW := Lib.hid hW
  have hne1 : ¬ gc = gn := fun e => hne e.symm
  clear hb hW hc hn hcf
  go_enter Tryd.func26, Tryd.ntmps26
  go_upto_region 1 with fail
  rw [← HW.out]
  go_wp2_with fail
  go_ret
  exact ⟨rfl, HB.out⟩
end Go.Proofs.YtgnkcgmmmkfkkaaDoor.Hep
