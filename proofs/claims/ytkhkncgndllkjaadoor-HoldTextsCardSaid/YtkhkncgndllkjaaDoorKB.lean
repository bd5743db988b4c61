/- Boxes with holds: what stores leave in them. Conditions: none. -/
import Derived.Test.YtkhkncgndllkjaaDoorK4
namespace Go.Proofs.YtkhkncgndllkjaaDoor.Hol
open Go.RowKit Cht

theorem sizeS (w : World) (a : Addr) (v : Value) : (w.setCell a v).heap.size = w.heap.size := by simp [World.setCell]
theorem box_put {g : Nat} {x : Hd} {w : World} (h : BoxH g x w) (y : Hd) : BoxH g y (((((((w.setCell ⟨g, 0, none⟩ (.string y.r)).setCell ⟨g, 1, none⟩ (.string y.a)).setCell ⟨g, 2, none⟩ (.string y.p)).setCell ⟨g, 3, none⟩ (.int .i64 y.ap)).setCell ⟨g, 4, none⟩ (.int .i64 y.ca)).setCell ⟨g, 5, none⟩ (.int .i64 y.un)).setCell ⟨g, 6, none⟩ (.bool y.op)) := by
  unfold BoxH at *
  simp [World.setCell, Array.getElem?_modify, h]
theorem size_put (w : World) (g : Nat) (y : Hd) : ((((((((w.setCell ⟨g, 0, none⟩ (.string y.r)).setCell ⟨g, 1, none⟩ (.string y.a)).setCell ⟨g, 2, none⟩ (.string y.p)).setCell ⟨g, 3, none⟩ (.int .i64 y.ap)).setCell ⟨g, 4, none⟩ (.int .i64 y.ca)).setCell ⟨g, 5, none⟩ (.int .i64 y.un)).setCell ⟨g, 6, none⟩ (.bool y.op))).heap.size = w.heap.size := by
  simp only [sizeS]
theorem box_other {g k : Nat} {x : Hd} {w : World} (h : BoxH g x w) (o : Nat) (v : Value) (hk : g ≠ k) : BoxH g x (w.setCell ⟨k, o, none⟩ v) := (Below.heap_setCell w ⟨k, o, none⟩ v g hk).trans h
theorem box_puts {g k : Nat} {x : Hd} {w : World} (h : BoxH g x w) (y : Hd) (hk : g ≠ k) : BoxH g x (((((((w.setCell ⟨k, 0, none⟩ (.string y.r)).setCell ⟨k, 1, none⟩ (.string y.a)).setCell ⟨k, 2, none⟩ (.string y.p)).setCell ⟨k, 3, none⟩ (.int .i64 y.ap)).setCell ⟨k, 4, none⟩ (.int .i64 y.ca)).setCell ⟨k, 5, none⟩ (.int .i64 y.un)).setCell ⟨k, 6, none⟩ (.bool y.op)) :=
  box_other (box_other (box_other (box_other (box_other (box_other (box_other h 0 _ hk) 1 _ hk) 2 _ hk) 3 _ hk) 4 _ hk) 5 _ hk) 6 _ hk
theorem BoxH.setAp {g : Nat} {x : Hd} {w : World} (h : BoxH g x w) (n : Int) : BoxH g ⟨x.r, x.a, x.p, n, x.ca, x.un, x.op⟩ (w.setCell ⟨g, 3, none⟩ (.int .i64 n)) := by
  unfold BoxH at *
  simp [World.setCell, Array.getElem?_modify, h]
theorem BoxH.setCa {g : Nat} {x : Hd} {w : World} (h : BoxH g x w) (n : Int) : BoxH g ⟨x.r, x.a, x.p, x.ap, n, x.un, x.op⟩ (w.setCell ⟨g, 4, none⟩ (.int .i64 n)) := by
  unfold BoxH at *
  simp [World.setCell, Array.getElem?_modify, h]
theorem BoxH.setUn {g : Nat} {x : Hd} {w : World} (h : BoxH g x w) (n : Int) : BoxH g ⟨x.r, x.a, x.p, x.ap, x.ca, n, x.op⟩ (w.setCell ⟨g, 5, none⟩ (.int .i64 n)) := by
  unfold BoxH at *
  simp [World.setCell, Array.getElem?_modify, h]
theorem BoxH.setOp {g : Nat} {x : Hd} {w : World} (h : BoxH g x w) (b : Bool) : BoxH g ⟨x.r, x.a, x.p, x.ap, x.ca, x.un, b⟩ (w.setCell ⟨g, 6, none⟩ (.bool b)) := by
  unfold BoxH at *
  simp [World.setCell, Array.getElem?_modify, h]
/-- A box of one cell. -/
def Box1 (g t : Nat) (v : Value) (w : World) : Prop := w.heap[g]? = some (.cells #[v] t (0, 0))
theorem Box1.cell {g t : Nat} {v : Value} {w : World} (h : Box1 g t v w) : w.cell? ⟨g, 0, none⟩ = some v ∧ ∀ j, w.frozen? ⟨g, j, none⟩ = false := by
  unfold Box1 at h
  refine ⟨?_, fun j => ?_⟩ <;> simp [World.cell?, World.frozen?, h]
theorem Box1.below {g t B : Nat} {v : Value} {w w' : World} (h : Box1 g t v w) (hb : Below B w w') (hr : g < B) : Box1 g t v w' := (hb.block g hr).trans h
theorem Box1.new (w : World) (t : Nat) (v : Value) : Box1 w.heap.size t v (w.alloc (.cells #[v] t)) := alloc_new w _
theorem Box1.alloc {g t : Nat} {v : Value} {w : World} (h : Box1 g t v w) (o : Obj) : Box1 g t v (w.alloc o) := by
  have hl : g < w.heap.size := (Array.getElem?_eq_some_iff.1 h).1
  exact h.below ((Below.refl w.heap.size w).alloc (Nat.le_refl _) o) hl
theorem BoxH.alloc {g : Nat} {x : Hd} {w : World} (h : BoxH g x w) (o : Obj) : BoxH g x (w.alloc o) := h.below ((Below.refl w.heap.size w).alloc (Nat.le_refl _) o) h.lt
theorem Box1.lt {g t : Nat} {v : Value} {w : World} (h : Box1 g t v w) : g < w.heap.size := (Array.getElem?_eq_some_iff.1 h).1
end Go.Proofs.YtkhkncgndllkjaaDoor.Hol
