/- Contracts: Decode. -/
import Derived.Test.YtlieijbjbjnaiaaS4
namespace Go.Proofs.Ytlieijbjbjnaiaa.Sup
open Go.RowKit Crc Chk Frm Fra

/-! A super's box, whole. -/
def BoxH (r : Nat) (s : Sp) (w : World) : Prop := w.heap[r]? = some (.cells #[.int .i64 s.g, .int .i64 s.h, .int .i64 s.n, .int .i64 s.p] 23 (0, 0))
theorem BoxH.cells {r : Nat} {s : Sp} {w : World} (h : BoxH r s w) : w.cell? ⟨r, 0, none⟩ = some (.int .i64 s.g) ∧ w.cell? ⟨r, 1, none⟩ = some (.int .i64 s.h) ∧ w.cell? ⟨r, 2, none⟩ = some (.int .i64 s.n) ∧ w.cell? ⟨r, 3, none⟩ = some (.int .i64 s.p) ∧ ∀ j, w.frozen? ⟨r, j, none⟩ = false := by
  unfold BoxH at h
  refine ⟨?_, ?_, ?_, ?_, fun j => ?_⟩
  · rw [cell_of_row w r 0 _ _ _ h]; rfl
  · rw [cell_of_row w r 1 _ _ _ h]; rfl
  · rw [cell_of_row w r 2 _ _ _ h]; rfl
  · rw [cell_of_row w r 3 _ _ _ h]; rfl
  · simp [World.frozen?, h]
theorem BoxH.below {r B : Nat} {s : Sp} {w w' : World} (h : BoxH r s w) (hb : Below B w w') (hr : r < B) : BoxH r s w' := (hb.block r hr).trans h
theorem boxH_new (w : World) (s : Sp) : BoxH w.heap.size s (w.alloc (.cells #[.int .i64 s.g, .int .i64 s.h, .int .i64 s.n, .int .i64 s.p] 23)) := heap_alloc_new w _
theorem boxH_zero (w : World) : BoxH w.heap.size Sp.nil (w.alloc (.cells #[.int .i64 0, .int .i64 0, .int .i64 0, .int .i64 0] 23)) := heap_alloc_new w _
theorem BoxH.set0 {r : Nat} {s : Sp} {w : World} (h : BoxH r s w) (x : Int) : BoxH r ⟨x, s.h, s.n, s.p⟩ (w.setCell ⟨r, 0, none⟩ (.int .i64 x)) := by
  unfold BoxH at h ⊢
  simp [World.setCell, Array.getElem?_modify, h]
theorem BoxH.set1 {r : Nat} {s : Sp} {w : World} (h : BoxH r s w) (x : Int) : BoxH r ⟨s.g, x, s.n, s.p⟩ (w.setCell ⟨r, 1, none⟩ (.int .i64 x)) := by
  unfold BoxH at h ⊢
  simp [World.setCell, Array.getElem?_modify, h]
theorem BoxH.set2 {r : Nat} {s : Sp} {w : World} (h : BoxH r s w) (x : Int) : BoxH r ⟨s.g, s.h, x, s.p⟩ (w.setCell ⟨r, 2, none⟩ (.int .i64 x)) := by
  unfold BoxH at h ⊢
  simp [World.setCell, Array.getElem?_modify, h]
theorem BoxH.set3 {r : Nat} {s : Sp} {w : World} (h : BoxH r s w) (x : Int) : BoxH r ⟨s.g, s.h, s.n, x⟩ (w.setCell ⟨r, 3, none⟩ (.int .i64 x)) := by
  unfold BoxH at h ⊢
  simp [World.setCell, Array.getElem?_modify, h]
theorem BoxH.far {r : Nat} {s : Sp} {w : World} (h : BoxH r s w) (p : Addr) (u : Value) (hp : p.block ≠ r) : BoxH r s (w.setCell p u) := (Below.heap_setCell w p u r (Ne.symm hp)).trans h
abbrev st4s (w : World) (r : Nat) (s : Sp) : World := (((w.setCell ⟨r, 0, none⟩ (.int .i64 s.g)).setCell ⟨r, 1, none⟩ (.int .i64 s.h)).setCell ⟨r, 2, none⟩ (.int .i64 s.n)).setCell ⟨r, 3, none⟩ (.int .i64 s.p)
theorem BoxH.st4 {r : Nat} {s : Sp} {w : World} (h : BoxH r s w) (t : Sp) : BoxH r t (st4s w r t) := (((h.set0 t.g).set1 t.h).set2 t.n).set3 t.p
theorem st4s_below {B r : Nat} {a w : World} (h : Below B a w) (hr : B ≤ r) (t : Sp) : Below B a (st4s w r t) := (((h.setCell (p := ⟨r, 0, none⟩) hr _).setCell (p := ⟨r, 1, none⟩) hr _).setCell (p := ⟨r, 2, none⟩) hr _).setCell (p := ⟨r, 3, none⟩) hr _
theorem BoxH.far4 {r q : Nat} {s : Sp} {w : World} (h : BoxH r s w) (t : Sp) (hq : q ≠ r) : BoxH r s (st4s w q t) := (((h.far ⟨q, 0, none⟩ _ hq).far ⟨q, 1, none⟩ _ hq).far ⟨q, 2, none⟩ _ hq).far ⟨q, 3, none⟩ _ hq
abbrev DecD (w : World) (r : Sp × Int) (e : Ending) (w' : World) : Prop := e = .returned (.tuple #[sv r.1, .int .i64 r.2]) ∧ Below w.heap.size w w'

set_option maxHeartbeats 800000 in
theorem dec_at_short (A : Option Addr) (n c : Nat) (w : World) (hn : n ≠ 64) (_hn2 : n ≤ 900000) :
    Calls Try.prog 10 #[.slice A n c] w (DecD w (Sp.nil, 3)) := by
  have h1 : ((n : Int) != 64) = true := by simp; omega
  go_enter Try.func10, Try.ntmps10
  go_wp2_with fail
  refine bodyPost_ret (v := .tuple #[sv Sp.nil, .int .i64 3]) (by simp [results, Try.results10, go_sem, Sp.nil]) rfl ⟨rfl, ?_⟩
  exact (Below.refl _ _).alloc (Nat.le_refl _) _
theorem sum_split {l : List UInt8} (h : l.length = 64) : (l.take 60 ++ l.drop 60 = l) ∧ (l.take 60).length = 60 ∧ (l.drop 60).length = 4 := ⟨List.take_append_drop _ _, by simp; omega, by simp; omega⟩
set_option maxHeartbeats 800000 in
theorem dec_at_sum (ad : Addr) (l : List UInt8) (c B : Nat) (w : World) (h : Octs w B (some ad) l) (hB : B ≤ w.heap.size) (hl : l.length = 64) (hc : 64 ≤ c) (hs : soundB l = false) :
    Calls Try.prog 10 #[.slice (some ad) 64 c] w (DecD w (Sp.nil, 6)) := by
  obtain ⟨e, l1, l2⟩ := sum_split hl
  have HO := Lib.hid h
  have HX : Hid (∀ W, Below w.heap.size w W → Calls Try.prog 25 #[.slice (some ad) 64 c] W fun e w' => e = .returned (.tuple #[.slice none 0 0, .int .i64 6]) ∧ Below W.heap.size W w') := fun W hW => open_no ad (l.take 60) (l.drop 60) 64 c B W (by rw [e]; exact HO.out.below hW hB) (by have := hW.size; omega) l2 (by omega) hc (by omega) (fun e2 => by unfold soundB at hs; rw [decide_eq_true e2] at hs; cases hs)
  have HB0 : Hid (Below w.heap.size w (w.alloc (.cells #[.int .i64 0, .int .i64 0, .int .i64 0, .int .i64 0] 23))) := (Below.refl _ _).alloc (Nat.le_refl _) _
  have HZ := Lib.hid (boxH_zero w)
  clear h e l1 l2 hs hl
  go_enter Try.func10, Try.ntmps10
  go_wp2_with fail
  refine (HX.out _ HB0.out).mono ?_
  rintro e w1 ⟨rfl, hb1⟩
  have HZ1 := Lib.hid (HZ.out.below hb1 (by rw [alloc_size]; omega))
  have HB1 := Lib.hid (below_box hb1)
  clear hb1
  obtain ⟨k0, k1, k2, k3, k4⟩ := HZ1.out.cells
  dsimp only [Sp.nil] at k0 k1 k2 k3
  go_wp2_with fail
  refine bodyPost_ret (v := .tuple #[sv Sp.nil, .int .i64 6]) (by simp [results, Try.results10, go_sem, Sp.nil, k0, k1, k2, k3]) rfl ⟨rfl, ?_⟩
  exact st4s_below HB1.out (Nat.le_refl _) Sp.nil
end Go.Proofs.Ytlieijbjbjnaiaa.Sup
