/- Contracts: what SuperLater keeps: the super's box, and the two places. -/
import Derived.Test.YtlieijbjbjnaiaaSMathB
import Derived.Test.YtlieijbjbjnaiaaS10
import Derived.Test.YtlieijbjbjnaiaaS9
import Derived.Test.YtlieijbjbjnaiaaFAnyB
import Derived.Test.YtlieijbjbjnaiaaAnyD
import Derived.Deep.OwnRows
import Derived.Deep.DeepCutAuto
namespace Go.Proofs.Ytlieijbjbjnaiaa.Sup
open Go.RowKit Crc Chk Frm Fra

theorem octs_set {w : World} {B : Nat} {A : Option Addr} {l : List UInt8} (h : Octs w B A l) {p : Addr} {v : Value} (u : Value) (hp : w.cell? p = some v) (hn : ∀ b : UInt8, v ≠ .int .u8 (b.toNat : Int)) : Octs (w.setCell p u) B A l := fun i hi => by
  obtain ⟨ad, e, hb, hc⟩ := h i hi
  refine ⟨ad, e, hb, ?_⟩
  rw [World.cell?_setCell_other _ _ _ _ (fun e2 => ?_), hc]
  rw [← e2, hp] at hc
  injection hc with hc
  exact hn _ hc
theorem nu64 (x : Int) (b : UInt8) : Value.int .i64 x ≠ .int .u8 (b.toNat : Int) := fun e => by cases e
theorem nusl (A : Option Addr) (n c : Nat) (b : UInt8) : Value.slice A n c ≠ .int .u8 (b.toNat : Int) := fun e => by cases e
/-- The two places' box. -/
def BoxA (g : Nat) (a b : Value) (W : World) : Prop := W.heap[g]? = some (.cells #[a, b] 51 (0, 0))
theorem BoxA.cells {g : Nat} {a b : Value} {W : World} (h : BoxA g a b W) : W.cell? ⟨g, 0, none⟩ = some a ∧ W.cell? ⟨g, 1, none⟩ = some b ∧ ∀ j, W.frozen? ⟨g, j, none⟩ = false := by
  unfold BoxA at h
  refine ⟨?_, ?_, fun j => ?_⟩
  · rw [cell_of_row W g 0 _ _ _ h]; rfl
  · rw [cell_of_row W g 1 _ _ _ h]; rfl
  · simp [World.frozen?, h]
theorem BoxA.lt {g : Nat} {a b : Value} {W : World} (h : BoxA g a b W) : g < W.heap.size := by
  unfold BoxA at h
  rcases Nat.lt_or_ge g W.heap.size with h1 | h1
  · exact h1
  · rw [Array.getElem?_eq_none h1] at h; cases h
theorem BoxA.below {g B : Nat} {a b : Value} {W W' : World} (h : BoxA g a b W) (hb : Below B W W') (hg : g < B) : BoxA g a b W' := (hb.block g hg).trans h
theorem BoxA.set0 {g : Nat} {a b : Value} {W : World} (h : BoxA g a b W) (x : Value) : BoxA g x b (W.setCell ⟨g, 0, none⟩ x) := by
  unfold BoxA at h ⊢
  simp [World.setCell, Array.getElem?_modify, h]
theorem BoxA.set1 {g : Nat} {a b : Value} {W : World} (h : BoxA g a b W) (x : Value) : BoxA g a x (W.setCell ⟨g, 1, none⟩ x) := by
  unfold BoxA at h ⊢
  simp [World.setCell, Array.getElem?_modify, h]
theorem BoxA.far {g : Nat} {a b : Value} {W : World} (h : BoxA g a b W) (p : Addr) (u : Value) (hp : p.block ≠ g) : BoxA g a b (W.setCell p u) := (Below.heap_setCell W p u g (Ne.symm hp)).trans h
/-- A slice of 64 octets. -/
def Sl64 (v : Value) (l : List UInt8) (W : World) : Prop := ∃ ad c, v = .slice (some ad) 64 c ∧ 64 ≤ c ∧ l.length = 64 ∧ Octs W W.heap.size (some ad) l
theorem Sl64.below {v : Value} {l : List UInt8} {W W' : World} (h : Sl64 v l W) (hb : Below W.heap.size W W') : Sl64 v l W' := by
  obtain ⟨ad, c, hv, hc, hl, ho⟩ := h
  exact ⟨ad, c, hv, hc, hl, (ho.below hb (Nat.le_refl _)).more hb.size⟩
theorem Sl64.set {v : Value} {l : List UInt8} {W : World} (h : Sl64 v l W) {p : Addr} {x : Value} (u : Value) (hp : W.cell? p = some x) (hn : ∀ b : UInt8, x ≠ .int .u8 (b.toNat : Int)) : Sl64 v l (W.setCell p u) := by
  obtain ⟨ad, c, hv, hc, hl, ho⟩ := h
  exact ⟨ad, c, hv, hc, hl, by have := octs_set ho u hp hn; simpa using this⟩
theorem Sl64.notI {v : Value} {l : List UInt8} {W : World} (h : Sl64 v l W) : ∀ b : UInt8, v ≠ .int .u8 (b.toNat : Int) := fun b e => by
  obtain ⟨ad, c, hv, _⟩ := h
  rw [hv] at e; cases e
structure LaI (w : World) (g : Nat) (s : Sp) (a b : Value) (L0 L1 : List UInt8) (W : World) : Prop where
  s_ : BoxH w.heap.size s W
  a_ : BoxA g a b W
  l0 : Sl64 a L0 W
  l1 : Sl64 b L1 W
  bl : Below w.heap.size w W
  lt : w.heap.size < g
theorem LaI.next {w : World} {g : Nat} {s : Sp} {a b : Value} {L0 L1 : List UInt8} {W W' : World} (h : LaI w g s a b L0 L1 W) (hb : Below W.heap.size W W') : LaI w g s a b L0 L1 W' :=
  ⟨h.s_.below hb h.s_.lt, h.a_.below hb h.a_.lt, h.l0.below hb, h.l1.below hb, step' h.bl hb h.bl.size, h.lt⟩
theorem LaI.put0 {w : World} {g : Nat} {s : Sp} {a b : Value} {L0 L1 : List UInt8} {W : World} (h : LaI w g s a b L0 L1 W) {x : Value} {l : List UInt8} (hx : Sl64 x l W) : LaI w g s x b l L1 (W.setCell ⟨g, 0, none⟩ x) :=
  ⟨h.s_.far _ _ (by have := h.lt; show g ≠ _; omega), h.a_.set0 x, hx.set _ h.a_.cells.1 h.l0.notI, h.l1.set _ h.a_.cells.1 h.l0.notI, h.bl.setCell (by have := h.lt; show _ ≤ g; omega) _, h.lt⟩
theorem LaI.put1 {w : World} {g : Nat} {s : Sp} {a b : Value} {L0 L1 : List UInt8} {W : World} (h : LaI w g s a b L0 L1 W) {x : Value} {l : List UInt8} (hx : Sl64 x l W) : LaI w g s a x L0 l (W.setCell ⟨g, 1, none⟩ x) :=
  ⟨h.s_.far _ _ (by have := h.lt; show g ≠ _; omega), h.a_.set1 x, h.l0.set _ h.a_.cells.2.1 h.l1.notI, hx.set _ h.a_.cells.2.1 h.l1.notI, h.bl.setCell (by have := h.lt; show _ ≤ g; omega) _, h.lt⟩
theorem LaI.setg {w : World} {g : Nat} {s : Sp} {a b : Value} {L0 L1 : List UInt8} {W : World} (h : LaI w g s a b L0 L1 W) (x : Int) : LaI w g ⟨x, s.h, s.n, s.p⟩ a b L0 L1 (W.setCell ⟨w.heap.size, 0, none⟩ (.int .i64 x)) :=
  ⟨h.s_.set0 x, h.a_.far _ _ (Nat.ne_of_lt h.lt), h.l0.set _ h.s_.cells.1 (nu64 _), h.l1.set _ h.s_.cells.1 (nu64 _), h.bl.setCell (Nat.le_refl _) _, h.lt⟩
theorem LaI.seth {w : World} {g : Nat} {s : Sp} {a b : Value} {L0 L1 : List UInt8} {W : World} (h : LaI w g s a b L0 L1 W) (x : Int) : LaI w g ⟨s.g, x, s.n, s.p⟩ a b L0 L1 (W.setCell ⟨w.heap.size, 1, none⟩ (.int .i64 x)) :=
  ⟨h.s_.set1 x, h.a_.far _ _ (Nat.ne_of_lt h.lt), h.l0.set _ h.s_.cells.2.1 (nu64 _), h.l1.set _ h.s_.cells.2.1 (nu64 _), h.bl.setCell (Nat.le_refl _) _, h.lt⟩
theorem choose64 {a b : Value} {L0 L1 : List UInt8} {W : World} (h0 : Sl64 a L0 W) (h1 : Sl64 b L1 W) (s : Sp) (q : Bool) (hq : chooseS L0 L1 = (s, q)) (e : Int) (he : e = if q = true then 0 else 7) :
    Calls Try.prog 17 #[a, b] W fun x w' => x = .returned (.tuple #[.agg #[.int .i64 s.g, .int .i64 s.h, .int .i64 s.n, .int .i64 s.p], .int .i64 e]) ∧ Below W.heap.size W w' := by
  obtain ⟨ad, c, rfl, hc, hl, ho⟩ := h0
  obtain ⟨ad', c', rfl, hc', hl', ho'⟩ := h1
  have := choose_any (some ad) (some ad') L0 L1 64 64 c c' W.heap.size W.heap.size W ho ho' (Nat.le_refl _) (Nat.le_refl _) hl hl' hc hc' (by omega) (by omega)
  rw [hq] at this
  rw [he]
  exact this
theorem enc64 (s : Sp) (W : World) (hm : mayB s = true) : Calls Try.prog 14 #[.agg #[.int .i64 s.g, .int .i64 s.h, .int .i64 s.n, .int .i64 s.p]] W fun x w' => ∃ v, x = .returned (.tuple #[v, .int .i64 0]) ∧ Sl64 v (encS s) w' ∧ Below W.heap.size W w' := by
  refine (encS_any s W hm).mono fun e w' ⟨v, he, ho, hb⟩ => ?_
  obtain ⟨A, c, rfl, h2, h3⟩ := own_sl ho
  rw [encS_len] at he h3
  obtain ⟨ad, rfl, -⟩ := h2 0 (by rw [encS_len]; omega)
  exact ⟨_, he, ⟨ad, c, rfl, h3, encS_len s, h2⟩, hb⟩
theorem wp_leaves {P : Program} {o : Oper} {a : Act} {w w' : World} {Q : Exit → Act → World → Prop} {v : Value} {φ : Value → World → Prop} (hr : (execOp a.eval o).run P w = .ok (.value v) w') (h : φ v w') (hb : Below w.heap.size w w') : o.wp P a w (Fra.Leaves o φ a w) Q := by
  unfold Oper.wp
  rw [hr]
  exact ⟨v, rfl, h, hb⟩
theorem info5c : (Try.prog.info? 5).map (fun i => (i.zero, i.size, i.bytes)) = some (some (.int .u8 0), 1, 1) := by kernel_rfl
theorem make64 (W : World) : (Instr.makeSlice 24 (.int .i64 64) (.int .i64 64)).run Try.prog W = .ok (.slice (some ⟨W.heap.size, 0, none⟩) 64 64) (W.alloc (.cells (zer.map b8).toArray 5)) := by
  have h := run_make_row' (P := Try.prog) 24 5 (.int .u8 0) 1 Try.underlying24 info5c rfl .i64 .i64 64 (by decide) (by decide) W
  have e : madeCells #[Value.int .u8 0] 64 = (zer.map b8).toArray := by kernel_rfl
  rw [e] at h
  exact h
theorem zer64 (W : World) : Sl64 (.slice (some ⟨W.heap.size, 0, none⟩) 64 64) zer (W.alloc (.cells (zer.map b8).toArray 5)) := ⟨_, 64, rfl, Nat.le_refl _, zer_len, by rw [alloc_size]; exact octs_new W zer (0, 0)⟩
end Go.Proofs.Ytlieijbjbjnaiaa.Sup
