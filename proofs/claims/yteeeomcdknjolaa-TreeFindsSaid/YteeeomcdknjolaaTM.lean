/- What the document's Build keeps: pages, least keys; a node's box and rows. -/
import Derived.Test.YteeeomcdknjolaaTL
namespace Go.Proofs.Yteeeomcdknjolaa.Tre
open Go.RowKit Crc Chk Frm Fra Nod

theorem run_appP2 (w : World) (base : Nat) (v : Value) (l : List P) (hown : OwnP w base v l) (a b : T) (hn : l.length ≤ 1000000) (hb : base ≤ w.heap.size) :
    ∃ v' w', (Builtin.append_ #[22, 22] 22 #[v, .slice (some ⟨w.heap.size, 0, none⟩) 1 1]).run Try.prog (w.alloc (.cells #[.string (text a), .string (text b)] 49)) = .ok v' w' ∧ OwnP w' base v' (l ++ [(a, b)]) ∧ w.grownBy w' v.ownBlock ∧ (∀ b, v'.ownBlock = some b → v.ownBlock = some b ∨ w.heap.size ≤ b) := by
  obtain ⟨i0, hi, hz0, hz1, hz2⟩ := info_parts info49
  obtain ⟨v', w', h1, h2, h3⟩ := run_app_at w base 22 49 i0 _ 2 32 Try.underlying22 hi hz0 hz1 hz2 (by kernel_rfl) (by decide) v _ _ hown [.string (text a), .string (text b)] rfl (by intro u hu; simp at hu; rcases hu with rfl | rfl <;> rfl) hn (by decide) hb
  refine ⟨v', w', h1, ?_, h3⟩
  show World.ownsRow _ _ _ _ _ _ _
  rw [List.length_append, pcs_append]
  exact h2
structure RSt (w0 : World) (L : List Nd) (ds : List Sd) (v : Value) (ts : List T) (q : Value) (x : World) : Prop where
  ov : OwnN x w0.heap.size v ds
  ct : Cont x (SB v q x) L ds
  oq : OwnT x w0.heap.size q ts
  bl : Below w0.heap.size w0 x
theorem RSt.len {w0 : World} {L : List Nd} {ds : List Sd} {v : Value} {ts : List T} {q : Value} {x : World} (h : RSt w0 L ds v ts q x) : L.length = ds.length := h.ct.1
theorem RSt.step {w0 : World} {L : List Nd} {ds : List Sd} {v : Value} {ts : List T} {q : Value} {x x1 : World} {n : Nd} {d : Sd} (h : RSt w0 L ds v ts q x) (hb : Below x.heap.size x x1)
    (hc : ∀ S : Nat → Prop, (∀ b, x.heap.size ≤ b → b < x1.heap.size → S b) → Cont1 x1 S n d) (t : T) (hts : ts.length ≤ 1000000) (hds : ds.length ≤ 1000000) :
    ∃ A2 c2 x2 A3 c3 x3, (Builtin.append_ #[24, 24] 24 #[v, .slice (some ⟨x1.heap.size, 0, none⟩) 1 1]).run Try.prog (x1.alloc (.cells #[.slice d.a1 d.m1 d.c1, .slice d.a2 d.m2 d.c2, .slice d.a3 d.m3 d.c3] 55)) = .ok (.slice A2 (ds.length + 1) c2) x2 ∧ OwnT x2 w0.heap.size q ts ∧
      (Builtin.append_ #[53, 53] 53 #[q, .slice (some ⟨x2.heap.size, 0, none⟩) 1 1]).run Try.prog (x2.alloc (.cells #[.string (text t)] 9)) = .ok (.slice A3 (ts.length + 1) c3) x3 ∧
      RSt w0 (L ++ [n]) (ds ++ [d]) (.slice A2 (ds.length + 1) c2) (ts ++ [t]) (.slice A3 (ts.length + 1) c3) x3 := by
  have hqX : OwnT x1 w0.heap.size q ts := row_below h.oq hb (Nat.le_refl _)
  have hvX : OwnN x1 w0.heap.size v ds := row_below h.ov hb (Nat.le_refl _)
  have hsz := h.bl.size
  have hsz1 := hb.size
  obtain ⟨v2, x2, hr2, ho2, hg2, hn2⟩ := run_appN x1 w0.heap.size v ds hvX d hds (by omega)
  have hq2 : OwnT x2 w0.heap.size q ts := hqX.kept hg2 (own_apart hqX hvX (by decide))
  have hsz2 := hg2.size
  obtain ⟨q3, x3, hr3, ho3, hg3, hn3⟩ := run_appT2 x2 w0.heap.size q ts hq2 t hts (by omega)
  have hsz3 := hg3.size
  obtain ⟨A2, c2, rfl, -⟩ := row_sl ho2
  obtain ⟨A3, c3, rfl, -⟩ := row_sl ho3
  have hv3 : OwnN x3 w0.heap.size (.slice A2 (ds ++ [d]).length c2) (ds ++ [d]) := ho2.kept hg3 (own_apart ho2 hq2 (by decide))
  have e2 : (ts ++ [t]).length = ts.length + 1 := by simp
  have e3 : (ds ++ [d]).length = ds.length + 1 := by simp
  rw [e3] at hr2 hn2
  rw [e2] at hr3 hn3
  have hvl := own_lt h.ov
  have hql := own_lt h.oq
  refine ⟨A2, c2, x2, A3, c3, x3, hr2, hq2, hr3, ?_, ?_, ?_, ?_⟩
  · show World.ownsRow _ _ _ _ _ _ _
    have := hv3
    unfold OwnN at this
    rw [e3] at this ⊢
    exact this
  · have hS : ∀ b, b < x1.heap.size → v.ownBlock ≠ some b → q.ownBlock ≠ some b → SB (.slice A2 (ds.length + 1) c2) (.slice A3 (ts.length + 1) c3) x3 b := fun b h1 h2 h3 => by
      refine ⟨by omega, fun e => ?_, fun e => ?_⟩
      · rcases hn2 b e with h5 | h5
        · exact h2 h5
        · omega
      · rcases hn3 b e with h5 | h5
        · exact h3 h5
        · omega
    refine Cont.snoc (Cont.move h.ct (Keeps.trans ⟨hb.size, fun b hb' => hb.block b hb'.1⟩ (Keeps.trans (grown_keeps hg2 fun b hb' => ⟨by have := hb'.1; omega, hb'.2.1⟩) (grown_keeps hg3 fun b hb' => ⟨by have := hb'.1; omega, hb'.2.2⟩))) (fun b hb' => hS b (by have := hb'.1; omega) hb'.2.1 hb'.2.2)) ?_
    refine Cont1.move (hc (fun b => x.heap.size ≤ b ∧ b < x1.heap.size) fun b h1 h2 => ⟨h1, h2⟩) (Keeps.trans (grown_keeps hg2 fun b hb' => ⟨hb'.2, fun e => by have := hvl b e; have := hb'.1; omega⟩) (grown_keeps hg3 fun b hb' => ⟨by have := hb'.2; omega, fun e => by have := hql b e; have := hb'.1; omega⟩)) (fun b hb' => hS b hb'.2 (fun e => by have := hvl b e; have := hb'.1; omega) (fun e => by have := hql b e; have := hb'.1; omega))
  · show World.ownsRow _ _ _ _ _ _ _
    have := ho3
    unfold OwnT at this
    rw [e2] at this ⊢
    exact this
  · exact (((h.bl.trans (hb.mono hsz)).grown hg2 (by omega) fun b e => (h.ov.lt b e).1).grown hg3 (by omega) fun b e => (h.oq.lt b e).1)
/-- A leaf's box and row. -/
structure PSt (x0 : World) (A : Option Addr) (k c : Nat) (ps : List P) (x : World) : Prop where
  bx : BoxN x0.heap.size A k c none 0 0 none 0 0 x
  op : x.ownsRow x0.heap.size 49 2 (.slice A k c) k (pcs ps)
  bl : Below x0.heap.size x0 x
theorem PSt.start (x0 : World) : PSt x0 none 0 0 [] (x0.alloc (.cells #[.slice none 0 0, .slice none 0 0, .slice none 0 0] 55)) := ⟨boxN_new x0 .., own_nilP _ _, (Below.refl _ _).alloc (Nat.le_refl _) _⟩
theorem PSt.pair {x0 x x' : World} {A A' : Option Addr} {k c c' : Nat} {ps : List P} {p : P} (h : PSt x0 A k c ps x) (hg : x.grownBy x' (Value.ownBlock (.slice A k c))) (ho : x'.ownsRow x0.heap.size 49 2 (.slice A' (k + 1) c') (k + 1) (pcs (ps ++ [p]))) :
    BoxN x0.heap.size A k c none 0 0 none 0 0 x' ∧ PSt x0 A' (k + 1) c' (ps ++ [p]) (x'.setCell ⟨x0.heap.size, 0, none⟩ (.slice A' (k + 1) c')) := by
  have hbx : BoxN x0.heap.size A k c none 0 0 none 0 0 x' := boxN_grown h.bx hg (row_ne h.op h.bx (by decide))
  refine ⟨hbx, hbx.set0 _ _ _, ?_, ?_⟩
  · exact ownsRow_setCell_other ho (a := ⟨x0.heap.size, 0, none⟩) (row_ne ho hbx (by decide)) _
  · exact (h.bl.grown hg h.bl.size (own_ge h.op (Nat.le_refl _))).setCell (p := ⟨x0.heap.size, 0, none⟩) (Nat.le_refl _) _
theorem PSt.cont {x0 x : World} {A : Option Addr} {k c : Nat} {ps : List P} (h : PSt x0 A k c ps x) (hl : ps.length = k) (hk : k ≤ 1000000) (S : Nat → Prop) (hS : ∀ b, x0.heap.size ≤ b → b < x.heap.size → S b) : Cont1 x S ⟨ps, [], []⟩ ⟨A, k, c, none, 0, 0, none, 0, 0⟩ :=
  cont1_own (base := x0.heap.size) h.op (own_nilT _ _) (own_nilK _ _) hl rfl rfl hk (Nat.zero_le _) (Nat.zero_le _) (fun x hx => by cases hx) hS
/-- An inner node's box and rows. -/
structure NSt (x0 : World) (A2 : Option Addr) (n2 c2 : Nat) (A3 : Option Addr) (n3 c3 : Nat) (xs : List T) (ys : List Int) (x : World) : Prop where
  bx : BoxN x0.heap.size none 0 0 A2 n2 c2 A3 n3 c3 x
  ot : x.ownsRow x0.heap.size 9 1 (.slice A2 n2 c2) n2 (tcs xs)
  ok : x.ownsRow x0.heap.size 3 1 (.slice A3 n3 c3) n3 (kcs ys)
  bl : Below x0.heap.size x0 x
theorem NSt.start (x0 : World) : NSt x0 none 0 0 none 0 0 [] [] (x0.alloc (.cells #[.slice none 0 0, .slice none 0 0, .slice none 0 0] 55)) := ⟨boxN_new x0 .., own_nilT _ _, own_nilK _ _, (Below.refl _ _).alloc (Nat.le_refl _) _⟩
section
variable {x0 x x' : World} {A2 : Option Addr} {n2 c2 : Nat} {A3 : Option Addr} {n3 c3 : Nat} {xs : List T} {ys : List Int}
theorem NSt.key {s : T} {A : Option Addr} {c : Nat} (h : NSt x0 A2 n2 c2 A3 n3 c3 xs ys x) (hg : x.grownBy x' (Value.ownBlock (.slice A2 n2 c2))) (ho : x'.ownsRow x0.heap.size 9 1 (.slice A (n2 + 1) c) (n2 + 1) (tcs (xs ++ [s]))) :
    BoxN x0.heap.size none 0 0 A2 n2 c2 A3 n3 c3 x' ∧ NSt x0 A (n2 + 1) c A3 n3 c3 (xs ++ [s]) ys (x'.setCell ⟨x0.heap.size, 1, none⟩ (.slice A (n2 + 1) c)) := by
  have hbx : BoxN x0.heap.size none 0 0 A2 n2 c2 A3 n3 c3 x' := boxN_grown h.bx hg (row_ne h.ot h.bx (by decide))
  have hok := h.ok.kept hg (own_apart h.ok h.ot (by decide))
  refine ⟨hbx, hbx.set1 _ _ _, ?_, ?_, ?_⟩
  · exact ownsRow_setCell_other ho (a := ⟨x0.heap.size, 1, none⟩) (row_ne ho hbx (by decide)) _
  · exact ownsRow_setCell_other hok (a := ⟨x0.heap.size, 1, none⟩) (row_ne hok hbx (by decide)) _
  · exact (h.bl.grown hg h.bl.size (own_ge h.ot (Nat.le_refl _))).setCell (p := ⟨x0.heap.size, 1, none⟩) (Nat.le_refl _) _
theorem NSt.kid {s : Int} {A : Option Addr} {c : Nat} (h : NSt x0 A2 n2 c2 A3 n3 c3 xs ys x) (hg : x.grownBy x' (Value.ownBlock (.slice A3 n3 c3))) (ho : x'.ownsRow x0.heap.size 3 1 (.slice A (n3 + 1) c) (n3 + 1) (kcs (ys ++ [s]))) :
    BoxN x0.heap.size none 0 0 A2 n2 c2 A3 n3 c3 x' ∧ NSt x0 A2 n2 c2 A (n3 + 1) c xs (ys ++ [s]) (x'.setCell ⟨x0.heap.size, 2, none⟩ (.slice A (n3 + 1) c)) := by
  have hbx : BoxN x0.heap.size none 0 0 A2 n2 c2 A3 n3 c3 x' := boxN_grown h.bx hg (row_ne h.ok h.bx (by decide))
  have hot := h.ot.kept hg (own_apart h.ot h.ok (by decide))
  refine ⟨hbx, hbx.set2 _ _ _, ?_, ?_, ?_⟩
  · exact ownsRow_setCell_other hot (a := ⟨x0.heap.size, 2, none⟩) (row_ne hot hbx (by decide)) _
  · exact ownsRow_setCell_other ho (a := ⟨x0.heap.size, 2, none⟩) (row_ne ho hbx (by decide)) _
  · exact (h.bl.grown hg h.bl.size (own_ge h.ok (Nat.le_refl _))).setCell (p := ⟨x0.heap.size, 2, none⟩) (Nat.le_refl _) _
theorem NSt.next (h : NSt x0 A2 n2 c2 A3 n3 c3 xs ys x) (hb : Below x.heap.size x x') : NSt x0 A2 n2 c2 A3 n3 c3 xs ys x' :=
  ⟨h.bx.below hb (boxN_lt h.bx), row_below h.ot hb (Nat.le_refl _), row_below h.ok hb (Nat.le_refl _), h.bl.trans (hb.mono h.bl.size)⟩
theorem NSt.cont (h : NSt x0 A2 n2 c2 A3 n3 c3 xs ys x) (l2 : xs.length = n2) (l3 : ys.length = n3) (h2 : n2 ≤ 1000000) (h3 : n3 ≤ 1000000) (hr : ∀ x ∈ ys, -9223372036854775808 ≤ x ∧ x ≤ 9223372036854775807) (S : Nat → Prop) (hS : ∀ b, x0.heap.size ≤ b → b < x.heap.size → S b) : Cont1 x S ⟨[], xs, ys⟩ ⟨none, 0, 0, A2, n2, c2, A3, n3, c3⟩ :=
  cont1_own (base := x0.heap.size) (own_nilP _ _) h.ot h.ok rfl l2 l3 (Nat.zero_le _) h2 h3 hr hS
end
theorem PSt.next {x0 x x' : World} {A : Option Addr} {k c : Nat} {ps : List P} (h : PSt x0 A k c ps x) (hb : Below x.heap.size x x') : PSt x0 A k c ps x' :=
  ⟨h.bx.below hb (boxN_lt h.bx), row_below h.op hb (Nat.le_refl _), h.bl.trans (hb.mono h.bl.size)⟩
end Go.Proofs.Yteeeomcdknjolaa.Tre
