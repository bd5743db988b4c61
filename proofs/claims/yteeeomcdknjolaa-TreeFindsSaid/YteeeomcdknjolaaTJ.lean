/- What a level keeps: pages, and what they hold; kids; one page more. -/
import Derived.Test.YteeeomcdknjolaaTI
namespace Go.Proofs.Yteeeomcdknjolaa.Tre
open Go.RowKit Crc Chk Frm Fra Nod

theorem grown_then {a w w' : World} {row row' : Option Nat} (h : a.grownBy w row) (k : w.grownBy w' row') (hr : ∀ b, row' = some b → row = some b ∨ a.heap.size ≤ b) : a.grownBy w' row :=
  ⟨k.os.trans h.os, k.tape.trans h.tape, k.output.trans h.output, Nat.le_trans h.size k.size, fun b hb hne => (k.block b (Nat.lt_of_lt_of_le hb h.size) (fun e => by
    rcases hr b e.symm with h1 | h1
    · exact hne h1.symm
    · omega)).trans (h.block b hb hne)⟩
theorem grown_keeps {w w' : World} {row : Option Nat} (h : w.grownBy w' row) {S : Nat → Prop} (hS : ∀ b, S b → b < w.heap.size ∧ row ≠ some b) : Keeps S w w' := ⟨h.size, fun b hb => h.block b (hS b hb).1 (fun e => (hS b hb).2 e.symm)⟩
theorem below_grown {w w' : World} (h : Below w.heap.size w w') (row : Option Nat) : w.grownBy w' row := ⟨h.os, h.tape, h.output, h.size, fun b hb _ => h.block b hb⟩
theorem Keeps.trans {S : Nat → Prop} {a b c : World} (h : Keeps S a b) (k : Keeps S b c) : Keeps S a c := ⟨Nat.le_trans h.1 k.1, fun i hi => (k.2 i hi).trans (h.2 i hi)⟩
theorem own_lt {w : World} {B e size n : Nat} {v : Value} {xs : List Value} (h : w.ownsRow B e size v n xs) : ∀ b, v.ownBlock = some b → b < w.heap.size := fun b hb => (h.lt b hb).2
abbrev SB (v q : Value) (x : World) (b : Nat) : Prop := b < x.heap.size ∧ v.ownBlock ≠ some b ∧ q.ownBlock ≠ some b
/-- What a level keeps. -/
structure LvSt (w0 : World) (B0 : Nat) (v0 : Value) (L : List Nd) (ds : List Sd) (v : Value) (Q : List Kd) (q : Value) (x : World) : Prop where
  ov : OwnN x B0 v ds
  ct : Cont x (SB v q x) L ds
  oq : OwnQ x w0.heap.size q Q
  gr : w0.grownBy x v0.ownBlock
  vb : ∀ b, v.ownBlock = some b → v0.ownBlock = some b ∨ w0.heap.size ≤ b
theorem LvSt.len {w0 : World} {B0 : Nat} {v0 : Value} {L : List Nd} {ds : List Sd} {v : Value} {Q : List Kd} {q : Value} {x : World} (h : LvSt w0 B0 v0 L ds v Q q x) : L.length = ds.length := h.ct.1
theorem LvSt.step {w0 : World} {B0 : Nat} {v0 : Value} {L : List Nd} {ds : List Sd} {v : Value} {Q : List Kd} {q : Value} {x x1 : World} {n : Nd} {d : Sd} (h : LvSt w0 B0 v0 L ds v Q q x) (hB : B0 ≤ w0.heap.size) (hb : Below x.heap.size x x1)
    (hc : ∀ S : Nat → Prop, (∀ b, x.heap.size ≤ b → b < x1.heap.size → S b) → Cont1 x1 S n d) (least : T) (hQ : Q.length ≤ 1000000) (hds : ds.length ≤ 1000000) :
    ∃ A2 c2 x2 A3 c3 x3, (Builtin.append_ #[59, 59] 59 #[q, .slice (some ⟨x1.heap.size + 1, 0, none⟩) 1 1]).run Try.prog ((x1.alloc (.cells #[.slice d.a1 d.m1 d.c1, .slice d.a2 d.m2 d.c2, .slice d.a3 d.m3 d.c3] 55)).alloc (.cells #[.int .i64 ((ds.length : Nat) : Int), .string (text least)] 65)) = .ok (.slice A2 (Q.length + 1) c2) x2 ∧
      BoxN x1.heap.size d.a1 d.m1 d.c1 d.a2 d.m2 d.c2 d.a3 d.m3 d.c3 x2 ∧
      (Builtin.append_ #[24, 24] 24 #[v, .slice (some ⟨x2.heap.size, 0, none⟩) 1 1]).run Try.prog (x2.alloc (.cells #[.slice d.a1 d.m1 d.c1, .slice d.a2 d.m2 d.c2, .slice d.a3 d.m3 d.c3] 55)) = .ok (.slice A3 (ds.length + 1) c3) x3 ∧
      LvSt w0 B0 v0 (L ++ [n]) (ds ++ [d]) (.slice A3 (ds.length + 1) c3) (Q ++ [(ds.length, least)]) (.slice A2 (Q.length + 1) c2) x3 := by
  obtain ⟨X, hX⟩ : ∃ X, X = x1.alloc (.cells #[.slice d.a1 d.m1 d.c1, .slice d.a2 d.m2 d.c2, .slice d.a3 d.m3 d.c3] 55) := ⟨_, rfl⟩
  have hzX : X.heap.size = x1.heap.size + 1 := by rw [hX, alloc_size]
  have hbX : Below x1.heap.size x1 X := by rw [hX]; exact (Below.refl _ _).alloc (Nat.le_refl _) _
  have hxX : Below x.heap.size x X := hb.trans (hbX.mono hb.size)
  have hbx : BoxN x1.heap.size d.a1 d.m1 d.c1 d.a2 d.m2 d.c2 d.a3 d.m3 d.c3 X := by rw [hX]; exact boxN_new x1 ..
  have hqX : OwnQ X w0.heap.size q Q := row_below h.oq hxX (Nat.le_refl _)
  have hvX : OwnN X B0 v ds := row_below h.ov hxX (Nat.le_refl _)
  have hsz := h.gr.size
  have hsz1 := hb.size
  obtain ⟨q2, x2, hr2, ho2, hg2, hn2⟩ := run_appQ X w0.heap.size q Q hqX ds.length least hQ (by omega)
  have hv2 : OwnN x2 B0 v ds := hvX.kept hg2 (own_apart hvX hqX (by decide))
  have hbx2 := boxN_grown hbx hg2 (row_ne hqX hbx (by decide))
  have hsz2 := hg2.size
  obtain ⟨v3, x3, hr3, ho3, hg3, hn3⟩ := run_appN x2 B0 v ds hv2 d hds (by omega)
  have hsz3 := hg3.size
  obtain ⟨A2, c2, rfl, -⟩ := row_sl ho2
  obtain ⟨A3, c3, rfl, -⟩ := row_sl ho3
  have hq3 : OwnQ x3 w0.heap.size (.slice A2 (Q ++ [(ds.length, least)]).length c2) (Q ++ [(ds.length, least)]) := ho2.kept hg3 (own_apart ho2 hv2 (by decide))
  have e2 : (Q ++ [(ds.length, least)]).length = Q.length + 1 := by simp
  have e3 : (ds ++ [d]).length = ds.length + 1 := by simp
  rw [hX] at hr2
  rw [← hX, e2, hzX] at hr2
  rw [e2] at hn2
  rw [e3] at hr3 hn3
  have hvl := own_lt h.ov
  have hql := own_lt h.oq
  refine ⟨A2, c2, x2, A3, c3, x3, by rw [← hX]; exact hr2, hbx2, hr3, ?_, ?_, ?_, ?_, ?_⟩
  · show World.ownsRow _ _ _ _ _ _ _
    have := ho3
    unfold OwnN at this
    rw [e3] at this ⊢
    exact this
  · have hS : ∀ b, b < x2.heap.size → v.ownBlock ≠ some b → q.ownBlock ≠ some b → b < X.heap.size → SB (.slice A3 (ds.length + 1) c3) (.slice A2 (Q.length + 1) c2) x3 b := fun b h1 h2 h3 h4 => by
      refine ⟨by omega, fun e => ?_, fun e => ?_⟩
      · rcases hn3 b e with h5 | h5
        · exact h2 h5
        · omega
      · rcases hn2 b e with h5 | h5
        · exact h3 h5
        · omega
    refine Cont.snoc (Cont.move h.ct (Keeps.trans ⟨hxX.size, fun b hb => hxX.block b hb.1⟩ (Keeps.trans (grown_keeps hg2 fun b hb => ⟨Nat.lt_of_lt_of_le hb.1 hxX.size, hb.2.2⟩) (grown_keeps hg3 fun b hb => ⟨by have := hxX.size; have := hb.1; omega, hb.2.1⟩))) (fun b hb => hS b (by have := hxX.size; have := hb.1; omega) hb.2.1 hb.2.2 (Nat.lt_of_lt_of_le hb.1 hxX.size))) ?_
    refine Cont1.move (hc (fun b => x.heap.size ≤ b ∧ b < x1.heap.size) fun b h1 h2 => ⟨h1, h2⟩) (Keeps.trans ⟨hbX.size, fun b hb => hbX.block b hb.2⟩ (Keeps.trans (grown_keeps hg2 fun b hb => ⟨by have := hb.2; omega, fun e => by have := hql b e; have := hb.1; omega⟩) (grown_keeps hg3 fun b hb => ⟨by have := hb.2; omega, fun e => by have := hvl b e; have := hb.1; omega⟩))) (fun b hb => hS b (by have := hb.2; omega) (fun e => by have := hvl b e; have := hb.1; omega) (fun e => by have := hql b e; have := hb.1; omega) (by have := hb.2; omega))
  · show World.ownsRow _ _ _ _ _ _ _
    have := hq3
    unfold OwnQ at this
    rw [e2] at this ⊢
    exact this
  · exact grown_then (grown_then (grown_then h.gr (below_grown hxX none) (fun b e => by cases e)) hg2 (fun b e => .inr (h.oq.lt b e).1)) hg3 h.vb
  · intro b e
    rcases hn3 b e with h5 | h5
    · exact h.vb b h5
    · exact .inr (by omega)
/-- The kids of a level, as they are told. -/
def QD (p : Nat) (ts : List T) : List Kd := ts.mapIdx fun i t => (p + i, t)
theorem qd_len (p : Nat) (ts : List T) : (QD p ts).length = ts.length := by simp [QD]
theorem qd_snoc (p : Nat) (ts : List T) (t : T) : QD p (ts ++ [t]) = QD p ts ++ [(p + ts.length, t)] := by simp [QD, List.mapIdx_append]
theorem qd_at (p : Nat) (ts : List T) (i : Nat) (h : i < (QD p ts).length) : (QD p ts)[i] = (p + i, ts[i]'(by rwa [qd_len] at h)) := by simp [QD]
theorem qd_drop (p : Nat) (ts : List T) (k : Nat) : (QD p ts).drop k = QD (p + k) (ts.drop k) := by
  apply List.ext_getElem
  · simp [qd_len]
  · intro i h1 h2
    rw [List.getElem_drop, qd_at, qd_at]
    simp [Nat.add_assoc]
theorem qd_take (p : Nat) (ts : List T) (k : Nat) : (QD p ts).take k = QD p (ts.take k) := by
  apply List.ext_getElem
  · simp [qd_len]
  · intro i h1 h2
    rw [List.getElem_take, qd_at, qd_at]
    simp
theorem qd_ks (p : Nat) (ts : List T) : ksOf (QD p ts) = ts := by
  apply List.ext_getElem
  · simp [qd_len, ksOf]
  · intro i h1 h2
    simp [ksOf, qd_at]
theorem qd_cs (p : Nat) (ts : List T) : csOf (QD p ts) = (List.range' p ts.length).map fun (j : Nat) => (j : Int) := by
  apply List.ext_getElem
  · simp [qd_len, csOf]
  · intro i h1 h2
    simp [csOf, qd_at]
/-- The node of a group of kids. -/
theorem mkN_kids (least : List T) {a m : Nat} (hm : 0 < m) (h : a + m ≤ least.length) : (⟨[], (ksOf ((QD a (least.drop a)).take m)).drop 1, csOf ((QD a (least.drop a)).take m)⟩ : Nd) = mkN least (a, m) ∧ (ksOf ((QD a (least.drop a)).take m)).headD [] = least.getD a [] := by
  rw [qd_take, qd_ks, qd_cs]
  have hl : ((least.drop a).take m).length = m := by rw [List.length_take, List.length_drop]; omega
  refine ⟨?_, ?_⟩
  · unfold mkN
    rw [hl]
    congr 1
    apply List.ext_getElem
    · simp; omega
    · intro i h1 h2
      rw [List.getElem_map, List.getElem_range', List.getElem_drop, List.getElem_take, List.getElem_drop, List.getD_eq_getElem?_getD, List.getElem?_eq_getElem (by simp at h2; omega)]
      simp only [Option.getD_some]
      congr 1
      omega
  · rw [List.getD_eq_getElem?_getD, List.getElem?_eq_getElem (by omega)]
    cases hd : (least.drop a).take m with
    | nil => rw [hd] at hl; simp at hl; omega
    | cons y ys =>
      have : ((least.drop a).take m)[0]? = some y := by rw [hd]; rfl
      rw [List.getElem?_take, if_pos hm, List.getElem?_drop, Nat.add_zero, List.getElem?_eq_getElem (by omega)] at this
      injection this with this
      simp [this]
end Go.Proofs.Yteeeomcdknjolaa.Tre
