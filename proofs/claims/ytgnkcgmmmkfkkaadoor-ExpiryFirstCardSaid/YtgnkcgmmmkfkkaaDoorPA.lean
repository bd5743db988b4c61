/- Holds in a row of a slice, and one hold more onto an own row. Conditions: none. -/
import Derived.Test.YtgnkcgmmmkfkkaaDoorK9
import Derived.Test.YtgnkcgmmmkfkkaaDoorPMath
import Derived.Deep.DeepCutAuto
import Derived.Lib.SliceRun
import Derived.Lib.AppendZeros
namespace Go.Proofs.YtgnkcgmmmkfkkaaDoor.Hol
open Go.RowKit Cht

/-- The cells of holds, one behind the other. -/
def hcl (l : List Hd) : List Value := l.flatMap fun x => (hcs x).toList
theorem hcl_len (l : List Hd) : (hcl l).length = l.length * 7 := by
  induction l with
  | nil => rfl
  | cons x l ih =>
    have : hcl (x :: l) = (hcs x).toList ++ hcl l := by simp [hcl]
    rw [this, List.length_append, ih]; simp; omega
theorem hcl_snoc (l : List Hd) (x : Hd) : hcl (l ++ [x]) = hcl l ++ (hcs x).toList := by simp [hcl]
theorem hcl_at (l : List Hd) (i : Nat) (h : i < l.length) (j : Nat) (hj : j < 7) : (hcl l)[i * 7 + j]? = (hcs l[i]).toList[j]? := by
  induction l generalizing i with
  | nil => simp at h
  | cons x l ih =>
    have e : hcl (x :: l) = (hcs x).toList ++ hcl l := by simp [hcl]
    rw [e]
    cases i with
    | zero => rw [Nat.zero_mul, Nat.zero_add, List.getElem?_append_left (by simpa using hj)]; rfl
    | succ i =>
      have hi : i < l.length := by simp at h; omega
      rw [List.getElem?_append_right (by simp; omega)]
      rw [show (i + 1) * 7 + j - (hcs x).toList.length = i * 7 + j by simp; omega]
      exact ih i hi
/-- The slice at an address (or none) has, in this world, below block B, these holds. -/
def Hds (w : World) (B : Nat) (A : Option Addr) (l : List Hd) : Prop :=
  ∀ i, (hi : i < l.length) → ∃ g o, A = some ⟨g, o, none⟩ ∧ g < B ∧ w.cell? ⟨g, o + i * 7, none⟩ = some (.string l[i].r) ∧ w.cell? ⟨g, o + i * 7 + 1, none⟩ = some (.string l[i].a) ∧ w.cell? ⟨g, o + i * 7 + 2, none⟩ = some (.string l[i].p) ∧
    w.cell? ⟨g, o + i * 7 + 3, none⟩ = some (.int .i64 l[i].ap) ∧ w.cell? ⟨g, o + i * 7 + 4, none⟩ = some (.int .i64 l[i].ca) ∧ w.cell? ⟨g, o + i * 7 + 5, none⟩ = some (.int .i64 l[i].un) ∧ w.cell? ⟨g, o + i * 7 + 6, none⟩ = some (.bool l[i].op)
theorem Hds.below {w w' : World} {B B' : Nat} {A : Option Addr} {l : List Hd} (h : Hds w B A l) (hb : Below B' w w') (hB : B ≤ B') : Hds w' B A l := fun i hi => by
  obtain ⟨g, o, e, h0, h1, h2, h3, h4, h5, h6, h7⟩ := h i hi
  have hlt := Nat.lt_of_lt_of_le h0 hB
  exact ⟨g, o, e, h0, (hb.cell (p := ⟨g, o + i * 7, none⟩) hlt).trans h1, (hb.cell (p := ⟨g, o + i * 7 + 1, none⟩) hlt).trans h2, (hb.cell (p := ⟨g, o + i * 7 + 2, none⟩) hlt).trans h3, (hb.cell (p := ⟨g, o + i * 7 + 3, none⟩) hlt).trans h4,
    (hb.cell (p := ⟨g, o + i * 7 + 4, none⟩) hlt).trans h5, (hb.cell (p := ⟨g, o + i * 7 + 5, none⟩) hlt).trans h6, (hb.cell (p := ⟨g, o + i * 7 + 6, none⟩) hlt).trans h7⟩
theorem own_below {w w' : World} {B e size n : Nat} {v : Value} {xs : List Value} (h : w.ownsRow B e size v n xs) (hb : Below w.heap.size w w') : w'.ownsRow B e size v n xs := by
  refine ⟨h.1, ?_⟩
  rcases h.2 with hh | ⟨g, cap, cur, e1, h1, h2, h3⟩
  · exact .inl hh
  · exact .inr ⟨g, cap, cur, e1, h1, (hb.block g (Array.getElem?_eq_some_iff.1 h2).1).trans h2, h3⟩
theorem one_int (x : Int) : ∀ u ∈ [Value.int .i64 x], u.oneCell' = true := by intro u hu; simp at hu; subst hu; rfl

theorem infoH : (Tryd.prog.info? 29).map (fun i => (i.zero, i.size, i.bytes)) = some (some (.agg #[.string ⟨#[]⟩, .string ⟨#[]⟩, .string ⟨#[]⟩, .int .i64 0, .int .i64 0, .int .i64 0, .bool false]), 7, 80) := by kernel_rfl
theorem one_hold (x : Hd) : ∀ u ∈ (hcs x).toList, u.oneCell' = true := by
  intro u hu; simp at hu; rcases hu with rfl | rfl | rfl | rfl | rfl | rfl | rfl <;> rfl
/-- One more hold, out of a box of its own. -/
theorem run_appH (w : World) (base : Nat) (v : Value) (n : Nat) (xs : List Value) (hown : w.ownsRow base 29 7 v n xs) (x : Hd) (hn : n ≤ 1000) (hb : base ≤ w.heap.size) :
    ∃ v' w', (Builtin.append_ #[22, 22] 22 #[v, .slice (some ⟨w.heap.size, 0, none⟩) 1 1]).run Tryd.prog (w.alloc (.cells (hcs x) 29)) = .ok v' w' ∧ w'.ownsRow base 29 7 v' (n + 1) (xs ++ (hcs x).toList) ∧ Below base w w' := by
  obtain ⟨i0, hi, hzz0, hz1, hz2⟩ := info_parts infoH
  have hO1 : (w.alloc (.cells (hcs x) 29)).ownsRow base 29 7 v n xs := hown.alloc _
  obtain ⟨v', w', hrun, h2, h3, _, h5⟩ := run_append_own_at (P := Tryd.prog) (w := w.alloc (.cells (hcs x) 29)) base 22 22 29 i0 (.agg #[.string ⟨#[]⟩, .string ⟨#[]⟩, .string ⟨#[]⟩, .int .i64 0, .int .i64 0, .int .i64 0, .bool false]) 7 80 Tryd.underlying22 hi hzz0 hz1 hz2 rfl (by decide) v n xs hO1 ⟨w.heap.size, 0, none⟩ 1 1 (hcs x).toList rfl (fun j u hj => by
    rw [Addr.add_lit, Nat.zero_add, World.cell?_alloc_new]
    simpa using hj) (one_hold x) (by unfold maxLen; omega) (by omega) (by rw [World.size_alloc]; omega)
  exact ⟨v', w', hrun, h2, ((Below.refl _ _).alloc hb _).grown h3 (by rw [World.size_alloc]; omega) (fun j hj => (hO1.lt j hj).1)⟩
theorem hds_of {w : World} {base : Nat} {v : Value} {l : List Hd} (h : w.ownsRow base 29 7 v l.length (hcl l)) : ∃ A c, v = .slice A l.length c ∧ Hds w w.heap.size A l := by
  rcases h.2 with ⟨rfl, hn⟩ | ⟨g, cap, cur, rfl, _⟩
  · exact ⟨none, 0, by rw [hn], fun i hi => by omega⟩
  · refine ⟨some ⟨g, 0, none⟩, cap, rfl, fun i hi => ?_⟩
    have hcell : ∀ j u, (hcl l)[j]? = some u → w.cell? ⟨g, 0 + j, none⟩ = some u := fun j u hj => by
      have := h.cells (g := g) rfl j u hj
      rwa [Addr.add_lit] at this
    have at7 : ∀ j, j < 7 → ∀ u, (hcs l[i]).toList[j]? = some u → w.cell? ⟨g, 0 + (i * 7 + j), none⟩ = some u := fun j hj u hu => hcell _ u ((hcl_at l i hi j hj).trans hu)
    refine ⟨g, 0, rfl, (h.lt g rfl).2, ?_, ?_, ?_, ?_, ?_, ?_, ?_⟩
    · have := at7 0 (by omega) _ rfl; simpa using this
    · have := at7 1 (by omega) _ rfl; rw [Nat.add_assoc]; exact this
    · have := at7 2 (by omega) _ rfl; rw [Nat.add_assoc]; exact this
    · have := at7 3 (by omega) _ rfl; rw [Nat.add_assoc]; exact this
    · have := at7 4 (by omega) _ rfl; rw [Nat.add_assoc]; exact this
    · have := at7 5 (by omega) _ rfl; rw [Nat.add_assoc]; exact this
    · have := at7 6 (by omega) _ rfl; rw [Nat.add_assoc]; exact this
theorem Hds.more {w : World} {B B' : Nat} {A : Option Addr} {l : List Hd} (h : Hds w B A l) (hB : B ≤ B') : Hds w B' A l := fun i hi => by
  obtain ⟨g, o, e, h0, h1⟩ := h i hi
  exact ⟨g, o, e, Nat.lt_of_lt_of_le h0 hB, h1⟩
theorem few_next {l : List Hd} {k : Nat} (h : k < l.length) : (l.take (k + 1)).map fewH = (l.take k).map fewH ++ [fewH l[k]] := by
  rw [List.take_succ_eq_append_getElem h]; exact List.map_append
/-- A hold's sizes as a machine has them. -/
structure Big (x : Hd) : Prop where
  r : x.r.size ≤ 9223372036854775807
  a : x.a.size ≤ 9223372036854775807
  p : x.p.size ≤ 9223372036854775807
  f : FitH (fewH x)

end Go.Proofs.YtgnkcgmmmkfkkaaDoor.Hol
