/- How a list of holds came in. Conditions: none. -/
import Derived.Test.YtgnkcgmmmkfkkaaDoorFrame
import Derived.Test.YtgnkcgmmmkfkkaaDoorPA
import Derived.Deep.Strs
namespace Go.Proofs.YtgnkcgmmmkfkkaaDoor
open Go.ChangeShapes Go.WideShapes Go.ChangeAt Go.RowKit

theorem spotlessH {w : World} {x : Addr} {v : Value} (h : w.cell? x = some v) : x.spot = none ∧ x.block < w.heap.size := by
  unfold World.cell? at h
  split at h
  · rename_i c e p hb
    split at h
    · cases h
    · rename_i hs
      exact ⟨by simpa using hs, (Array.getElem?_eq_some_iff.1 hb).1⟩
  · cases h
theorem RawH.big {x : Hol.Hd} (h : RawH x) : Hol.Big x := ⟨h.r, h.a, h.p, h.few⟩
set_option maxRecDepth 100000 in
theorem open_holdsc {H : Type} {enc : TypeId × Value → H} {W : World} {v : Value} {y : DataW H × List MemPlace} {b fuel : Nat} {g : Bool} (hf : DataW.trod enc Tryd.prog W b (fun _ => true) g fuel 22 [v] = some y) :
    ∃ (A : Option Addr) (l : List Hol.Hd) (c : Nat), v = .slice A l.length c ∧ Hol.Hds W W.heap.size A l ∧ l.length ≤ c ∧ c ≤ 9223372036854775807 ∧ ∀ x ∈ l, Hol.Big x := by
  rcases Go.Deep.open_slice Tryd.underlying22 hf with ⟨hcs, _⟩ | ⟨x, len, c, m, n, D, Pl, hcs, _, hl, hm, hmm, _, hx⟩
  · simp at hcs
    subst hcs
    exact ⟨none, [], 0, rfl, fun i hi => absurd hi (by simp), Nat.le_refl _, by omega, fun e he => absurd he (by simp)⟩
  · simp at hcs
    subst hcs
    simp only [if_true] at hmm
    subst hmm
    have ce : Tryd.prog.cellsOf 29 = 7 := by kernel_rfl
    rw [ce] at hx
    have key : ∀ i : Nat, ∃ q : Hol.Hd, i < len →
        W.cell? ((x.add (i * 7)).add 0) = some (.string q.r) ∧ W.cell? ((x.add (i * 7)).add 1) = some (.string q.a) ∧ W.cell? ((x.add (i * 7)).add 2) = some (.string q.p) ∧ W.cell? ((x.add (i * 7)).add 3) = some (.int .i64 q.ap) ∧
        W.cell? ((x.add (i * 7)).add 4) = some (.int .i64 q.ca) ∧ W.cell? ((x.add (i * 7)).add 5) = some (.int .i64 q.un) ∧ W.cell? ((x.add (i * 7)).add 6) = some (.bool q.op) ∧ RawH q := fun i => by
      by_cases hi : i < len
      · obtain ⟨cs', h1, h2⟩ := hx i (by omega)
        obtain ⟨_, hlen, hcell⟩ := World.cells?_some h1
        obtain ⟨q, rfl, hr⟩ := hold_cells h2
        exact ⟨q, fun _ => ⟨hcell 0 (by decide), hcell 1 (by decide), hcell 2 (by decide), hcell 3 (by decide), hcell 4 (by decide), hcell 5 (by decide), hcell 6 (by decide), hr⟩⟩
      · exact ⟨Hol.noH, fun h => absurd h hi⟩
    obtain ⟨q, hq⟩ := Classical.skolem.1 key
    clear key
    refine ⟨some x, (List.range len).map q, m, by simp, ?_, by simpa using hl, by unfold maxLen at hm; omega, ?_⟩
    · intro i hi
      have hi' : i < len := by simpa using hi
      have e : ((List.range len).map q)[i] = q i := by simp
      rw [e]
      obtain ⟨g0, g1, g2, g3, g4, g5, g6, _⟩ := hq i hi'
      obtain ⟨u0, z0⟩ : ∃ u, W.cell? ((x.add (0 * 7)).add 0) = some u := ⟨_, (hq 0 (by omega)).1⟩
      rw [Nat.zero_mul, show (x.add 0).add 0 = x from rfl] at z0
      obtain ⟨bb, o, sp⟩ := x
      obtain ⟨hs', hlt⟩ := spotlessH z0
      simp only at hs' hlt
      subst hs'
      rw [Addr.add_lit, Addr.add_lit] at g0 g1 g2 g3 g4 g5 g6
      exact ⟨bb, o, rfl, hlt, by simpa using g0, g1, g2, g3, g4, g5, g6⟩
    · intro e he
      obtain ⟨i, hi, rfl⟩ := List.mem_map.1 he
      exact (hq i (List.mem_range.1 hi)).2.2.2.2.2.2.2.big
set_option maxRecDepth 100000 in
/-- Holds, as they are read. -/
theorem open_holds {H : Type} {enc : TypeId × Value → H} {W : World} {b0 b : Nat} {g : Bool} {v : Value} {d : DataW H} {p : List MemPlace}
    (hv : Value.okWide Tryd.prog W .any b0 22 v) (h : DataW.Trod enc Tryd.prog W b (fun _ => true) g 22 v d p) :
    ∃ (A : Option Addr) (l : List Hol.Hd) (c : Nat), v = .slice A l.length c ∧ Hol.Hds W W.heap.size A l ∧ l.length ≤ c ∧ c ≤ 9223372036854775807 ∧ ∀ x ∈ l, Hol.Big x := by
  obtain ⟨a0, len0, cap0, rfl⟩ := okWide_slice Tryd.underlying22 hv
  obtain ⟨fuel, hf⟩ := h
  exact open_holdsc (v := .slice a0 len0 cap0) (by simpa [Value.cells] using hf)
end Go.Proofs.YtgnkcgmmmkfkkaaDoor
