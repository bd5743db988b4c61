/- How a list of what is done came in. Conditions: none. -/
import Derived.Test.YtkhkncgndllkjaaDoorFrame
import Derived.Test.YtkhkncgndllkjaaDoorK13
import Derived.Deep.Strs
namespace Go.Proofs.YtkhkncgndllkjaaDoor
open Go.ChangeShapes Go.WideShapes Go.ChangeAt Go.RowKit

theorem spotless {w : World} {x : Addr} {v : Value} (h : w.cell? x = some v) : x.spot = none ∧ x.block < w.heap.size := by
  unfold World.cell? at h
  split at h
  · rename_i c e p hb
    split at h
    · cases h
    · rename_i hs
      exact ⟨by simpa using hs, (Array.getElem?_eq_some_iff.1 hb).1⟩
  · cases h
set_option maxRecDepth 100000 in
theorem open_actsc {H : Type} {enc : TypeId × Value → H} {W : World} {v : Value} {y : DataW H × List MemPlace} {b fuel : Nat} {g : Bool} (hf : DataW.trod enc Tryd.prog W b (fun _ => true) g fuel 44 [v] = some y) :
    ∃ (A : Option Addr) (l : List Hol.Ac) (c : Nat), v = .slice A l.length c ∧ Hol.Acs W W.heap.size A l ∧ ∀ x ∈ l, Hol.FitA x := by
  rcases Go.Deep.open_slice Tryd.underlying44 hf with ⟨hcs, _⟩ | ⟨x, len, c, m, n, D, Pl, hcs, _, hl, hm, hmm, _, hx⟩
  · simp at hcs
    subst hcs
    exact ⟨none, [], 0, rfl, fun i hi => absurd hi (by simp), fun e he => absurd he (by simp)⟩
  · simp at hcs
    subst hcs
    simp only [if_true] at hmm
    subst hmm
    have ce : Tryd.prog.cellsOf 46 = 3 := by kernel_rfl
    rw [ce] at hx
    have key : ∀ i : Nat, ∃ q : Hol.Ac, i < len →
        W.cell? ((x.add (i * 3)).add 0) = some (.int .i64 q.d) ∧ W.cell? ((x.add (i * 3)).add 1) = some (.int .i64 q.n) ∧ W.cell? ((x.add (i * 3)).add 2) = some (.int .i64 q.a) ∧ Hol.FitA q := fun i => by
      by_cases hi : i < len
      · obtain ⟨cs', h1, h2⟩ := hx i (by omega)
        obtain ⟨_, hlen, hcell⟩ := World.cells?_some h1
        obtain ⟨y0, y1, y2, k, _, _, t0, t1, t2⟩ := Go.Deep.trod_struct3 Tryd.underlying46 h2
        obtain ⟨v0, v1, v2, rfl⟩ : ∃ x y z, cs' = [x, y, z] := by
          match cs', hlen with
          | [x, y, z], _ => exact ⟨_, _, _, rfl⟩
        · have t0' : DataW.trod enc Tryd.prog W b (fun _ => true) g k 3 [v0] = some y0 := t0
          have t1' : DataW.trod enc Tryd.prog W b (fun _ => true) g k 3 [v1] = some y1 := t1
          have t2' : DataW.trod enc Tryd.prog W b (fun _ => true) g k 2 [v2] = some y2 := t2
          obtain ⟨z, e0, _, wz⟩ := DataW.trod_int Tryd.underlying3 t0'
          obtain ⟨r, e1, _, wr⟩ := DataW.trod_int Tryd.underlying3 t1'
          obtain ⟨s, e2, _, ws⟩ := DataW.trod_int Tryd.underlying2 t2'
          injection e0 with e0; injection e1 with e1; injection e2 with e2
          subst e0 e1 e2
          exact ⟨⟨z, r, s⟩, fun _ => ⟨hcell 0 (by omega), hcell 1 (by omega), hcell 2 (by omega), fits64 wz, fits64 wr, fits64 ws⟩⟩
      · exact ⟨⟨0, 0, 0⟩, fun h => absurd h hi⟩
    obtain ⟨q, hq⟩ := Classical.skolem.1 key
    clear key
    refine ⟨some x, (List.range len).map q, m, by simp, ?_, ?_⟩
    · intro i hi
      have hi' : i < len := by simpa using hi
      have e : ((List.range len).map q)[i] = q i := by simp
      rw [e]
      obtain ⟨g0, g1, g2, _⟩ := hq i hi'
      obtain ⟨u0, z0⟩ : ∃ u, W.cell? ((x.add (0 * 3)).add 0) = some u := ⟨_, (hq 0 (by omega)).1⟩
      rw [Nat.zero_mul, show (x.add 0).add 0 = x from rfl] at z0
      obtain ⟨bb, o, sp⟩ := x
      obtain ⟨hs', hlt⟩ := spotless z0
      simp only at hs' hlt
      subst hs'
      rw [Addr.add_lit, Addr.add_lit] at g0 g1 g2
      exact ⟨bb, o, rfl, hlt, by simpa using g0, g1, g2⟩
    · intro e he
      obtain ⟨i, hi, rfl⟩ := List.mem_map.1 he
      exact (hq i (List.mem_range.1 hi)).2.2.2
set_option maxRecDepth 100000 in
/-- What is done, as it is read. -/
theorem open_acts {H : Type} {enc : TypeId × Value → H} {W : World} {b0 b : Nat} {g : Bool} {v : Value} {d : DataW H} {p : List MemPlace}
    (hv : Value.okWide Tryd.prog W .any b0 44 v) (h : DataW.Trod enc Tryd.prog W b (fun _ => true) g 44 v d p) :
    ∃ (A : Option Addr) (l : List Hol.Ac) (c : Nat), v = .slice A l.length c ∧ Hol.Acs W W.heap.size A l ∧ ∀ x ∈ l, Hol.FitA x := by
  obtain ⟨a0, len0, cap0, rfl⟩ := okWide_slice Tryd.underlying44 hv
  obtain ⟨fuel, hf⟩ := h
  exact open_actsc (v := .slice a0 len0 cap0) (by simpa [Value.cells] using hf)
end Go.Proofs.YtkhkncgndllkjaaDoor
