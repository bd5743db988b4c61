/- How entries that came in are read. Conditions: none. -/
import Derived.Test.YtejdhemnlcbffaaDoorRead
import Derived.Test.YtejdhemnlcbffaaDoorB20
import Derived.Deep.Strs
namespace Go.Proofs.YtejdhemnlcbffaaDoor
open Go.ChangeShapes Go.WideShapes Go.ChangeAt Go.RowKit

set_option maxRecDepth 100000 in
/-- A slice of entries, as it is read. -/
theorem open_entries {H : Type} {enc : TypeId × Value → H} {W : World} {v : Value} {y : DataW H × List MemPlace} {b fuel : Nat} {g : Bool} (hf : DataW.trod enc Tryd.prog W b (fun _ => true) g fuel 40 [v] = some y) :
    ∃ (A : Option Addr) (l : List Bok.Ev) (c : Nat), v = .slice A l.length c ∧ Bok.RdEs W A l l.length c := by
  rcases Go.Deep.open_slice Tryd.underlying40 hf with ⟨hcs, _⟩ | ⟨x, len, c, m, n, D, Pl, hcs, _, hl, hm, hmm, _, hx⟩
  · simp at hcs
    subst hcs
    exact ⟨none, [], 0, rfl, fun i hi => absurd hi (by simp), fun e he => absurd he (by simp), rfl, Nat.le_refl _⟩
  · simp at hcs
    subst hcs
    simp only [if_true] at hmm
    subst hmm
    have ce : Tryd.prog.cellsOf 25 = 3 := by kernel_rfl
    rw [ce] at hx
    have key : ∀ i : Nat, ∃ q : Bok.Ev, i < len →
        W.cell? ((x.add (i * 3)).add 0) = some (.int .i64 q.b) ∧ W.cell? ((x.add (i * 3)).add 1) = some (.string q.r) ∧ W.cell? ((x.add (i * 3)).add 2) = some (.slice q.A q.l.length q.c) ∧
        Ent.RdE W q.r q.A q.l q.l.length q.c := fun i => by
      by_cases hi : i < len
      · obtain ⟨cs', h1, h2⟩ := hx i (by omega)
        obtain ⟨_, hlen, hcell⟩ := World.cells?_some h1
        obtain ⟨y0, y1, y2, k, _, _, t0, t1, t2⟩ := Go.Deep.trod_struct3 Tryd.underlying25 h2
        obtain ⟨v0, v1, v2, rfl⟩ : ∃ x y z, cs' = [x, y, z] := by
          match cs', hlen with
          | [x, y, z], _ => exact ⟨_, _, _, rfl⟩
        · have t0' : DataW.trod enc Tryd.prog W b (fun _ => true) g k 3 [v0] = some y0 := t0
          have t1' : DataW.trod enc Tryd.prog W b (fun _ => true) g k 9 [v1] = some y1 := t1
          have t2' : DataW.trod enc Tryd.prog W b (fun _ => true) g k 23 [v2] = some y2 := t2
          obtain ⟨z, e0, _, wz⟩ := DataW.trod_int Tryd.underlying3 t0'
          obtain ⟨r, e1, _, wr⟩ := DataW.trod_string Tryd.underlying9 t1'
          obtain ⟨A2, l2, c2, e2, hln, hc, hb, hf2⟩ := open_lines t2'
          injection e0 with e0; injection e1 with e1
          subst e0 e1 e2
          exact ⟨⟨z, r, A2, c2, l2⟩, fun _ => ⟨hcell 0 (by omega), hcell 1 (by omega), hcell 2 (by omega), hln, rfl, hc, hb, size64 wr, hf2⟩⟩
      · exact ⟨⟨0, ⟨#[]⟩, none, 0, []⟩, fun h => absurd h hi⟩
    obtain ⟨q, hq⟩ := Classical.skolem.1 key
    clear key
    refine ⟨some x, (List.range len).map q, m, by simp, ?_, ?_, rfl, by simpa using hl⟩
    · intro i hi
      have hi' : i < len := by simpa using hi
      have e : ((List.range len).map q)[i] = q i := by simp
      rw [e]
      obtain ⟨g0, g1, g2, _⟩ := hq i hi'
      obtain ⟨u0, z0⟩ : ∃ u, W.cell? ((x.add (0 * 3)).add 0) = some u := ⟨_, (hq 0 (by omega)).1⟩
      rw [Nat.zero_mul, show (x.add 0).add 0 = x from rfl] at z0
      obtain ⟨bb, o, sp⟩ := x
      obtain ⟨hs', hlt⟩ := spotless z0
      simp only at hs' hlt
      subst hs'
      rw [Addr.add_lit, Addr.add_lit] at g0 g1 g2
      exact ⟨bb, o, rfl, hlt, by simpa using g0, g1, g2⟩
    · intro e he
      obtain ⟨i, hi, rfl⟩ := List.mem_map.1 he
      exact (hq i (List.mem_range.1 hi)).2.2.2
/-- Entries, as they are read. -/
theorem open_ents {H : Type} {enc : TypeId × Value → H} {W : World} {b0 b : Nat} {g : Bool} {v : Value} {d : DataW H} {p : List MemPlace}
    (hv : Value.okWide Tryd.prog W .any b0 40 v) (h : DataW.Trod enc Tryd.prog W b (fun _ => true) g 40 v d p) :
    ∃ (A : Option Addr) (m c : Nat) (l : List Bok.Ev), v = .slice A m c ∧ Bok.RdEs W A l m c := by
  obtain ⟨a0, len0, cap0, rfl⟩ := okWide_slice Tryd.underlying40 hv
  obtain ⟨fuel, hf⟩ := h
  obtain ⟨A, l, c, e, hr⟩ := open_entries (v := .slice a0 len0 cap0) (by simpa [Value.cells] using hf)
  exact ⟨A, l.length, c, l, e, hr⟩
end Go.Proofs.YtejdhemnlcbffaaDoor
