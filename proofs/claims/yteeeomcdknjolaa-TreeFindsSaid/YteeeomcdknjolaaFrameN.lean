/- How []api.Node is read. -/
import Derived.Test.YteeeomcdknjolaaFrame
import Derived.Test.YteeeomcdknjolaaTE
import Derived.Deep.Slices
import Derived.ChangeSlices
namespace Go.Proofs.Yteeeomcdknjolaa
open Go.ChangeShapes Go.WideShapes Go.ChangeAt Go.RowKit Chk

theorem i64_of {n : Int} (h : (Lit.int .i64 n).wf = true) : -9223372036854775808 ≤ n ∧ n ≤ 9223372036854775807 := by
  simpa [Lit.wf, IntKind.min, IntKind.max, IntKind.signed, IntKind.bits] using h
/-- A slice of keys, as it is read. -/
theorem open_texts {H : Type} {enc : TypeId × Value → H} {W : World} {v : Value} {y : DataW H × List MemPlace} {b fuel : Nat} {g : Bool} (hf : DataW.trod enc Try.prog W b (fun _ => true) g fuel 53 [v] = some y) :
    ∃ (A : Option Addr) (l : List Nod.T) (c : Nat), v = .slice A l.length c ∧ Nod.Txs W W.heap.size A l ∧ l.length ≤ c ∧ l.length ≤ 9223372036854775807 := by
  rcases open_strings Try.underlying53 Try.underlying9 (by kernel_rfl) hf with ⟨hcs, _⟩ | ⟨x, len, c, ss, hcs, _, hl, hm, hz, _, hcell, _⟩
  · simp at hcs
    subst hcs
    exact ⟨none, [], 0, rfl, (fun i hi => by cases hi), Nat.le_refl _, by simp⟩
  · simp at hcs
    subst hcs
    have hz' : ss.length = c := by simpa using hz
    refine ⟨some x, (ss.take len).map (fun s => s.data.toList), c, by simp; omega, fun i hi => ?_, by simp; omega, by simp; unfold maxLen at hm; omega⟩
    have hi' : i < len := by simp at hi; omega
    have hi2 : i < ss.length := by omega
    have h0 := hcell 0 (by omega)
    have hc := hcell i hi2
    rw [show x.add 0 = x from rfl] at h0
    obtain ⟨bb, o, sp⟩ := x
    obtain ⟨hs', hlt⟩ := spotless h0
    simp only at hs' hlt
    subst hs'
    rw [Addr.add_lit] at hc
    refine ⟨bb, o, rfl, hlt, hc.trans ?_⟩
    rw [List.getElem_map, List.getElem_take, text_data, List.getD_eq_getElem?_getD, List.getElem?_eq_getElem hi2]; rfl
/-- A slice of kids, as it is read. -/
theorem open_kids {H : Type} {enc : TypeId × Value → H} {W : World} {v : Value} {y : DataW H × List MemPlace} {b fuel : Nat} {g : Bool} (hf : DataW.trod enc Try.prog W b (fun _ => true) g fuel 32 [v] = some y) :
    ∃ (A : Option Addr) (l : List Int) (c : Nat), v = .slice A l.length c ∧ Nod.Kds W W.heap.size A l ∧ l.length ≤ c ∧ l.length ≤ 9223372036854775807 := by
  rcases open_ints Try.underlying32 Try.underlying3 (by kernel_rfl) hf with ⟨hcs, _⟩ | ⟨x, len, c, zs, hcs, _, hl, hm, hz, _, hcell, hwz⟩
  · simp at hcs
    subst hcs
    exact ⟨none, [], 0, rfl, (fun i hi => by cases hi), Nat.le_refl _, by simp⟩
  · simp at hcs
    subst hcs
    have hz' : zs.length = c := by simpa using hz
    refine ⟨some x, zs.take len, c, by simp; omega, fun i hi => ?_, by simp; omega, by simp; unfold maxLen at hm; omega⟩
    have hi' : i < len := by simp at hi; omega
    have hi2 : i < zs.length := by omega
    have h0 := hcell 0 (by omega)
    have hc := hcell i hi2
    rw [show x.add 0 = x from rfl] at h0
    obtain ⟨bb, o, sp⟩ := x
    obtain ⟨hs', hlt⟩ := spotless h0
    simp only at hs' hlt
    subst hs'
    rw [Addr.add_lit] at hc
    have e : (zs.take len)[i] = zs[i] := List.getElem_take
    refine ⟨bb, o, rfl, hlt, hc.trans ?_, by rw [e]; exact (i64_of (hwz _ (List.getElem_mem hi2))).1, by rw [e]; exact (i64_of (hwz _ (List.getElem_mem hi2))).2⟩
    rw [e, List.getD_eq_getElem?_getD, List.getElem?_eq_getElem hi2]; rfl
/-- A slice of nodes, as it is read. -/
theorem open_nds {H : Type} {enc : TypeId × Value → H} {W : World} {a : Option Addr} {len cap : Nat} {d : DataW H} {p : List MemPlace} {b : Nat} {g : Bool}
    (h : DataW.Trod enc Try.prog W b (fun _ => true) g 24 (.slice a len cap) d p) : ∃ l : List Nod.Nd, l.length = len ∧ Tre.Nds W W.heap.size a l ∧ len ≤ cap ∧ len ≤ 9223372036854775807 := by
  obtain ⟨fuel, hf⟩ := h
  have hf' : DataW.trod enc Try.prog W b (fun _ => true) g fuel 24 [.slice a len cap] = some (d, p) := by simpa [Value.cells] using hf
  rcases Go.Deep.open_slice Try.underlying24 hf' with ⟨hcs, _⟩ | ⟨x, l, c, m, n, D, Pl, hcs, _, hl, hm, hmm, _, hx⟩
  · simp at hcs
    obtain ⟨rfl, rfl, rfl⟩ := hcs
    exact ⟨[], rfl, (fun i hi => by cases hi), Nat.le_refl _, by simp⟩
  · simp at hcs
    obtain ⟨rfl, rfl, rfl⟩ := hcs
    simp only [if_true] at hmm
    subst hmm
    have ce : Try.prog.cellsOf 55 = 3 := by kernel_rfl
    rw [ce] at hx
    have key : ∀ i : Nat, ∃ q : Nod.Nd × (Option Addr × Nat × Nat) × (Option Addr × Nat × Nat) × (Option Addr × Nat × Nat), i < len →
        W.cell? ((x.add (i * 3)).add 0) = some (.slice q.2.1.1 q.2.1.2.1 q.2.1.2.2) ∧ W.cell? ((x.add (i * 3)).add 1) = some (.slice q.2.2.1.1 q.2.2.1.2.1 q.2.2.1.2.2) ∧ W.cell? ((x.add (i * 3)).add 2) = some (.slice q.2.2.2.1 q.2.2.2.2.1 q.2.2.2.2.2) ∧
        Nod.IsN W W.heap.size q.1 q.2.1.1 q.2.1.2.1 q.2.1.2.2 q.2.2.1.1 q.2.2.1.2.1 q.2.2.1.2.2 q.2.2.2.1 q.2.2.2.2.1 q.2.2.2.2.2 := fun i => by
      by_cases hi : i < len
      · obtain ⟨cs', h1, h2⟩ := hx i (by omega)
        obtain ⟨_, hlen, hcell⟩ := World.cells?_some h1
        obtain ⟨y0, y1, y2, k, _, _, t0, t1, t2⟩ := Go.Deep.trod_struct3 Try.underlying55 h2
        match cs', hlen with
        | [v0, v1, v2], _ =>
          have t0' : DataW.trod enc Try.prog W b (fun _ => true) g k 22 [v0] = some y0 := t0
          have t1' : DataW.trod enc Try.prog W b (fun _ => true) g k 53 [v1] = some y1 := t1
          have t2' : DataW.trod enc Try.prog W b (fun _ => true) g k 32 [v2] = some y2 := t2
          obtain ⟨A1, l1, c1, rfl, p1, r1, m1⟩ := open_pairs t0'
          obtain ⟨A2, l2, c2, rfl, p2, r2, m2⟩ := open_texts t1'
          obtain ⟨A3, l3, c3, rfl, p3, r3, m3⟩ := open_kids t2'
          exact ⟨(⟨l1, l2, l3⟩, (A1, l1.length, c1), (A2, l2.length, c2), (A3, l3.length, c3)), fun _ => ⟨hcell 0 (by omega), hcell 1 (by omega), hcell 2 (by omega), ⟨p1, p2, p3, rfl, rfl, rfl, r1, r2, r3, m1, m2, m3⟩⟩⟩
      · exact ⟨(⟨[], [], []⟩, (none, 0, 0), (none, 0, 0), (none, 0, 0)), fun h => absurd h hi⟩
    obtain ⟨q, hq⟩ := Classical.skolem.1 key
    clear key
    refine ⟨(List.range len).map fun i => (q i).1, by simp, fun i hi => ?_, hl, by unfold maxLen at hm; omega⟩
    have hi' : i < len := by simpa using hi
    have e : ((List.range len).map fun i => (q i).1)[i] = (q i).1 := by simp
    rw [e]
    obtain ⟨g0, g1, g2, hN⟩ := hq i hi'
    obtain ⟨u0, z0⟩ : ∃ u, W.cell? ((x.add (0 * 3)).add 0) = some u := ⟨_, (hq 0 (by omega)).1⟩
    rw [Nat.zero_mul, show (x.add 0).add 0 = x from rfl] at z0
    obtain ⟨bb, o, sp⟩ := x
    obtain ⟨hs', hlt⟩ := spotless z0
    simp only at hs' hlt
    subst hs'
    rw [Addr.add_lit, Addr.add_lit] at g0 g1 g2
    exact ⟨bb, o, _, _, _, _, _, _, _, _, _, rfl, hlt, by simpa using g0, g1, g2, hN⟩
end Go.Proofs.Yteeeomcdknjolaa
