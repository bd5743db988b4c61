/- How an entry that came in is read. Conditions: none. -/
import Derived.Test.YtejdhemnlcbffaaDoorFrame
import Derived.Test.YtejdhemnlcbffaaDoorB17
namespace Go.Proofs.YtejdhemnlcbffaaDoor
open Go.ChangeShapes Go.WideShapes Go.ChangeAt Go.RowKit

theorem spotless {w : World} {x : Addr} {v : Value} (h : w.cell? x = some v) : x.spot = none ∧ x.block < w.heap.size := by
  unfold World.cell? at h
  split at h
  · rename_i c e p hb
    split at h
    · cases h
    · rename_i hs
      exact ⟨by simpa using hs, (Array.getElem?_eq_some_iff.1 hb).1⟩
  · cases h
set_option maxRecDepth 100000 in
/-- A slice of lines, as it is read. -/
theorem open_lines {H : Type} {enc : TypeId × Value → H} {W : World} {v : Value} {y : DataW H × List MemPlace} {b fuel : Nat} {g : Bool} (hf : DataW.trod enc Tryd.prog W b (fun _ => true) g fuel 23 [v] = some y) :
    ∃ (A : Option Addr) (l : List Ent.Ln) (c : Nat), v = .slice A l.length c ∧ Ent.Lns W W.heap.size A l ∧ l.length ≤ c ∧ c ≤ 9223372036854775807 ∧
      ∀ x ∈ l, (-9223372036854775808 ≤ x.k ∧ x.k ≤ 9223372036854775807) ∧ x.s.size ≤ 9223372036854775807 ∧ Mny.Fits x.n := by
  rcases Go.Deep.open_slice Tryd.underlying23 hf with ⟨hcs, _⟩ | ⟨x, len, c, m, n, D, Pl, hcs, _, hl, hm, hmm, _, hx⟩
  · simp at hcs
    subst hcs
    exact ⟨none, [], 0, rfl, (fun i hi => by cases hi), Nat.le_refl _, by simp, by simp⟩
  · simp at hcs
    subst hcs
    simp only [if_true] at hmm
    subst hmm
    have ce : Tryd.prog.cellsOf 44 = 3 := by kernel_rfl
    rw [ce] at hx
    have key : ∀ i : Nat, ∃ q : Ent.Ln, i < len →
        W.cell? ((x.add (i * 3)).add 0) = some (.int .i64 q.k) ∧ W.cell? ((x.add (i * 3)).add 1) = some (.string q.s) ∧ W.cell? ((x.add (i * 3)).add 2) = some (.int .i64 q.n) ∧
        ((-9223372036854775808 ≤ q.k ∧ q.k ≤ 9223372036854775807) ∧ q.s.size ≤ 9223372036854775807 ∧ Mny.Fits q.n) := fun i => by
      by_cases hi : i < len
      · obtain ⟨cs', h1, h2⟩ := hx i (by omega)
        obtain ⟨_, hlen, hcell⟩ := World.cells?_some h1
        obtain ⟨y0, y1, k, _, _, t0, t1⟩ := trod_struct2 Tryd.underlying44 h2
        obtain ⟨v0, v1, v2, rfl⟩ : ∃ x y z, cs' = [x, y, z] := by
          match cs', hlen with
          | [x, y, z], _ => exact ⟨_, _, _, rfl⟩
        · have t0' : DataW.trod enc Tryd.prog W b (fun _ => true) g k 27 [v0, v1] = some y0 := t0
          have t1' : DataW.trod enc Tryd.prog W b (fun _ => true) g k 2 [v2] = some y1 := t1
          obtain ⟨z, s, e0, wz, ws⟩ := open_account t0'
          obtain ⟨n, e1, _, wn⟩ := DataW.trod_int Tryd.underlying2 t1'
          injection e0 with e0 e2; injection e2 with e2; injection e1 with e1
          subst e0 e1 e2
          exact ⟨⟨z, s, n⟩, fun _ => ⟨hcell 0 (by omega), hcell 1 (by omega), hcell 2 (by omega), fits64 wz, size64 ws, fits64 wn⟩⟩
      · exact ⟨⟨0, ⟨#[]⟩, 0⟩, fun h => absurd h hi⟩
    obtain ⟨q, hq⟩ := Classical.skolem.1 key
    clear key
    refine ⟨some x, (List.range len).map q, m, by simp, fun i hi => ?_, by simpa using hl, by unfold maxLen at hm; omega, fun z hz => ?_⟩
    · have hi' : i < len := by simpa using hi
      have e : ((List.range len).map q)[i] = q i := by simp
      rw [e]
      obtain ⟨g0, g1, g2, _⟩ := hq i hi'
      obtain ⟨u0, z0⟩ : ∃ u, W.cell? ((x.add (0 * 3)).add 0) = some u := ⟨_, (hq 0 (by omega)).1⟩
      rw [Nat.zero_mul, show (x.add 0).add 0 = x from rfl] at z0
      obtain ⟨bb, o, sp⟩ := x
      obtain ⟨hs', hlt⟩ := spotless z0
      simp only at hs' hlt
      subst hs'
      rw [Addr.add_lit, Addr.add_lit] at g0 g1 g2
      exact ⟨bb, o, rfl, hlt, by simpa using g0, g1, g2⟩
    · obtain ⟨i, hi, rfl⟩ := List.mem_map.1 hz
      exact (hq i (List.mem_range.1 hi)).2.2.2
set_option maxRecDepth 100000 in
/-- A slice of balances, as it is read. -/
theorem open_book {H : Type} {enc : TypeId × Value → H} {W : World} {v : Value} {y : DataW H × List MemPlace} {b fuel : Nat} {g : Bool} (hf : DataW.trod enc Tryd.prog W b (fun _ => true) g fuel 22 [v] = some y) :
    ∃ (A : Option Addr) (l : List Ent.Ln) (c : Nat), v = .slice A l.length c ∧ Ent.Lns W W.heap.size A l ∧ l.length ≤ c ∧ c ≤ 9223372036854775807 ∧
      ∀ x ∈ l, (-9223372036854775808 ≤ x.k ∧ x.k ≤ 9223372036854775807) ∧ x.s.size ≤ 9223372036854775807 ∧ Mny.Fits x.n := by
  rcases Go.Deep.open_slice Tryd.underlying22 hf with ⟨hcs, _⟩ | ⟨x, len, c, m, n, D, Pl, hcs, _, hl, hm, hmm, _, hx⟩
  · simp at hcs
    subst hcs
    exact ⟨none, [], 0, rfl, (fun i hi => by cases hi), Nat.le_refl _, by simp, by simp⟩
  · simp at hcs
    subst hcs
    simp only [if_true] at hmm
    subst hmm
    have ce : Tryd.prog.cellsOf 51 = 3 := by kernel_rfl
    rw [ce] at hx
    have key : ∀ i : Nat, ∃ q : Ent.Ln, i < len →
        W.cell? ((x.add (i * 3)).add 0) = some (.int .i64 q.k) ∧ W.cell? ((x.add (i * 3)).add 1) = some (.string q.s) ∧ W.cell? ((x.add (i * 3)).add 2) = some (.int .i64 q.n) ∧
        ((-9223372036854775808 ≤ q.k ∧ q.k ≤ 9223372036854775807) ∧ q.s.size ≤ 9223372036854775807 ∧ Mny.Fits q.n) := fun i => by
      by_cases hi : i < len
      · obtain ⟨cs', h1, h2⟩ := hx i (by omega)
        obtain ⟨_, hlen, hcell⟩ := World.cells?_some h1
        obtain ⟨y0, y1, k, _, _, t0, t1⟩ := trod_struct2 Tryd.underlying51 h2
        obtain ⟨v0, v1, v2, rfl⟩ : ∃ x y z, cs' = [x, y, z] := by
          match cs', hlen with
          | [x, y, z], _ => exact ⟨_, _, _, rfl⟩
        · have t0' : DataW.trod enc Tryd.prog W b (fun _ => true) g k 27 [v0, v1] = some y0 := t0
          have t1' : DataW.trod enc Tryd.prog W b (fun _ => true) g k 2 [v2] = some y1 := t1
          obtain ⟨z, s, e0, wz, ws⟩ := open_account t0'
          obtain ⟨n, e1, _, wn⟩ := DataW.trod_int Tryd.underlying2 t1'
          injection e0 with e0 e2; injection e2 with e2; injection e1 with e1
          subst e0 e1 e2
          exact ⟨⟨z, s, n⟩, fun _ => ⟨hcell 0 (by omega), hcell 1 (by omega), hcell 2 (by omega), fits64 wz, size64 ws, fits64 wn⟩⟩
      · exact ⟨⟨0, ⟨#[]⟩, 0⟩, fun h => absurd h hi⟩
    obtain ⟨q, hq⟩ := Classical.skolem.1 key
    clear key
    refine ⟨some x, (List.range len).map q, m, by simp, fun i hi => ?_, by simpa using hl, by unfold maxLen at hm; omega, fun z hz => ?_⟩
    · have hi' : i < len := by simpa using hi
      have e : ((List.range len).map q)[i] = q i := by simp
      rw [e]
      obtain ⟨g0, g1, g2, _⟩ := hq i hi'
      obtain ⟨u0, z0⟩ : ∃ u, W.cell? ((x.add (0 * 3)).add 0) = some u := ⟨_, (hq 0 (by omega)).1⟩
      rw [Nat.zero_mul, show (x.add 0).add 0 = x from rfl] at z0
      obtain ⟨bb, o, sp⟩ := x
      obtain ⟨hs', hlt⟩ := spotless z0
      simp only at hs' hlt
      subst hs'
      rw [Addr.add_lit, Addr.add_lit] at g0 g1 g2
      exact ⟨bb, o, rfl, hlt, by simpa using g0, g1, g2⟩
    · obtain ⟨i, hi, rfl⟩ := List.mem_map.1 hz
      exact (hq i (List.mem_range.1 hi)).2.2.2
/-- An entry, as it is read. -/
theorem open_entry {H : Type} {enc : TypeId × Value → H} {W : World} {b0 b : Nat} {g : Bool} {v : Value} {d : DataW H} {p : List MemPlace}
    (hv : Value.okWide Tryd.prog W .any b0 25 v) (h : DataW.Trod enc Tryd.prog W b (fun _ => true) g 25 v d p) :
    ∃ (z : Int) (r : ByteArray) (A : Option Addr) (m c : Nat) (l : List Ent.Ln), v = .agg #[.int .i64 z, .string r, .slice A m c] ∧ Ent.RdE W r A l m c := by
  obtain ⟨c0, c1, c2, y0, y1, y2, n, rfl, _, _, h0, h1, h2⟩ := Joins.open_agg3 Tryd.underlying25 (by kernel_rfl) (by kernel_rfl) hv h
  obtain ⟨z, e0, _, wz⟩ := DataW.trod_int Tryd.underlying3 h0
  obtain ⟨r, e1, _, wr⟩ := DataW.trod_string Tryd.underlying9 h1
  obtain ⟨A, l, c, rfl, hln, hc, hb, hf⟩ := open_lines h2
  injection e0 with e0; injection e1 with e1
  subst e0 e1
  exact ⟨z, r, A, l.length, c, l, rfl, hln, rfl, hc, hb, size64 wr, hf⟩
/-- A book, as it is read. -/
theorem open_bal {H : Type} {enc : TypeId × Value → H} {W : World} {b0 b : Nat} {g : Bool} {v : Value} {d : DataW H} {p : List MemPlace}
    (hv : Value.okWide Tryd.prog W .any b0 22 v) (h : DataW.Trod enc Tryd.prog W b (fun _ => true) g 22 v d p) :
    ∃ (A : Option Addr) (m c : Nat) (l : List Ent.Ln), v = .slice A m c ∧ Bok.RdB W A l m c := by
  obtain ⟨a0, len0, cap0, rfl⟩ := okWide_slice Tryd.underlying22 hv
  obtain ⟨fuel, hf⟩ := h
  obtain ⟨A, l, c, e, hln, hc, hb, hfit⟩ := open_book (v := .slice a0 len0 cap0) (by simpa [Value.cells] using hf)
  exact ⟨A, l.length, c, l, e, hln, rfl, hc, hb, hfit⟩
end Go.Proofs.YtejdhemnlcbffaaDoor
