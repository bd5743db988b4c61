/- What each law's proof of the node package shares: how its arguments are read, and small closed facts. Conditions: none. -/
import Derived.Test.YtckbehojcjhcgaaRows
import Derived.Test.YtckbehojcjhcgaaN1
import Derived.WalkKit
import Derived.ProofKit
import Derived.OpenShut
import Derived.JoinedCond
import Derived.Below
import Derived.Deep.Matrix
import Derived.SliceStrings
import Derived.Deep.SlicePairs
import Derived.Deep.Strs
namespace Go.Proofs.Ytckbehojcjhcgaa
open Go.ChangeShapes Go.WideShapes Go.ChangeAt Go.RowKit Chk

theorem own : ownKnob Try.prog.godebug = none := by kernel_rfl
theorem laidOut : laidOutB Try.prog = true := by kernel_rfl
theorem nat_of_u64 {n : Int} (h : (Lit.int .u64 n).wf = true) : ∃ m : Nat, n = m ∧ m < 18446744073709551616 := by
  have : 0 ≤ n ∧ n ≤ 18446744073709551615 := by simpa [Lit.wf, IntKind.min, IntKind.max, IntKind.signed, IntKind.bits] using h
  exact ⟨n.toNat, by omega, by omega⟩
theorem nat_of_u32 {n : Int} (h : (Lit.int .u32 n).wf = true) : ∃ m : Nat, n = m ∧ m < 4294967296 := by
  have : 0 ≤ n ∧ n ≤ 4294967295 := by simpa [Lit.wf, IntKind.min, IntKind.max, IntKind.signed, IntKind.bits] using h
  exact ⟨n.toNat, by omega, by omega⟩
theorem nat_of_u8' {n : Int} (h : (Lit.int .u8 n).wf = true) : ∃ m : Nat, n = m ∧ m < 256 := by
  have : 0 ≤ n ∧ n ≤ 255 := by simpa [Lit.wf, IntKind.min, IntKind.max, IntKind.signed, IntKind.bits] using h
  exact ⟨n.toNat, by omega, by omega⟩
theorem nat_of_u8 {n : Int} (h : (Lit.int .u8 n).wf = true) : 0 ≤ n ∧ n ≤ 255 := by
  simpa [Lit.wf, IntKind.min, IntKind.max, IntKind.signed, IntKind.bits] using h
theorem i64_of {n : Int} (h : (Lit.int .i64 n).wf = true) : -9223372036854775808 ≤ n ∧ n ≤ 9223372036854775807 := by
  simpa [Lit.wf, IntKind.min, IntKind.max, IntKind.signed, IntKind.bits] using h
def u8s (zs : List Int) : List UInt8 := zs.map fun z => UInt8.ofNat z.toNat
theorem u8s_at {zs : List Int} {i : Nat} (hi : i < (u8s zs).length) (hi' : i < zs.length) (hw : ∀ n ∈ zs, (Lit.int .u8 n).wf = true) : ((u8s zs)[i].toNat : Int) = zs[i] := by
  have h := nat_of_u8 (hw zs[i] (List.getElem_mem hi'))
  have e : (u8s zs)[i] = UInt8.ofNat zs[i].toNat := List.getElem_map _
  rw [e, UInt8.toNat_ofNat']
  omega
/-- A slice of octets, as it is read. -/
theorem open_octs {H : Type} {enc : TypeId × Value → H} {W : World} {a : Option Addr} {len cap : Nat} {d : DataW H} {p : List MemPlace} {b : Nat} {g : Bool}
    (h : DataW.Trod enc Try.prog W b (fun _ => true) g 29 (.slice a len cap) d p) : ∃ l : List UInt8, l.length = len ∧ Octs W W.heap.size a l ∧ len ≤ cap ∧ cap ≤ maxLen := by
  obtain ⟨fuel, hf⟩ := h
  rcases open_ints Try.underlying29 Try.underlying5 (by kernel_rfl) hf with ⟨hcs, _⟩ | ⟨x, l, c, zs, hcs, _, hl, hm, hz, _, hcell, hwz⟩
  · simp [Value.cells] at hcs
    obtain ⟨rfl, rfl, rfl⟩ := hcs
    exact ⟨[], rfl, (fun i hi => by cases hi), Nat.le_refl _, Nat.zero_le _⟩
  · simp [Value.cells] at hcs
    obtain ⟨rfl, rfl, rfl⟩ := hcs
    have hz' : zs.length = cap := by simpa using hz
    have hlen : (u8s (zs.take len)).length = len := by simp [u8s]; omega
    refine ⟨u8s (zs.take len), hlen, fun i hi => ?_, hl, hm⟩
    have hi2 : i < zs.length := by omega
    have hc := hcell i hi2
    refine ⟨x, rfl, ?_, ?_⟩
    · have := World.block_lt_of_cell? W _ hc
      rw [blockAdd] at this
      exact this
    · rw [u8s_at hi (by rw [List.length_take]; omega) (fun n hn => hwz n (List.mem_of_mem_take hn)), List.getElem_take, hc, List.getD_eq_getElem?_getD, List.getElem?_eq_getElem hi2]; rfl

theorem spotless {w : World} {x : Addr} {v : Value} (h : w.cell? x = some v) : x.spot = none ∧ x.block < w.heap.size := by
  unfold World.cell? at h
  split at h
  · rename_i c e p hb
    split at h
    · cases h
    · rename_i hs
      exact ⟨by simpa using hs, (Array.getElem?_eq_some_iff.1 hb).1⟩
  · cases h
/-- A slice of texts, as it is read. -/
theorem open_texts {H : Type} {enc : TypeId × Value → H} {W : World} {v : Value} {y : DataW H × List MemPlace} {b fuel : Nat} {g : Bool} (hf : DataW.trod enc Try.prog W b (fun _ => true) g fuel 23 [v] = some y) :
    ∃ (A : Option Addr) (l : List Nod.T) (c : Nat), v = .slice A l.length c ∧ Nod.Txs W W.heap.size A l ∧ l.length ≤ c ∧ l.length ≤ 9223372036854775807 := by
  rcases open_strings Try.underlying23 Try.underlying9 (by kernel_rfl) hf with ⟨hcs, _⟩ | ⟨x, len, c, ss, hcs, _, hl, hm, hz, _, hcell, _⟩
  · simp at hcs
    subst hcs
    exact ⟨none, [], 0, rfl, (fun i hi => by cases hi), Nat.le_refl _, by simp⟩
  · simp at hcs
    subst hcs
    have hz' : ss.length = c := by simpa using hz
    refine ⟨some x, (ss.take len).map (fun s => s.data.toList), c, by simp; omega, fun i hi => ?_, by simp; omega, by simp; unfold maxLen at hm; omega⟩
    have hi' : i < len := by simp at hi; omega
    have hi2 : i < ss.length := by omega
    have h0 := hcell 0 (by omega)
    have hc := hcell i hi2
    rw [show x.add 0 = x from rfl] at h0
    obtain ⟨bb, o, sp⟩ := x
    obtain ⟨hs', hlt⟩ := spotless h0
    simp only at hs' hlt
    subst hs'
    rw [Addr.add_lit] at hc
    refine ⟨bb, o, rfl, hlt, hc.trans ?_⟩
    rw [List.getElem_map, List.getElem_take, Chk.text_of, List.getD_eq_getElem?_getD, List.getElem?_eq_getElem hi2]; rfl
/-- A slice of kids, as it is read. -/
theorem open_kids {H : Type} {enc : TypeId × Value → H} {W : World} {v : Value} {y : DataW H × List MemPlace} {b fuel : Nat} {g : Bool} (hf : DataW.trod enc Try.prog W b (fun _ => true) g fuel 24 [v] = some y) :
    ∃ (A : Option Addr) (l : List Int) (c : Nat), v = .slice A l.length c ∧ Nod.Kds W W.heap.size A l ∧ l.length ≤ c ∧ l.length ≤ 9223372036854775807 := by
  rcases open_ints Try.underlying24 Try.underlying3 (by kernel_rfl) hf with ⟨hcs, _⟩ | ⟨x, len, c, zs, hcs, _, hl, hm, hz, _, hcell, hwz⟩
  · simp at hcs
    subst hcs
    exact ⟨none, [], 0, rfl, (fun i hi => by cases hi), Nat.le_refl _, by simp⟩
  · simp at hcs
    subst hcs
    have hz' : zs.length = c := by simpa using hz
    refine ⟨some x, zs.take len, c, by simp; omega, fun i hi => ?_, by simp; omega, by simp; unfold maxLen at hm; omega⟩
    have hi' : i < len := by simp at hi; omega
    have hi2 : i < zs.length := by omega
    have h0 := hcell 0 (by omega)
    have hc := hcell i hi2
    rw [show x.add 0 = x from rfl] at h0
    obtain ⟨bb, o, sp⟩ := x
    obtain ⟨hs', hlt⟩ := spotless h0
    simp only at hs' hlt
    subst hs'
    rw [Addr.add_lit] at hc
    have e : (zs.take len)[i] = zs[i] := List.getElem_take
    refine ⟨bb, o, rfl, hlt, hc.trans ?_, by rw [e]; exact (i64_of (hwz _ (List.getElem_mem hi2))).1, by rw [e]; exact (i64_of (hwz _ (List.getElem_mem hi2))).2⟩
    rw [e, List.getD_eq_getElem?_getD, List.getElem?_eq_getElem hi2]; rfl
/-- A slice of pairs, as it is read. -/
theorem open_pairs {H : Type} {enc : TypeId × Value → H} {W : World} {v : Value} {y : DataW H × List MemPlace} {b fuel : Nat} {g : Bool} (hf : DataW.trod enc Try.prog W b (fun _ => true) g fuel 22 [v] = some y) :
    ∃ (A : Option Addr) (l : List (Nod.T × Nod.T)) (c : Nat), v = .slice A l.length c ∧ Nod.Prs W W.heap.size A l ∧ l.length ≤ c ∧ l.length ≤ 9223372036854775807 := by
  rcases Go.Deep.open_slice_pairs Try.underlying22 Try.underlying49 (by kernel_rfl) rfl rfl (by kernel_rfl) (by kernel_rfl) hf with ⟨hcs, _⟩ | ⟨x, len, c, m, n, V0, V1, D0, D1, Q0, Q1, hcs, _, hl, hm, hmm, rfl, hx⟩
  · simp at hcs
    subst hcs
    exact ⟨none, [], 0, rfl, (fun i hi => by cases hi), Nat.le_refl _, by simp⟩
  · simp at hcs
    subst hcs
    simp only [if_true] at hmm
    subst hmm
    have key : ∀ i : Nat, ∃ q : Nod.T × Nod.T, i < len → V0 i = .string (Chk.text q.1) ∧ V1 i = .string (Chk.text q.2) := fun i => by
      by_cases hi : i < len
      · obtain ⟨_, _, t0, t1⟩ := hx i (by omega)
        obtain ⟨s0, e0, _, _⟩ := DataW.trod_string Try.underlying9 t0
        obtain ⟨s1, e1, _, _⟩ := DataW.trod_string Try.underlying9 t1
        exact ⟨(s0.data.toList, s1.data.toList), fun _ => ⟨by rw [Chk.text_of]; simpa using e0, by rw [Chk.text_of]; simpa using e1⟩⟩
      · exact ⟨([], []), fun h => absurd h hi⟩
    let q : Nat → Nod.T × Nod.T := fun i => (key i).choose
    have hq := fun i => (key i).choose_spec
    refine ⟨some x, (List.range len).map q, m, by simp, fun i hi => ?_, by simpa using hl, by simp; unfold maxLen at hm; omega⟩
    have hi' : i < len := by simpa using hi
    have e : ((List.range len).map q)[i] = q i := by simp
    rw [e]
    obtain ⟨e0, e1⟩ := hq i hi'
    obtain ⟨g0, g1, _, _⟩ := hx i (by omega)
    obtain ⟨z0, _, _, _⟩ := hx 0 (by omega)
    rw [Nat.zero_mul, show x.add 0 = x from rfl] at z0
    obtain ⟨bb, o, sp⟩ := x
    obtain ⟨hs', hlt⟩ := spotless z0
    simp only at hs' hlt
    subst hs'
    rw [Addr.add_lit] at g0 g1
    exact ⟨bb, o, rfl, hlt, g0.trans (by rw [e0]), by rw [Nat.add_assoc]; exact g1.trans (by rw [e1])⟩
theorem three_of {cs : Array Value} (h : cs.size = 3) : ∃ a b c, cs = #[a, b, c] := by
  obtain ⟨l⟩ := cs
  match l, h with
  | [a, b, c], _ => exact ⟨a, b, c, rfl⟩
/-- A node, as it is read. -/
theorem open_node {H : Type} {enc : TypeId × Value → H} {W : World} {r : Reach} {b0 : Nat} {v : Value} {d : DataW H} {p : List MemPlace} {b : Nat} {g : Bool} (hval : Value.okWide Try.prog W r b0 26 v)
    (h : DataW.Trod enc Try.prog W b (fun _ => true) g 26 v d p) : ∃ (n : Nod.Nd) (A1 : Option Addr) (n1 c1 : Nat) (A2 : Option Addr) (n2 c2 : Nat) (A3 : Option Addr) (n3 c3 : Nat), v = Nod.nv A1 n1 c1 A2 n2 c2 A3 n3 c3 ∧ Nod.IsN W W.heap.size n A1 n1 c1 A2 n2 c2 A3 n3 c3 := by
  obtain ⟨cs, rfl, hsz⟩ := okWide_struct Try.underlying26 hval
  obtain ⟨a0, a1, a2, rfl⟩ := three_of (hsz.trans (by kernel_rfl))
  obtain ⟨fuel, hf⟩ := h
  obtain ⟨y0, y1, y2, n, _, _, t0, t1, t2⟩ := Go.Deep.trod_struct3 Try.underlying26 hf
  have c22 : Try.prog.cellsOf 22 = 1 := by kernel_rfl
  have c23 : Try.prog.cellsOf 23 = 1 := by kernel_rfl
  have c24 : Try.prog.cellsOf 24 = 1 := by kernel_rfl
  obtain ⟨A1, l1, c1, e1, h1, r1, m1⟩ := open_pairs (v := a0) (y := y0) (by simpa [Value.cells, c22] using t0)
  obtain ⟨A2, l2, c2, e2, h2, r2, m2⟩ := open_texts (v := a1) (y := y1) (by simpa [Value.cells, c23] using t1)
  obtain ⟨A3, l3, c3, e3, h3, r3, m3⟩ := open_kids (v := a2) (y := y2) (by simpa [Value.cells, c24] using t2)
  subst e1 e2 e3
  exact ⟨⟨l1, l2, l3⟩, A1, l1.length, c1, A2, l2.length, c2, A3, l3.length, c3, rfl, h1, h2, h3, rfl, rfl, rfl, r1, r2, r3, m1, m2, m3⟩
end Go.Proofs.Ytckbehojcjhcgaa
