/- What each law's proof of the tree package shares: how its arguments are read, and small closed facts. Conditions: none. -/
import Derived.Test.YteeeomcdknjolaaRows
import Derived.Test.YteeeomcdknjolaaTG
import Derived.WalkKit
import Derived.ProofKit
import Derived.OpenShut
import Derived.JoinedCond
import Derived.Below
import Derived.Deep.Matrix
import Derived.SliceStrings
import Derived.Deep.SlicePairs
import Derived.Deep.Strs
namespace Go.Proofs.Yteeeomcdknjolaa
open Go.ChangeShapes Go.WideShapes Go.ChangeAt Go.RowKit Chk

theorem own : ownKnob Try.prog.godebug = none := by kernel_rfl
theorem laidOut : laidOutB Try.prog = true := by kernel_rfl
theorem nat_of_u16 {n : Int} (h : (Lit.int .u16 n).wf = true) : ∃ m : Nat, n = m ∧ m < 65536 := by
  have : 0 ≤ n ∧ n ≤ 65535 := by simpa [Lit.wf, IntKind.min, IntKind.max, IntKind.signed, IntKind.bits] using h
  exact ⟨n.toNat, by omega, by omega⟩
theorem text_data (s : ByteArray) : text s.data.toList = s := by
  apply ByteArray.ext
  simp [text]
theorem spotless {w : World} {x : Addr} {v : Value} (h : w.cell? x = some v) : x.spot = none ∧ x.block < w.heap.size := by
  unfold World.cell? at h
  split at h
  · rename_i c e p hb
    split at h
    · cases h
    · rename_i hs
      exact ⟨by simpa using hs, (Array.getElem?_eq_some_iff.1 hb).1⟩
  · cases h
/-- A slice of pairs, as it is read. -/
theorem open_pairs {H : Type} {enc : TypeId × Value → H} {W : World} {v : Value} {y : DataW H × List MemPlace} {b fuel : Nat} {g : Bool} (hf : DataW.trod enc Try.prog W b (fun _ => true) g fuel 22 [v] = some y) :
    ∃ (A : Option Addr) (l : List (Nod.T × Nod.T)) (c : Nat), v = .slice A l.length c ∧ Nod.Prs W W.heap.size A l ∧ l.length ≤ c ∧ l.length ≤ 9223372036854775807 := by
  rcases Go.Deep.open_slice_pairs Try.underlying22 Try.underlying49 (by kernel_rfl) rfl rfl (by kernel_rfl) (by kernel_rfl) hf with ⟨hcs, _⟩ | ⟨x, len, c, m, n, V0, V1, D0, D1, Q0, Q1, hcs, _, hl, hm, hmm, rfl, hx⟩
  · simp at hcs
    subst hcs
    exact ⟨none, [], 0, rfl, (fun i hi => by cases hi), Nat.le_refl _, by simp⟩
  · simp at hcs
    subst hcs
    simp only [if_true] at hmm
    subst hmm
    have key : ∀ i : Nat, ∃ q : Nod.T × Nod.T, i < len → V0 i = .string (Chk.text q.1) ∧ V1 i = .string (Chk.text q.2) := fun i => by
      by_cases hi : i < len
      · obtain ⟨_, _, t0, t1⟩ := hx i (by omega)
        obtain ⟨s0, e0, _, _⟩ := DataW.trod_string Try.underlying9 t0
        obtain ⟨s1, e1, _, _⟩ := DataW.trod_string Try.underlying9 t1
        exact ⟨(s0.data.toList, s1.data.toList), fun _ => ⟨by rw [text_data]; simpa using e0, by rw [text_data]; simpa using e1⟩⟩
      · exact ⟨([], []), fun h => absurd h hi⟩
    let q : Nat → Nod.T × Nod.T := fun i => (key i).choose
    have hq := fun i => (key i).choose_spec
    refine ⟨some x, (List.range len).map q, m, by simp, fun i hi => ?_, by simpa using hl, by simp; unfold maxLen at hm; omega⟩
    have hi' : i < len := by simpa using hi
    have e : ((List.range len).map q)[i] = q i := by simp
    rw [e]
    obtain ⟨e0, e1⟩ := hq i hi'
    obtain ⟨g0, g1, _, _⟩ := hx i (by omega)
    obtain ⟨z0, _, _, _⟩ := hx 0 (by omega)
    rw [Nat.zero_mul, show x.add 0 = x from rfl] at z0
    obtain ⟨bb, o, sp⟩ := x
    obtain ⟨hs', hlt⟩ := spotless z0
    simp only at hs' hlt
    subst hs'
    rw [Addr.add_lit] at g0 g1
    exact ⟨bb, o, rfl, hlt, g0.trans (by rw [e0]), by rw [Nat.add_assoc]; exact g1.trans (by rw [e1])⟩
/-- The same, at a parameter. -/
theorem open_prs {H : Type} {enc : TypeId × Value → H} {W : World} {a : Option Addr} {len cap : Nat} {d : DataW H} {p : List MemPlace} {b : Nat} {g : Bool}
    (h : DataW.Trod enc Try.prog W b (fun _ => true) g 22 (.slice a len cap) d p) : ∃ l : List (Nod.T × Nod.T), l.length = len ∧ Nod.Prs W W.heap.size a l ∧ len ≤ cap ∧ len ≤ 9223372036854775807 := by
  obtain ⟨fuel, hf⟩ := h
  obtain ⟨A, l, c, e, h1, h2, h3⟩ := open_pairs (v := .slice a len cap) (by simpa [Value.cells] using hf)
  injection e with e1 e2 e3
  subst e1 e2 e3
  exact ⟨l, rfl, h1, h2, h3⟩
end Go.Proofs.Yteeeomcdknjolaa
