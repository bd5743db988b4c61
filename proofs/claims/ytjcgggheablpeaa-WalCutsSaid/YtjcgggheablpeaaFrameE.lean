/- How a slice of slices of truth values is read. Conditions: none. -/
import Derived.Test.YtjcgggheablpeaaFrameD
import Derived.Test.YtjcgggheablpeaaLawE
import Derived.Deep.Grids
namespace Go.Proofs.Ytjcgggheablpeaa
open Go.ChangeShapes Go.WideShapes Go.ChangeAt Go.RowKit Dis

theorem open_keeps {H : Type} {enc : TypeId × Value → H} {W : World} {a : Option Addr} {len cap : Nat} {d : DataW H} {p : List MemPlace} {b : Nat} {g : Bool}
    (h : DataW.Trod enc Try.prog W b (fun _ => true) g 61 (.slice a len cap) d p) : ∃ V : List (List Bool), V.length = len ∧ Wal.KeepsN W W.heap.size a V := by
  obtain ⟨fuel, hf⟩ := h
  rcases Go.Deep.open_bool_rows Try.underlying61 Try.underlying54 Try.underlying4 (by kernel_rfl) (by kernel_rfl) hf with ⟨hcs, _⟩ | ⟨x, l, c, A, Ln, C, Z, hcs, _, hl, hm, _, hr⟩
  · simp [Value.cells] at hcs
    obtain ⟨rfl, rfl, rfl⟩ := hcs
    exact ⟨[], rfl, fun i hi => by cases hi⟩
  · simp [Value.cells] at hcs
    obtain ⟨rfl, rfl, rfl⟩ := hcs
    refine ⟨(List.range len).map fun r => (List.range (Ln r)).map (Z r), by simp, fun i hi => ?_⟩
    have hi' : i < len := by simpa using hi
    obtain ⟨e1, r1, r2, r5, r6⟩ := hr i (by omega)
    obtain ⟨z0, _⟩ := hr 0 (by omega)
    rw [show x.add 0 = x from rfl] at z0
    obtain ⟨bb, o, sp⟩ := x
    obtain ⟨hs', hlt⟩ := spotless z0
    simp only at hs' hlt
    subst hs'
    rw [Addr.add_lit] at e1
    have e : ((List.range len).map fun r => (List.range (Ln r)).map (Z r))[i] = (List.range (Ln i)).map (Z i) := by simp
    rw [e]
    refine ⟨bb, o, A i, C i, rfl, hlt, by rw [e1]; simp, fun k hk => ?_⟩
    have hk' : k < Ln i := by simpa using hk
    rcases hA : A i with _ | a'
    · have := r5 hA; omega
    · have hc := (r6 a' hA).2 k (by omega)
      have h0 := (r6 a' hA).2 0 (by omega)
      rw [show a'.add 0 = a' from rfl] at h0
      obtain ⟨b2, o2, sp2⟩ := a'
      obtain ⟨hs2, hlt2⟩ := spotless h0
      simp only at hs2 hlt2
      subst hs2
      rw [Addr.add_lit] at hc
      refine ⟨b2, o2, rfl, hlt2, hc.trans ?_⟩
      simp
end Go.Proofs.Ytjcgggheablpeaa
