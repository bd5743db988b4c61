/- What each law's proof of the disk package shares: how its arguments are read, and small closed facts. Conditions: none. -/
import Derived.Test.YtopklkkhddpglaaRows
import Derived.Test.YtopklkkhddpglaaW6
import Derived.WalkKit
import Derived.ProofKit
import Derived.OpenShut
import Derived.JoinedCond
import Derived.Below
import Derived.Deep.Matrix
import Derived.Deep.Grids
namespace Go.Proofs.Ytopklkkhddpglaa
open Go.ChangeShapes Go.WideShapes Go.ChangeAt Go.RowKit

theorem own : ownKnob Try.prog.godebug = none := by kernel_rfl
theorem laidOut : laidOutB Try.prog = true := by kernel_rfl
theorem nat_of_u8 {n : Int} (h : (Lit.int .u8 n).wf = true) : ∃ m : Nat, n = m ∧ m < 256 := by
  have : 0 ≤ n ∧ n ≤ 255 := by simpa [Lit.wf, IntKind.min, IntKind.max, IntKind.signed, IntKind.bits] using h
  exact ⟨n.toNat, by omega, by omega⟩
theorem spotless {w : World} {x : Addr} {v : Value} (h : w.cell? x = some v) : x.spot = none ∧ x.block < w.heap.size := by
  unfold World.cell? at h
  split at h
  · rename_i c e p hb
    split at h
    · cases h
    · rename_i hs
      exact ⟨by simpa using hs, (Array.getElem?_eq_some_iff.1 hb).1⟩
  · cases h
/-- A slice of truth values, as it is read. -/
theorem open_flags {H : Type} {enc : TypeId × Value → H} {W : World} {a : Option Addr} {len cap : Nat} {d : DataW H} {p : List MemPlace} {b : Nat} {g : Bool}
    (h : DataW.Trod enc Try.prog W b (fun _ => true) g 26 (.slice a len cap) d p) : ∃ l : List Bool, l.length = len ∧ Bools W W.heap.size a l := by
  obtain ⟨fuel, hf⟩ := h
  rcases Go.Deep.open_bools Try.underlying26 Try.underlying4 (by kernel_rfl) hf with ⟨hcs, _⟩ | ⟨x, l, c, B, hcs, _, hl, hm, _, hcell⟩
  · simp [Value.cells] at hcs
    obtain ⟨rfl, rfl, rfl⟩ := hcs
    exact ⟨[], rfl, (fun i hi => by cases hi)⟩
  · simp [Value.cells] at hcs
    obtain ⟨rfl, rfl, rfl⟩ := hcs
    refine ⟨(List.range len).map B, by simp, fun i hi => ?_⟩
    have hi' : i < len := by simpa using hi
    have hc := hcell i (by omega)
    have h0 := hcell 0 (by omega)
    rw [show x.add 0 = x from rfl] at h0
    obtain ⟨b, o, sp⟩ := x
    obtain ⟨hs, hlt⟩ := spotless h0
    simp only at hs hlt
    subst hs
    refine ⟨b, o, rfl, hlt, ?_⟩
    rw [Addr.add_lit] at hc
    rw [hc]
    simp
end Go.Proofs.Ytopklkkhddpglaa
