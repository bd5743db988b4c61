/- How a slice of truth values is read. Conditions: none. -/
import Derived.Test.YtjcgggheablpeaaFrameB
import Derived.Test.YtjcgggheablpeaaLawC
namespace Go.Proofs.Ytjcgggheablpeaa
open Go.ChangeShapes Go.WideShapes Go.ChangeAt Go.RowKit Dis

theorem open_flags {H : Type} {enc : TypeId × Value → H} {W : World} {a : Option Addr} {len cap : Nat} {d : DataW H} {p : List MemPlace} {b : Nat} {g : Bool}
    (h : DataW.Trod enc Try.prog W b (fun _ => true) g 54 (.slice a len cap) d p) : ∃ l : List Bool, l.length = len ∧ Bools W W.heap.size a l := by
  obtain ⟨fuel, hf⟩ := h
  rcases Go.Deep.open_bools Try.underlying54 Try.underlying4 (by kernel_rfl) hf with ⟨hcs, _⟩ | ⟨x, l, c, B, hcs, _, hl, hm, _, hcell⟩
  · simp [Value.cells] at hcs
    obtain ⟨rfl, rfl, rfl⟩ := hcs
    exact ⟨[], rfl, (fun i hi => by cases hi)⟩
  · simp [Value.cells] at hcs
    obtain ⟨rfl, rfl, rfl⟩ := hcs
    refine ⟨(List.range len).map B, by simp, fun i hi => ?_⟩
    have hi' : i < len := by simpa using hi
    have hc := hcell i (by omega)
    have h0 := hcell 0 (by omega)
    rw [show x.add 0 = x from rfl] at h0
    obtain ⟨b, o, sp⟩ := x
    obtain ⟨hs, hlt⟩ := spotless h0
    simp only at hs hlt
    subst hs
    refine ⟨b, o, rfl, hlt, ?_⟩
    rw [Addr.add_lit] at hc
    rw [hc]
    simp
end Go.Proofs.Ytjcgggheablpeaa
