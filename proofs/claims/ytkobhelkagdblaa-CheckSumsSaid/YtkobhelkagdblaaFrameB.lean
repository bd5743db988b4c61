/- How a slice of slices of octets is read. Conditions: none. -/
import Derived.Test.YtkobhelkagdblaaFrame
import Derived.Test.YtkobhelkagdblaaLawC
namespace Go.Proofs.Ytkobhelkagdblaa
open Go.ChangeShapes Go.WideShapes Go.ChangeAt Go.RowKit

theorem octs_ints {W : World} {A : Option Addr} {len cap : Nat} {Z : List Int} (hl : len ≤ cap) (hz : Z.length = cap) (hw : ∀ n ∈ Z, (Lit.int .u8 n).wf = true) (hn : A = none → cap = 0)
    (hc : ∀ a', A = some a' → ∀ c, c < cap → W.cell? (a'.add c) = some (.int .u8 (Z.getD c 0))) : Octs W W.heap.size A (u8s (Z.take len)) ∧ (u8s (Z.take len)).length = len := by
  have hlen : (u8s (Z.take len)).length = len := by simp [u8s]; omega
  refine ⟨fun i hi => ?_, hlen⟩
  rcases A with _ | a
  · have := hn rfl; omega
  · have hi2 : i < Z.length := by omega
    have h := hc a rfl i (by omega)
    refine ⟨a, rfl, ?_, ?_⟩
    · have := World.block_lt_of_cell? W _ h
      rw [blockAdd] at this
      exact this
    · rw [u8s_at hi (by rw [List.length_take]; omega) (fun n hn => hw n (List.mem_of_mem_take hn)), List.getElem_take, h, List.getD_eq_getElem?_getD, List.getElem?_eq_getElem hi2]; rfl
theorem open_rows2 {H : Type} {enc : TypeId × Value → H} {W : World} {a : Option Addr} {len cap : Nat} {d : DataW H} {p : List MemPlace} {b : Nat} {g : Bool}
    (h : DataW.Trod enc Try.prog W b (fun _ => true) g 22 (.slice a len cap) d p) : ∃ A L C, Rows2 W a len A L C := by
  obtain ⟨fuel, hf⟩ := h
  rcases Go.Deep.open_int_rows Try.underlying22 Try.underlying23 Try.underlying5 (by kernel_rfl) (by kernel_rfl) hf with ⟨hcs, _⟩ | ⟨x, l, c, A, Ln, C, Z, hcs, _, hl, hm, _, hr⟩
  · simp [Value.cells] at hcs
    obtain ⟨rfl, rfl, rfl⟩ := hcs
    exact ⟨fun _ => none, fun _ => [], fun _ => 0, ⟨fun r hr => absurd hr (by omega), fun r hr => absurd hr (by omega), fun r hr => absurd hr (by omega), fun r hr => absurd hr (by omega)⟩⟩
  · simp [Value.cells] at hcs
    obtain ⟨rfl, rfl, rfl⟩ := hcs
    have each : ∀ r, r < len → Octs W W.heap.size (A r) (u8s ((Z r).take (Ln r))) ∧ (u8s ((Z r).take (Ln r))).length = Ln r := fun r hlt => by
      obtain ⟨_, r1, _, r3, r4, r5, r6⟩ := hr r (by omega)
      exact octs_ints r1 r3 r4 r5 (fun a' ha c hc => (r6 a' ha).2 c hc)
    refine ⟨A, fun r => u8s ((Z r).take (Ln r)), C, ⟨fun r hlt => ?_, fun r hlt => (each r hlt).1, fun r hlt => ?_, fun r hlt => ?_⟩⟩
    · obtain ⟨e1, _⟩ := hr r (by omega)
      refine ⟨x, rfl, ?_, ?_⟩
      · have := World.block_lt_of_cell? W _ e1
        rw [blockAdd] at this
        exact this
      · rw [(each r hlt).2]; exact e1
    · obtain ⟨_, r1, _⟩ := hr r (by omega)
      rw [(each r hlt).2]; exact r1
    · obtain ⟨_, r1, r2, _⟩ := hr r (by omega)
      rw [(each r hlt).2]
      unfold maxLen at r2
      omega
end Go.Proofs.Ytkobhelkagdblaa
