/- How the argument of DiskApart is read. Conditions: none. -/
import Derived.Test.YtopklkkhddpglaaFrame
import Derived.Deep.Strs
namespace Go.Proofs.Ytopklkkhddpglaa
open Go.ChangeShapes Go.WideShapes Go.ChangeAt Go.RowKit

theorem five_of {α : Type} {cs : Array α} (h : cs.size = 5) : ∃ a b c d e, cs = #[a, b, c, d, e] := by
  obtain ⟨l⟩ := cs
  match l, h with
  | [a, b, c, d, e], _ => exact ⟨a, b, c, d, e, rfl⟩
/-- Five octets in a struct, as they are read. -/
theorem open_apart {H : Type} {enc : TypeId × Value → H} {W : World} {r : Reach} {b0 : Nat} {v : Value} {d : DataW H} {p : List MemPlace} {b : Nat} {g : Bool} (hval : Value.okWide Try.prog W r b0 47 v)
    (h : DataW.Trod enc Try.prog W b (fun _ => true) g 47 v d p) : ∃ m0 m1 m2 m3 m4 : Nat, v = .agg #[.int .u8 m0, .int .u8 m1, .int .u8 m2, .int .u8 m3, .int .u8 m4] ∧ m0 < 256 ∧ m1 < 256 ∧ m2 < 256 ∧ m3 < 256 ∧ m4 < 256 := by
  have c5 : Try.prog.cellsOf 5 = 1 := by kernel_rfl
  obtain ⟨cs, rfl, hsz⟩ := okWide_struct Try.underlying47 hval
  obtain ⟨a0, a1, a2, a3, a4, rfl⟩ := five_of (hsz.trans (by kernel_rfl))
  obtain ⟨fuel, hf⟩ := h
  obtain ⟨xs, n, _, _, _, hlen, hall⟩ := DataW.trod_struct Try.underlying47 hf
  have hx : xs.length = 5 := hlen
  have one : ∀ (i : Nat) (hi : i < xs.length) (c : Value), DataW.trod enc Try.prog W b (fun _ => true) g n 5 [c] = xs[i]? → ∃ m : Nat, c = .int .u8 m ∧ m < 256 := fun i hi c hc => by
    obtain ⟨z, hz, _, hw⟩ := DataW.trod_int Try.underlying5 (hc.trans (List.getElem?_eq_getElem hi))
    obtain ⟨m, rfl, hm⟩ := nat_of_u8 hw
    exact ⟨m, by simpa using hz, hm⟩
  obtain ⟨m0, rfl, h0⟩ := one 0 (by omega) a0 (by have := hall 0 _ rfl; simpa [Value.cells, c5] using this)
  obtain ⟨m1, rfl, h1⟩ := one 1 (by omega) a1 (by have := hall 1 _ rfl; simpa [Value.cells, c5] using this)
  obtain ⟨m2, rfl, h2⟩ := one 2 (by omega) a2 (by have := hall 2 _ rfl; simpa [Value.cells, c5] using this)
  obtain ⟨m3, rfl, h3⟩ := one 3 (by omega) a3 (by have := hall 3 _ rfl; simpa [Value.cells, c5] using this)
  obtain ⟨m4, rfl, h4⟩ := one 4 (by omega) a4 (by have := hall 4 _ rfl; simpa [Value.cells, c5] using this)
  exact ⟨m0, m1, m2, m3, m4, rfl, h0, h1, h2, h3, h4⟩
end Go.Proofs.Ytopklkkhddpglaa
