/- How a frame, and slices of frames, are read. Conditions: none. -/
import Derived.Test.YtckgfbpgomkpnaaFrame
import Derived.Deep.Strs
import Derived.Deep.SlicePairs
namespace Go.Proofs.Ytckgfbpgomkpnaa
open Go.ChangeShapes Go.WideShapes Go.ChangeAt Go.RowKit Chk

theorem two_of {α : Type} {cs : Array α} (h : cs.size = 2) : ∃ a b, cs = #[a, b] := by
  obtain ⟨l⟩ := cs
  match l, h with
  | [a, b], _ => exact ⟨a, b, rfl⟩
theorem octs_cell {H : Type} {enc : TypeId × Value → H} {W : World} {v : Value} {y : DataW H × List MemPlace} {b fuel : Nat} {g : Bool} (hf : DataW.trod enc Try.prog W b (fun _ => true) g fuel 22 [v] = some y) :
    ∃ A l c, v = .slice A l.length c ∧ Octs W W.heap.size A l ∧ l.length ≤ c ∧ c ≤ maxLen := by
  rcases open_ints Try.underlying22 Try.underlying5 (by kernel_rfl) hf with ⟨hcs, _⟩ | ⟨x, l, c, zs, hcs, _, hl, hm, hz, _, hcell, hwz⟩
  · simp at hcs
    subst hcs
    exact ⟨none, [], 0, rfl, (fun i hi => by cases hi), Nat.le_refl _, Nat.zero_le _⟩
  · simp at hcs
    subst hcs
    have hz' : zs.length = c := by simpa using hz
    have hlen : (u8s (zs.take l)).length = l := by simp [u8s]; omega
    refine ⟨some x, u8s (zs.take l), c, by rw [hlen], fun i hi => ?_, by omega, hm⟩
    have hi2 : i < zs.length := by omega
    have hc := hcell i hi2
    refine ⟨x, rfl, ?_, ?_⟩
    · have := World.block_lt_of_cell? W _ hc
      rw [blockAdd] at this
      exact this
    · rw [u8s_at hi (by rw [List.length_take]; omega) (fun n hn => hwz n (List.mem_of_mem_take hn)), List.getElem_take, hc, List.getD_eq_getElem?_getD, List.getElem?_eq_getElem hi2]; rfl
/-- A frame, as it is read. -/
theorem open_frame {H : Type} {enc : TypeId × Value → H} {W : World} {r : Reach} {b0 : Nat} {v : Value} {d : DataW H} {p : List MemPlace} {b : Nat} {g : Bool} (hval : Value.okWide Try.prog W r b0 24 v)
    (h : DataW.Trod enc Try.prog W b (fun _ => true) g 24 v d p) : ∃ (s : Int) (A : Option Addr) (l : List UInt8) (c : Nat), v = .agg #[.int .i64 s, .slice A l.length c] ∧ Octs W W.heap.size A l ∧ l.length ≤ c ∧ c ≤ maxLen ∧ -9223372036854775808 ≤ s ∧ s ≤ 9223372036854775807 := by
  have c3 : Try.prog.cellsOf 3 = 1 := by kernel_rfl
  have c22 : Try.prog.cellsOf 22 = 1 := by kernel_rfl
  obtain ⟨cs, rfl, hsz⟩ := okWide_struct Try.underlying24 hval
  obtain ⟨a0, a1, rfl⟩ := two_of (hsz.trans (by kernel_rfl))
  obtain ⟨fuel, hf⟩ := h
  obtain ⟨xs, n, _, _, _, hlen, hall⟩ := DataW.trod_struct Try.underlying24 hf
  have hx : xs.length = 2 := hlen
  have h0 : DataW.trod enc Try.prog W b (fun _ => true) g n 3 [a0] = xs[0]? := by have := hall 0 _ rfl; simpa [Value.cells, c3, c22] using this
  have h1 : DataW.trod enc Try.prog W b (fun _ => true) g n 22 [a1] = xs[1]? := by have := hall 1 _ rfl; simpa [Value.cells, c3, c22] using this
  obtain ⟨z, hz, _, hw⟩ := DataW.trod_int Try.underlying3 (h0.trans (List.getElem?_eq_getElem (by omega)))
  obtain ⟨A, l, c, rfl, ho, hlc, hcm⟩ := octs_cell (h1.trans (List.getElem?_eq_getElem (by omega)))
  have hr : -9223372036854775808 ≤ z ∧ z ≤ 9223372036854775807 := by simpa [Lit.wf, IntKind.min, IntKind.max, IntKind.signed, IntKind.bits] using hw
  have hz' : a0 = .int .i64 z := by simpa using hz
  subst hz'
  exact ⟨z, A, l, c, rfl, ho, hlc, hcm, hr.1, hr.2⟩
end Go.Proofs.Ytckgfbpgomkpnaa
