/- How the arguments of DiskKeeps are read: writes, whatever they ask. Conditions: none. -/
import Derived.Test.YtopklkkhddpglaaFrame
import Derived.Test.YtopklkkhddpglaaW24
import Derived.Deep.SlicePairs
namespace Go.Proofs.Ytopklkkhddpglaa
open Go.ChangeShapes Go.WideShapes Go.ChangeAt Go.RowKit

def u8s (zs : List Int) : List UInt8 := zs.map fun z => UInt8.ofNat z.toNat
theorem octs_cell {H : Type} {enc : TypeId × Value → H} {W : World} {v : Value} {y : DataW H × List MemPlace} {b fuel : Nat} {g : Bool} (hf : DataW.trod enc Try.prog W b (fun _ => true) g fuel 38 [v] = some y) :
    ∃ A l c, v = .slice A l.length c ∧ Octs W W.heap.size A l ∧ l.length ≤ c ∧ c ≤ maxLen := by
  rcases open_ints Try.underlying38 Try.underlying5 (by kernel_rfl) hf with ⟨hcs, _⟩ | ⟨x, l, c, zs, hcs, _, hl, hm, hz, _, hcell, hwz⟩
  · simp at hcs
    subst hcs
    exact ⟨none, [], 0, rfl, (fun i hi => by cases hi), Nat.le_refl _, Nat.zero_le _⟩
  · simp at hcs
    subst hcs
    have hz' : zs.length = c := by simpa using hz
    have hlen : (u8s (zs.take l)).length = l := by simp [u8s]; omega
    refine ⟨some x, u8s (zs.take l), c, by rw [hlen], fun i hi => ?_, by omega, hm⟩
    have hi0 : i < l := by omega
    have hi2 : i < zs.length := by omega
    have hc := hcell i hi2
    have h0 := hcell 0 (by omega)
    rw [show x.add 0 = x from rfl] at h0
    obtain ⟨bb, o, sp⟩ := x
    obtain ⟨hs, hlt⟩ := spotless h0
    simp only at hs hlt
    subst hs
    refine ⟨bb, o, rfl, hlt, ?_⟩
    rw [Addr.add_lit] at hc
    rw [hc]
    obtain ⟨m, hm1, hm2⟩ := nat_of_u8 (hwz zs[i] (List.getElem_mem hi2))
    have e : (u8s (zs.take l))[i] = UInt8.ofNat zs[i].toNat := by simp [u8s]
    rw [e, UInt8.toNat_ofNat', List.getD_eq_getElem?_getD, List.getElem?_eq_getElem hi2]
    simp only [Option.getD_some]
    congr 2
    omega
theorem open_asks {H : Type} {enc : TypeId × Value → H} {W : World} {a : Option Addr} {len cap : Nat} {d : DataW H} {p : List MemPlace} {b : Nat} {g : Bool}
    (h : DataW.Trod enc Try.prog W b (fun _ => true) g 23 (.slice a len cap) d p) : ∃ V : Dk.Ws, V.length = len ∧ Asks W W.heap.size a V := by
  obtain ⟨fuel, hf⟩ := h
  rcases Go.Deep.open_slice_pairs Try.underlying23 Try.underlying40 (by kernel_rfl) rfl rfl (by kernel_rfl) (by kernel_rfl) hf with ⟨hcs, _⟩ | ⟨x, l, c, m, n, V0, V1, D0, D1, Q0, Q1, hcs, _, hl, hm, hmm, _, hx⟩
  · simp [Value.cells] at hcs
    obtain ⟨rfl, rfl, rfl⟩ := hcs
    exact ⟨[], rfl, (fun i hi => by cases hi)⟩
  · simp [Value.cells] at hcs
    obtain ⟨rfl, rfl, rfl⟩ := hcs
    simp only [if_true] at hmm
    subst hmm
    have key : ∀ i : Nat, ∃ q : Int × List UInt8, i < len → ∃ A' c', V0 i = .int .i64 q.1 ∧ V1 i = .slice A' q.2.length c' ∧ Octs W W.heap.size A' q.2 ∧ q.2.length ≤ c' ∧ c' ≤ maxLen ∧ -9223372036854775808 ≤ q.1 ∧ q.1 ≤ 9223372036854775807 := fun i => by
      by_cases hi : i < len
      · obtain ⟨_, _, t0, t1⟩ := hx i (by omega)
        obtain ⟨z, hz, _, hw⟩ := DataW.trod_int Try.underlying3 t0
        obtain ⟨A', l', c', hv, ho, hlc, hcm⟩ := octs_cell t1
        have hr : -9223372036854775808 ≤ z ∧ z ≤ 9223372036854775807 := by simpa [Lit.wf, IntKind.min, IntKind.max, IntKind.signed, IntKind.bits] using hw
        exact ⟨(z, l'), fun _ => ⟨A', c', by simpa using hz, hv, ho, hlc, hcm, hr.1, hr.2⟩⟩
      · exact ⟨(0, []), fun h => absurd h hi⟩
    let q : Nat → Int × List UInt8 := fun i => (key i).choose
    have hq := fun i => (key i).choose_spec
    refine ⟨(List.range len).map q, by simp, fun i hi => ?_⟩
    have hi' : i < len := by simpa using hi
    have e : ((List.range len).map q)[i] = q i := by simp
    rw [e]
    obtain ⟨A', c', e0, e1, ho, hlc, hcm, r1, r2⟩ := hq i hi'
    obtain ⟨g0, g1, _, _⟩ := hx i (by omega)
    obtain ⟨z0, _, _, _⟩ := hx 0 (by omega)
    rw [Nat.zero_mul, show x.add 0 = x from rfl] at z0
    obtain ⟨bb, o, sp⟩ := x
    obtain ⟨hs, hlt⟩ := spotless z0
    simp only at hs hlt
    subst hs
    rw [Addr.add_lit] at g0 g1
    exact ⟨bb, o, A', c', rfl, hlt, g0.trans (by rw [e0]), by rw [Nat.add_assoc]; exact g1.trans (by rw [e1]), ho, hlc, (by unfold maxLen at hcm; omega), r1, r2⟩
end Go.Proofs.Ytopklkkhddpglaa
