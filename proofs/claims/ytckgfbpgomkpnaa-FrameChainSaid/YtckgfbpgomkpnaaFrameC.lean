/- How slices of frames are read. Conditions: none. -/
import Derived.Test.YtckgfbpgomkpnaaFrameB
import Derived.Test.YtckgfbpgomkpnaaMathC
namespace Go.Proofs.Ytckgfbpgomkpnaa
open Go.ChangeShapes Go.WideShapes Go.ChangeAt Go.RowKit Chk

theorem spotless {w : World} {x : Addr} {v : Value} (h : w.cell? x = some v) : x.spot = none ∧ x.block < w.heap.size := by
  unfold World.cell? at h
  split at h
  · rename_i c e p hb
    split at h
    · cases h
    · rename_i hs
      exact ⟨by simpa using hs, (Array.getElem?_eq_some_iff.1 hb).1⟩
  · cases h
theorem open_frames {H : Type} {enc : TypeId × Value → H} {W : World} {a : Option Addr} {len cap : Nat} {d : DataW H} {p : List MemPlace} {b : Nat} {g : Bool}
    (h : DataW.Trod enc Try.prog W b (fun _ => true) g 48 (.slice a len cap) d p) : ∃ V : List (Int × List UInt8), V.length = len ∧ Frames W W.heap.size a V ∧ len ≤ 9223372036854775807 := by
  obtain ⟨fuel, hf⟩ := h
  rcases Go.Deep.open_slice_pairs Try.underlying48 Try.underlying24 (by kernel_rfl) rfl rfl (by kernel_rfl) (by kernel_rfl) hf with ⟨hcs, _⟩ | ⟨x, l, c, m, n, V0, V1, D0, D1, Q0, Q1, hcs, _, hl, hm, hmm, _, hx⟩
  · simp [Value.cells] at hcs
    obtain ⟨rfl, rfl, rfl⟩ := hcs
    exact ⟨[], rfl, (fun i hi => by cases hi), by decide⟩
  · simp [Value.cells] at hcs
    obtain ⟨rfl, rfl, rfl⟩ := hcs
    simp only [if_true] at hmm
    subst hmm
    have key : ∀ i : Nat, ∃ q : Int × List UInt8, i < len → ∃ A' c', V0 i = .int .i64 q.1 ∧ V1 i = .slice A' q.2.length c' ∧ Octs W W.heap.size A' q.2 ∧ q.2.length ≤ c' ∧ c' ≤ maxLen := fun i => by
      by_cases hi : i < len
      · obtain ⟨_, _, t0, t1⟩ := hx i (by omega)
        obtain ⟨z, hz, _, hw⟩ := DataW.trod_int Try.underlying3 t0
        obtain ⟨A', l', c', hv, ho, hlc, hcm⟩ := octs_cell t1
        exact ⟨(z, l'), fun _ => ⟨A', c', by simpa using hz, hv, ho, hlc, hcm⟩⟩
      · exact ⟨(0, []), fun h => absurd h hi⟩
    let q : Nat → Int × List UInt8 := fun i => (key i).choose
    have hq := fun i => (key i).choose_spec
    refine ⟨(List.range len).map q, by simp, fun i hi => ?_, by unfold maxLen at hm; omega⟩
    have hi' : i < len := by simpa using hi
    have e : ((List.range len).map q)[i] = q i := by simp
    rw [e]
    obtain ⟨A', c', e0, e1, ho, hlc, hcm⟩ := hq i hi'
    obtain ⟨g0, g1, _, _⟩ := hx i (by omega)
    obtain ⟨z0, _, _, _⟩ := hx 0 (by omega)
    rw [Nat.zero_mul, show x.add 0 = x from rfl] at z0
    obtain ⟨bb, o, sp⟩ := x
    obtain ⟨hs, hlt⟩ := spotless z0
    simp only at hs hlt
    subst hs
    rw [Addr.add_lit] at g0 g1
    exact ⟨bb, o, A', c', rfl, hlt, g0.trans (by rw [e0]), by rw [Nat.add_assoc]; exact g1.trans (by rw [e1]), ho, hlc, (by unfold maxLen at hcm; omega)⟩
end Go.Proofs.Ytckgfbpgomkpnaa
