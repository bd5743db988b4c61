/- How a slice of records, and a slice of octets, are read. Conditions: none. -/
import Derived.Test.YtjcgggheablpeaaFrameC
import Derived.Deep.SlicePairs
namespace Go.Proofs.Ytjcgggheablpeaa
open Go.ChangeShapes Go.WideShapes Go.ChangeAt Go.RowKit Dis

theorem octs_cell {H : Type} {enc : TypeId × Value → H} {W : World} {v : Value} {y : DataW H × List MemPlace} {b fuel : Nat} {g : Bool} (hf : DataW.trod enc Try.prog W b (fun _ => true) g fuel 28 [v] = some y) :
    ∃ A l c, v = .slice A (List.length l) c ∧ Octs W W.heap.size A l ∧ l.length ≤ c ∧ c ≤ 9223372036854775807 := by
  rcases open_ints Try.underlying28 Try.underlying5 (by kernel_rfl) hf with ⟨hcs, _⟩ | ⟨x, l, c, zs, hcs, _, hl, hm, hz, _, hcell, hwz⟩
  · simp at hcs
    subst hcs
    exact ⟨none, [], 0, rfl, (fun i hi => by cases hi), Nat.le_refl _, by decide⟩
  · simp at hcs
    subst hcs
    have hz' : zs.length = c := by simpa using hz
    have ho := octs_lits (W := W) (A := some x) hl hz' hwz (fun e => by cases e) (fun a' ha k hk => by cases ha; exact hcell k (by omega))
    unfold maxLen at hm
    exact ⟨some x, _, c, by rw [ho.2], ho.1, by rw [ho.2]; exact hl, hm⟩
theorem open_octs {H : Type} {enc : TypeId × Value → H} {W : World} {a : Option Addr} {len cap : Nat} {d : DataW H} {p : List MemPlace} {b : Nat} {g : Bool}
    (h : DataW.Trod enc Try.prog W b (fun _ => true) g 28 (.slice a len cap) d p) : ∃ l : List UInt8, l.length = len ∧ (Octs W W.heap.size a l ∧ l.length ≤ cap) := by
  obtain ⟨fuel, hf⟩ := h
  have hf' : DataW.trod enc Try.prog W b (fun _ => true) g fuel 28 [.slice a len cap] = some (d, p) := by simpa [Value.cells] using hf
  obtain ⟨A, l, c, e, ho, hc, _⟩ := octs_cell hf'
  injection e with e1 e2 e3
  subst e1 e2 e3
  exact ⟨l, rfl, ho, hc⟩
/-- A row of records, of whatever length each. -/
def FramesN (w : World) (B : Nat) (A : Option Addr) (V : Dk.Ws) : Prop :=
  ∀ (i : Nat) (hi : i < V.length), ∃ b o A' c, A = some ⟨b, o, none⟩ ∧ b < B ∧ w.cell? ⟨b, o + i * 2, none⟩ = some (.int .i64 V[i].1) ∧ w.cell? ⟨b, o + i * 2 + 1, none⟩ = some (.slice A' V[i].2.length c) ∧ Octs w B A' V[i].2 ∧ V[i].2.length ≤ c ∧ V[i].2.length ≤ 9223372036854775807 ∧ -9223372036854775808 ≤ V[i].1 ∧ V[i].1 ≤ 9223372036854775807
theorem open_frames {H : Type} {enc : TypeId × Value → H} {W : World} {a : Option Addr} {len cap : Nat} {d : DataW H} {p : List MemPlace} {b : Nat} {g : Bool}
    (h : DataW.Trod enc Try.prog W b (fun _ => true) g 43 (.slice a len cap) d p) : ∃ V : Dk.Ws, V.length = len ∧ FramesN W W.heap.size a V := by
  obtain ⟨fuel, hf⟩ := h
  rcases Go.Deep.open_slice_pairs Try.underlying43 Try.underlying58 (by kernel_rfl) rfl rfl (by kernel_rfl) (by kernel_rfl) hf with ⟨hcs, _⟩ | ⟨x, l, c, m, n, V0, V1, D0, D1, Q0, Q1, hcs, _, hl, _, hmm, _, hx⟩
  · simp [Value.cells] at hcs
    obtain ⟨rfl, rfl, rfl⟩ := hcs
    exact ⟨[], rfl, fun i hi => by cases hi⟩
  · simp [Value.cells] at hcs
    obtain ⟨rfl, rfl, rfl⟩ := hcs
    simp only [if_true] at hmm
    subst hmm
    have key : ∀ i : Nat, ∃ q : Int × List UInt8, i < len → ∃ A' c', V0 i = .int .i64 q.1 ∧ V1 i = .slice A' q.2.length c' ∧ Octs W W.heap.size A' q.2 ∧ q.2.length ≤ c' ∧ q.2.length ≤ 9223372036854775807 ∧ -9223372036854775808 ≤ q.1 ∧ q.1 ≤ 9223372036854775807 := fun i => by
      by_cases hi : i < len
      · obtain ⟨_, _, t0, t1⟩ := hx i (by omega)
        obtain ⟨z, hz, _, hw⟩ := DataW.trod_int Try.underlying3 t0
        obtain ⟨A', l', c', hv, ho, hlc, hcm⟩ := octs_cell t1
        have hr := i64_of hw
        exact ⟨(z, l'), fun _ => ⟨A', c', by simpa using hz, hv, ho, hlc, by simp only; omega, hr.1, hr.2⟩⟩
      · exact ⟨(0, []), fun h => absurd h hi⟩
    let q : Nat → Int × List UInt8 := fun i => (key i).choose
    have hq := fun i => (key i).choose_spec
    refine ⟨(List.range len).map q, by simp, fun i hi => ?_⟩
    have hi' : i < len := by simpa using hi
    have e : ((List.range len).map q)[i] = q i := by simp
    rw [e]
    obtain ⟨A', c', e0, e1, ho, hlc, hcm, r1, r2⟩ := hq i hi'
    obtain ⟨g0, g1, _, _⟩ := hx i (by omega)
    obtain ⟨z0, _, _, _⟩ := hx 0 (by omega)
    rw [Nat.zero_mul, show x.add 0 = x from rfl] at z0
    obtain ⟨bb, o, sp⟩ := x
    obtain ⟨hs', hlt⟩ := spotless z0
    simp only at hs' hlt
    subst hs'
    rw [Addr.add_lit] at g0 g1
    exact ⟨bb, o, A', c', rfl, hlt, g0.trans (by rw [e0]), by rw [Nat.add_assoc]; exact g1.trans (by rw [e1]), ho, hlc, hcm, r1, r2⟩
end Go.Proofs.Ytjcgggheablpeaa
