/- How a slice of slices of octets is read. Conditions: none. -/
import Derived.Test.YtjcgggheablpeaaFrame
import Derived.Test.YtjcgggheablpeaaLawB
namespace Go.Proofs.Ytjcgggheablpeaa
open Go.ChangeShapes Go.WideShapes Go.ChangeAt Go.RowKit Dis

theorem spotless {w : World} {x : Addr} {v : Value} (h : w.cell? x = some v) : x.spot = none ∧ x.block < w.heap.size := by
  unfold World.cell? at h
  split at h
  · rename_i c e p hb
    split at h
    · cases h
    · rename_i hs
      exact ⟨by simpa using hs, (Array.getElem?_eq_some_iff.1 hb).1⟩
  · cases h
theorem octs_lits {W : World} {A : Option Addr} {len cap : Nat} {Z : List Int} (hl : len ≤ cap) (hz : Z.length = cap) (hw : ∀ n ∈ Z, (Lit.int .u8 n).wf = true) (hn : A = none → cap = 0)
    (hc : ∀ a', A = some a' → ∀ c, c < cap → W.cell? (a'.add c) = some (.int .u8 (Z.getD c 0))) : Octs W W.heap.size A ((Z.take len).map fun n => n.toNat.toUInt8) ∧ ((Z.take len).map fun n => n.toNat.toUInt8).length = len := by
  have hlen : ((Z.take len).map fun n => n.toNat.toUInt8).length = len := by simp; omega
  refine ⟨fun i hi => ?_, hlen⟩
  rcases A with _ | a
  · have := hn rfl; omega
  · have hi2 : i < Z.length := by omega
    have h := hc a rfl i (by omega)
    have h0 := hc a rfl 0 (by omega)
    rw [show a.add 0 = a from rfl] at h0
    obtain ⟨b, o, sp⟩ := a
    obtain ⟨hs, hlt⟩ := spotless h0
    simp only at hs hlt
    subst hs
    rw [Addr.add_lit] at h
    refine ⟨b, o, rfl, hlt, h.trans ?_⟩
    obtain ⟨m, hm, hm2⟩ := nat_of_u8 (hw _ (List.getElem_mem hi2))
    rw [List.getElem_map, List.getElem_take, List.getD_eq_getElem?_getD, List.getElem?_eq_getElem hi2]
    simp only [Option.getD_some]
    rw [hm]
    simp
    omega
theorem open_rows {H : Type} {enc : TypeId × Value → H} {W : World} {a : Option Addr} {len cap : Nat} {d : DataW H} {p : List MemPlace} {b : Nat} {g : Bool}
    (h : DataW.Trod enc Try.prog W b (fun _ => true) g 22 (.slice a len cap) d p) : ∃ V : List (List UInt8), V.length = len ∧ Wal.RowsN W W.heap.size a V := by
  obtain ⟨fuel, hf⟩ := h
  rcases Go.Deep.open_int_rows Try.underlying22 Try.underlying28 Try.underlying5 (by kernel_rfl) (by kernel_rfl) hf with ⟨hcs, _⟩ | ⟨x, l, c, A, Ln, C, Z, hcs, _, hl, hm, _, hr⟩
  · simp [Value.cells] at hcs
    obtain ⟨rfl, rfl, rfl⟩ := hcs
    exact ⟨[], rfl, fun i hi => by cases hi⟩
  · simp [Value.cells] at hcs
    obtain ⟨rfl, rfl, rfl⟩ := hcs
    refine ⟨(List.range len).map fun r => ((Z r).take (Ln r)).map fun n => n.toNat.toUInt8, by simp, fun i hi => ?_⟩
    have hi' : i < len := by simpa using hi
    obtain ⟨e1, r1, r2, r3, r4, r5, r6⟩ := hr i (by omega)
    obtain ⟨z0, _⟩ := hr 0 (by omega)
    rw [show x.add 0 = x from rfl] at z0
    obtain ⟨hoc, hle⟩ := octs_lits r1 r3 r4 r5 (fun a' ha c hc => (r6 a' ha).2 c hc)
    obtain ⟨bb, o, sp⟩ := x
    obtain ⟨hs', hlt⟩ := spotless z0
    simp only at hs' hlt
    subst hs'
    rw [Addr.add_lit] at e1
    have e : ((List.range len).map fun r => ((Z r).take (Ln r)).map fun n => n.toNat.toUInt8)[i] = ((Z i).take (Ln i)).map fun n => n.toNat.toUInt8 := by simp
    rw [e]
    unfold maxLen at r2
    exact ⟨bb, o, A i, C i, rfl, hlt, by rw [hle]; exact e1, hoc, by rw [hle]; exact r1, by rw [hle]; omega⟩
theorem i8_of {n : Int} (h : (Lit.int .i8 n).wf = true) : -128 ≤ n ∧ n ≤ 127 := by
  simpa [Lit.wf, IntKind.min, IntKind.max, IntKind.signed, IntKind.bits] using h
theorem Wal.numbers_any2 (A : Option Addr) (V : List (List UInt8)) (c : Nat) (yb : Int) (cut : Nat) (w : World) (h : Wal.RowsN w w.heap.size A V) (hy : (Lit.int .i8 yb).wf = true) (hcut : cut < 256) :
    Calls Try.prog 8 #[.slice A V.length c, .int .i8 yb, .int .u8 cut] w fun e w' => e = .returned (.bool true) ∧ Below w.heap.size w w' :=
  Wal.numbers_any A V c yb cut w h (i8_of hy).1 (i8_of hy).2 hcut
end Go.Proofs.Ytjcgggheablpeaa
