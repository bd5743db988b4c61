/- What each law's proof of the check package shares: how a slice of octets is read, and small closed facts. Conditions: none. -/
import Derived.Test.YtckgfbpgomkpnaaRows
import Derived.Test.YtckgfbpgomkpnaaW9
import Derived.WalkKit
import Derived.ProofKit
import Derived.OpenShut
import Derived.JoinedCond
import Derived.Below
import Derived.Deep.Matrix
namespace Go.Proofs.Ytckgfbpgomkpnaa
open Go.ChangeShapes Go.WideShapes Go.ChangeAt Go.RowKit Chk

theorem own : ownKnob Try.prog.godebug = none := by kernel_rfl
theorem laidOut : laidOutB Try.prog = true := by kernel_rfl
theorem nat_of_u64 {n : Int} (h : (Lit.int .u64 n).wf = true) : ∃ m : Nat, n = m ∧ m < 18446744073709551616 := by
  have : 0 ≤ n ∧ n ≤ 18446744073709551615 := by simpa [Lit.wf, IntKind.min, IntKind.max, IntKind.signed, IntKind.bits] using h
  exact ⟨n.toNat, by omega, by omega⟩
theorem nat_of_u32 {n : Int} (h : (Lit.int .u32 n).wf = true) : ∃ m : Nat, n = m ∧ m < 4294967296 := by
  have : 0 ≤ n ∧ n ≤ 4294967295 := by simpa [Lit.wf, IntKind.min, IntKind.max, IntKind.signed, IntKind.bits] using h
  exact ⟨n.toNat, by omega, by omega⟩
theorem nat_of_u8 {n : Int} (h : (Lit.int .u8 n).wf = true) : 0 ≤ n ∧ n ≤ 255 := by
  simpa [Lit.wf, IntKind.min, IntKind.max, IntKind.signed, IntKind.bits] using h
def u8s (zs : List Int) : List UInt8 := zs.map fun z => UInt8.ofNat z.toNat
theorem u8s_at {zs : List Int} {i : Nat} (hi : i < (u8s zs).length) (hi' : i < zs.length) (hw : ∀ n ∈ zs, (Lit.int .u8 n).wf = true) : ((u8s zs)[i].toNat : Int) = zs[i] := by
  have h := nat_of_u8 (hw zs[i] (List.getElem_mem hi'))
  have e : (u8s zs)[i] = UInt8.ofNat zs[i].toNat := List.getElem_map _
  rw [e, UInt8.toNat_ofNat']
  omega
/-- A slice of octets, as it is read. -/
theorem open_octs {H : Type} {enc : TypeId × Value → H} {W : World} {a : Option Addr} {len cap : Nat} {d : DataW H} {p : List MemPlace} {b : Nat} {g : Bool}
    (h : DataW.Trod enc Try.prog W b (fun _ => true) g 22 (.slice a len cap) d p) : ∃ l : List UInt8, l.length = len ∧ Octs W W.heap.size a l ∧ len ≤ cap ∧ cap ≤ maxLen := by
  obtain ⟨fuel, hf⟩ := h
  rcases open_ints Try.underlying22 Try.underlying5 (by kernel_rfl) hf with ⟨hcs, _⟩ | ⟨x, l, c, zs, hcs, _, hl, hm, hz, _, hcell, hwz⟩
  · simp [Value.cells] at hcs
    obtain ⟨rfl, rfl, rfl⟩ := hcs
    exact ⟨[], rfl, (fun i hi => by cases hi), Nat.le_refl _, Nat.zero_le _⟩
  · simp [Value.cells] at hcs
    obtain ⟨rfl, rfl, rfl⟩ := hcs
    have hz' : zs.length = cap := by simpa using hz
    have hlen : (u8s (zs.take len)).length = len := by simp [u8s]; omega
    refine ⟨u8s (zs.take len), hlen, fun i hi => ?_, hl, hm⟩
    have hi2 : i < zs.length := by omega
    have hc := hcell i hi2
    refine ⟨x, rfl, ?_, ?_⟩
    · have := World.block_lt_of_cell? W _ hc
      rw [blockAdd] at this
      exact this
    · rw [u8s_at hi (by rw [List.length_take]; omega) (fun n hn => hwz n (List.mem_of_mem_take hn)), List.getElem_take, hc, List.getD_eq_getElem?_getD, List.getElem?_eq_getElem hi2]; rfl
end Go.Proofs.Ytckgfbpgomkpnaa
