/- How the argument of WalAppends and WalScans is read: FrameF and FrameG with what they want of FrameB and FrameD. Conditions: none. -/
import Derived.Test.YtjcgggheablpeaaFrame
import Derived.Test.YtjcgggheablpeaaGE
import Derived.Deep.SlicePairs
import Derived.Deep.Grids
import Derived.Lib.SmallJoins
import Derived.Deep.Slices
import Derived.SizedLaws
namespace Go.Proofs.Ytjcgggheablpeaa
open Go.ChangeShapes Go.WideShapes Go.ChangeAt Go.RowKit Dis
theorem spotless {w : World} {x : Addr} {v : Value} (h : w.cell? x = some v) : x.spot = none ∧ x.block < w.heap.size := by
  unfold World.cell? at h
  split at h
  · rename_i c e p hb
    split at h
    · cases h
    · rename_i hs
      exact ⟨by simpa using hs, (Array.getElem?_eq_some_iff.1 hb).1⟩
  · cases h
theorem octs_lits {W : World} {A : Option Addr} {len cap : Nat} {Z : List Int} (hl : len ≤ cap) (hz : Z.length = cap) (hw : ∀ n ∈ Z, (Lit.int .u8 n).wf = true) (hn : A = none → cap = 0)
    (hc : ∀ a', A = some a' → ∀ c, c < cap → W.cell? (a'.add c) = some (.int .u8 (Z.getD c 0))) : Octs W W.heap.size A ((Z.take len).map fun n => n.toNat.toUInt8) ∧ ((Z.take len).map fun n => n.toNat.toUInt8).length = len := by
  have hlen : ((Z.take len).map fun n => n.toNat.toUInt8).length = len := by simp; omega
  refine ⟨fun i hi => ?_, hlen⟩
  rcases A with _ | a
  · have := hn rfl; omega
  · have hi2 : i < Z.length := by omega
    have h := hc a rfl i (by omega)
    have h0 := hc a rfl 0 (by omega)
    rw [show a.add 0 = a from rfl] at h0
    obtain ⟨b, o, sp⟩ := a
    obtain ⟨hs, hlt⟩ := spotless h0
    simp only at hs hlt
    subst hs
    rw [Addr.add_lit] at h
    refine ⟨b, o, rfl, hlt, h.trans ?_⟩
    obtain ⟨m, hm, hm2⟩ := nat_of_u8 (hw _ (List.getElem_mem hi2))
    rw [List.getElem_map, List.getElem_take, List.getD_eq_getElem?_getD, List.getElem?_eq_getElem hi2]
    simp only [Option.getD_some]
    rw [hm]
    simp
    omega
end Go.Proofs.Ytjcgggheablpeaa

namespace Go.Proofs.Ytjcgggheablpeaa
open Go.ChangeShapes Go.WideShapes Go.ChangeAt Go.RowKit Dis
theorem octs_cell {H : Type} {enc : TypeId × Value → H} {W : World} {v : Value} {y : DataW H × List MemPlace} {b fuel : Nat} {g : Bool} (hf : DataW.trod enc Try.prog W b (fun _ => true) g fuel 28 [v] = some y) :
    ∃ A l c, v = .slice A (List.length l) c ∧ Octs W W.heap.size A l ∧ l.length ≤ c ∧ c ≤ 9223372036854775807 := by
  rcases open_ints Try.underlying28 Try.underlying5 (by kernel_rfl) hf with ⟨hcs, _⟩ | ⟨x, l, c, zs, hcs, _, hl, hm, hz, _, hcell, hwz⟩
  · simp at hcs
    subst hcs
    exact ⟨none, [], 0, rfl, (fun i hi => by cases hi), Nat.le_refl _, by decide⟩
  · simp at hcs
    subst hcs
    have hz' : zs.length = c := by simpa using hz
    have ho := octs_lits (W := W) (A := some x) hl hz' hwz (fun e => by cases e) (fun a' ha k hk => by cases ha; exact hcell k (by omega))
    unfold maxLen at hm
    exact ⟨some x, _, c, by rw [ho.2], ho.1, by rw [ho.2]; exact hl, hm⟩
end Go.Proofs.Ytjcgggheablpeaa

/- How the argument of DiskCrashes is read: a disk, whatever it holds. Conditions: none. -/
namespace Go.Proofs.Ytjcgggheablpeaa
open Go.ChangeShapes Go.WideShapes Go.ChangeAt Go.RowKit Dis Dis.Dk

/-- Whatever it weighs is within the reach. -/
def Sm {H : Type} (d : DataW H) (t : TypeId) : Prop := ∀ q ∈ d.weights Try.prog t, q ≤ 140737488351232
theorem weights_all {H : Type} {e : TypeId} {d : DataW H} {q : Nat} (hq : q ∈ d.weights Try.prog e) : ∀ {l : List (DataW H)}, d ∈ l → q ∈ DataW.weightsAll Try.prog e l
  | x :: r, h => by
    simp only [DataW.weightsAll, List.mem_append]
    rcases List.mem_cons.1 h with rfl | h
    · exact .inl hq
    · exact .inr (weights_all hq h)
theorem octs_sized {H : Type} {enc : TypeId × Value → H} {W : World} {v : Value} {y : DataW H × List MemPlace} {b fuel : Nat} {g : Bool} (hf : DataW.trod enc Try.prog W b (fun _ => true) g fuel 28 [v] = some y) (hs : Sm y.1 28) :
    ∃ A l c, v = .slice A l.length c ∧ Octs W W.heap.size A l ∧ l.length ≤ c ∧ l.length ≤ 140737488351232 := by
  obtain ⟨A, l, c, e, ho, hl, _⟩ := octs_cell hf
  refine ⟨A, l, c, e, ho, hl, ?_⟩
  rcases open_ints Try.underlying28 Try.underlying5 (by kernel_rfl) hf with ⟨hcs, _⟩ | ⟨x, l2, c2, zs, hcs, _, hl2, hm, hz, hy, _, _⟩
  · simp at hcs
    rw [hcs] at e
    injection e with _ e _
    omega
  · simp at hcs
    rw [hcs] at e
    injection e with _ e1 e2
    have hw : ((lits .u8 (zs.take l2) : List (DataW H)).length + (lits .u8 (zs.drop l2) : List (DataW H)).length) * Try.prog.bytesOf 5 ≤ 140737488351232 := hs _ (by rw [hy]; simp [DataW.weights, Try.underlying28])
    have hb : Try.prog.bytesOf 5 = 1 := by kernel_rfl
    rw [hb] at hw
    have hz' : zs.length = c2 := by simpa using hz
    simp only [lits, List.length_map, List.length_take, List.length_drop] at hw
    omega
theorem open_secs {H : Type} {enc : TypeId × Value → H} {W : World} {v : Value} {y : DataW H × List MemPlace} {b fuel : Nat} {g : Bool} (hf : DataW.trod enc Try.prog W b (fun _ => true) g fuel 22 [v] = some y) (hs : Sm y.1 22) :
    ∃ A S c, v = .slice A (List.length S) c ∧ Parts W W.heap.size A S ∧ S.length ≤ c := by
  rcases Go.Deep.open_slice1 Try.underlying22 (by kernel_rfl) hf with ⟨hcs, _⟩ | ⟨x, len, c, m, n, V, D, Pl, hcs, _, hl, _, hmm, rfl, hx⟩
  · simp at hcs
    subst hcs
    exact ⟨none, [], 0, rfl, (fun i hi => by cases hi), Nat.le_refl _⟩
  · simp at hcs
    subst hcs
    simp only [if_true] at hmm
    subst hmm
    have key : ∀ i : Nat, ∃ q : List UInt8, i < len → ∃ A' c', V i = .slice A' q.length c' ∧ Octs W W.heap.size A' q ∧ q.length ≤ c' ∧ q.length ≤ 140737488351232 := fun i => by
      by_cases hi : i < len
      · obtain ⟨_, t0⟩ := hx i (by omega)
        obtain ⟨A', l', c', hv, ho, hlc, hcm⟩ := octs_sized t0 (fun q hq => hs q (by
          simp only [DataW.weights, Try.underlying22]
          refine List.mem_cons_of_mem _ (List.mem_append_left _ (weights_all hq ?_))
          exact List.mem_map.2 ⟨i, List.mem_range.2 hi, rfl⟩))
        exact ⟨l', fun _ => ⟨A', c', hv, ho, hlc, hcm⟩⟩
      · exact ⟨[], fun h => absurd h hi⟩
    let q : Nat → List UInt8 := fun i => (key i).choose
    have hq := fun i => (key i).choose_spec
    refine ⟨some x, (List.range len).map q, m, by simp, fun i hi => ?_, by simpa using hl⟩
    have hi' : i < len := by simpa using hi
    have e : ((List.range len).map q)[i] = q i := by simp
    rw [e]
    obtain ⟨A', c', e0, ho, hlc, hcm⟩ := hq i hi'
    obtain ⟨g0, _⟩ := hx i (by omega)
    obtain ⟨z0, _⟩ := hx 0 (by omega)
    rw [show x.add 0 = x from rfl] at z0
    obtain ⟨bb, o, sp⟩ := x
    obtain ⟨hs', hlt⟩ := spotless z0
    simp only at hs' hlt
    subst hs'
    rw [Addr.add_lit] at g0
    exact ⟨bb, o, A', c', rfl, hlt, g0.trans (by rw [e0]), ho, hlc, hcm⟩
theorem open_pends {H : Type} {enc : TypeId × Value → H} {W : World} {v : Value} {y : DataW H × List MemPlace} {b fuel : Nat} {g : Bool} (hf : DataW.trod enc Try.prog W b (fun _ => true) g fuel 23 [v] = some y) (hs : Sm y.1 23) :
    ∃ (A : Option Addr) (S : Dk.Ws) (c : Nat), v = .slice A S.length c ∧ Pend W W.heap.size A S ∧ S.length ≤ c := by
  rcases Go.Deep.open_slice_pairs Try.underlying23 Try.underlying73 (by kernel_rfl) rfl rfl (by kernel_rfl) (by kernel_rfl) hf with ⟨hcs, _⟩ | ⟨x, len, c, m, n, V0, V1, D0, D1, Q0, Q1, hcs, _, hl, _, hmm, rfl, hx⟩
  · simp at hcs
    subst hcs
    exact ⟨none, [], 0, rfl, (fun i hi => by cases hi), Nat.le_refl _⟩
  · simp at hcs
    subst hcs
    simp only [if_true] at hmm
    subst hmm
    have key : ∀ i : Nat, ∃ q : Int × List UInt8, i < len → ∃ A' c', V0 i = .int .i64 q.1 ∧ V1 i = .slice A' q.2.length c' ∧ Octs W W.heap.size A' q.2 ∧ q.2.length ≤ c' ∧ q.2.length ≤ 140737488351232 ∧ -9223372036854775808 ≤ q.1 ∧ q.1 ≤ 9223372036854775807 := fun i => by
      by_cases hi : i < len
      · obtain ⟨_, _, t0, t1⟩ := hx i (by omega)
        obtain ⟨z, hz, _, hw⟩ := DataW.trod_int Try.underlying3 t0
        obtain ⟨A', l', c', hv, ho, hlc, hcm⟩ := octs_sized t1 (fun q hq => hs q (by
          simp only [DataW.weights, Try.underlying23]
          refine List.mem_cons_of_mem _ (List.mem_append_left _ (weights_all (d := .agg [D0 i, D1 i]) ?_ ?_))
          · simp only [DataW.weights, Try.underlying73]
            exact DataW.weights_mem_each (j := 1) (t := 28) (d := D1 i) rfl rfl q hq
          · exact List.mem_map.2 ⟨i, List.mem_range.2 hi, rfl⟩))
        have hr : -9223372036854775808 ≤ z ∧ z ≤ 9223372036854775807 := by simpa [Lit.wf, IntKind.min, IntKind.max, IntKind.signed, IntKind.bits] using hw
        exact ⟨(z, l'), fun _ => ⟨A', c', by simpa using hz, hv, ho, hlc, hcm, hr.1, hr.2⟩⟩
      · exact ⟨(0, []), fun h => absurd h hi⟩
    let q : Nat → Int × List UInt8 := fun i => (key i).choose
    have hq := fun i => (key i).choose_spec
    refine ⟨some x, (List.range len).map q, m, by simp, fun i hi => ?_, by simpa using hl⟩
    have hi' : i < len := by simpa using hi
    have e : ((List.range len).map q)[i] = q i := by simp
    rw [e]
    obtain ⟨A', c', e0, e1, ho, hlc, hcm, r1, r2⟩ := hq i hi'
    obtain ⟨g0, g1, _, _⟩ := hx i (by omega)
    obtain ⟨z0, _, _, _⟩ := hx 0 (by omega)
    rw [Nat.zero_mul, show x.add 0 = x from rfl] at z0
    obtain ⟨bb, o, sp⟩ := x
    obtain ⟨hs', hlt⟩ := spotless z0
    simp only at hs' hlt
    subst hs'
    rw [Addr.add_lit] at g0 g1
    exact ⟨bb, o, A', c', rfl, hlt, g0.trans (by rw [e0]), by rw [Nat.add_assoc]; exact g1.trans (by rw [e1]), ho, hlc, hcm, r1, r2⟩
theorem four_of {α : Type} {cs : Array α} (h : cs.size = 4) : ∃ a b c d, cs = #[a, b, c, d] := by
  obtain ⟨l⟩ := cs
  match l, h with
  | [a, b, c, d], _ => exact ⟨a, b, c, d, rfl⟩
set_option maxRecDepth 400000 in
theorem open_disk {H : Type} {enc : TypeId × Value → H} {W : World} {r : Reach} {b0 : Nat} {v : Value} {d : DataW H} {p : List MemPlace} {b : Nat} {g : Bool} (hval : Value.okWide Try.prog W r b0 25 v)
    (h : DataW.Trod enc Try.prog W b (fun _ => true) g 25 v d p) (hs : Sm d 25) : ∃ (A : Option Addr) (n c : Nat) (A' : Option Addr) (m c' : Nat) (S : List (List UInt8)) (Wk : Dk.Ws) (L : Int) (O : Bool), v = dv A n c A' m c' L O ∧ Dsk W A n c A' m c' S Wk := by
  obtain ⟨cs, rfl, hsz⟩ := okWide_struct Try.underlying25 hval
  obtain ⟨a0, a1, a2, a3, rfl⟩ := four_of (hsz.trans (by kernel_rfl))
  obtain ⟨fuel, hf⟩ := h
  obtain ⟨y0, y1, y2, y3, n, hx, _, t0, t1, t2, t3⟩ := Go.Joins.trod_struct4 Try.underlying25 hf
  injection hx with hx1 hx2
  subst hx1
  have hw : ∀ q, q ∈ DataW.weightsEach Try.prog [22, 23, 3, 4] [y0.1, y1.1, y2.1, y3.1] → q ≤ 140737488351232 := fun q hq => hs q (by
    simp only [DataW.weights, Try.underlying25]
    exact hq)
  have c22 : Try.prog.cellsOf 22 = 1 := by kernel_rfl
  have c23 : Try.prog.cellsOf 23 = 1 := by kernel_rfl
  have c3 : Try.prog.cellsOf 3 = 1 := by kernel_rfl
  have c4 : Try.prog.cellsOf 4 = 1 := by kernel_rfl
  obtain ⟨A, S, c, e0, hp, hc⟩ := open_secs (v := a0) (y := y0) (by simpa [Value.cells, c22] using t0) (fun q hq => hw q (DataW.weights_mem_each (j := 0) (t := 22) rfl rfl q hq))
  obtain ⟨A', Wk, c', e1, hpe, hc'⟩ := open_pends (v := a1) (y := y1) (by simpa [Value.cells, c23] using t1) (fun q hq => hw q (DataW.weights_mem_each (j := 1) (t := 23) rfl rfl q hq))
  obtain ⟨z, hz, _, _⟩ := DataW.trod_int Try.underlying3 (show DataW.trod enc Try.prog W b (fun _ => true) g n 3 [a2] = some y2 by simpa [Value.cells, c3] using t2)
  obtain ⟨O, hO⟩ : ∃ O, a3 = .bool O := by
    have t3' : DataW.trod enc Try.prog W b (fun _ => true) g n 4 [a3] = some y3 := by simpa [Value.cells, c4] using t3
    obtain ⟨O, hO, _⟩ := DataW.trod_bool Try.underlying4 t3'
    exact ⟨O, by simpa using hO⟩
  have hz' : a2 = .int .i64 z := by simpa using hz
  subst e0 e1 hz' hO
  exact ⟨A, S.length, c, A', Wk.length, c', S, Wk, z, O, rfl, hp, hpe, rfl, rfl, hc, hc'⟩
end Go.Proofs.Ytjcgggheablpeaa

/- How the argument of WalAppends and WalScans is read: a disk, a log, octets, a number. Conditions: none. -/
namespace Go.Proofs.Ytjcgggheablpeaa
open Go.ChangeShapes Go.WideShapes Go.ChangeAt Go.RowKit Dis Dis.Dk

set_option maxRecDepth 400000 in
theorem disk_cells {H : Type} {enc : TypeId × Value → H} {W : World} {a0 a1 a2 a3 : Value} {y : DataW H × List MemPlace} {b n : Nat} {g : Bool}
    (hf : DataW.trod enc Try.prog W b (fun _ => true) g n 25 [a0, a1, a2, a3] = some y) (hs : Sm y.1 25) : ∃ (A : Option Addr) (n c : Nat) (A' : Option Addr) (m c' : Nat) (S : List (List UInt8)) (Wk : Dk.Ws) (L : Int) (O : Bool), a0 = .slice A n c ∧ a1 = .slice A' m c' ∧ a2 = .int .i64 L ∧ a3 = .bool O ∧ Dsk W A n c A' m c' S Wk ∧ -9223372036854775808 ≤ L ∧ L ≤ 9223372036854775807 := by
  obtain ⟨y0, y1, y2, y3, n, rfl, _, t0, t1, t2, t3⟩ := Go.Joins.trod_struct4 Try.underlying25 hf
  have hw : ∀ q, q ∈ DataW.weightsEach Try.prog [22, 23, 3, 4] [y0.1, y1.1, y2.1, y3.1] → q ≤ 140737488351232 := fun q hq => hs q (by
    simp only [DataW.weights, Try.underlying25]
    exact hq)
  have c22 : Try.prog.cellsOf 22 = 1 := by kernel_rfl
  have c23 : Try.prog.cellsOf 23 = 1 := by kernel_rfl
  have c3 : Try.prog.cellsOf 3 = 1 := by kernel_rfl
  have c4 : Try.prog.cellsOf 4 = 1 := by kernel_rfl
  obtain ⟨A, S, c, e0, hp, hc⟩ := open_secs (v := a0) (y := y0) (by simpa [c22] using t0) (fun q hq => hw q (DataW.weights_mem_each (j := 0) (t := 22) rfl rfl q hq))
  obtain ⟨A', Wk, c', e1, hpe, hc'⟩ := open_pends (v := a1) (y := y1) (by simpa [c23] using t1) (fun q hq => hw q (DataW.weights_mem_each (j := 1) (t := 23) rfl rfl q hq))
  obtain ⟨z, hz, _, hzw⟩ := DataW.trod_int Try.underlying3 (show DataW.trod enc Try.prog W b (fun _ => true) g n 3 [a2] = some y2 by simpa [c3] using t2)
  obtain ⟨O, hO⟩ : ∃ O, a3 = .bool O := by
    have t3' : DataW.trod enc Try.prog W b (fun _ => true) g n 4 [a3] = some y3 := by simpa [c4] using t3
    obtain ⟨O, hO, _⟩ := DataW.trod_bool Try.underlying4 t3'
    exact ⟨O, by simpa using hO⟩
  have hz' : a2 = .int .i64 z := by simpa using hz
  exact ⟨A, S.length, c, A', Wk.length, c', S, Wk, z, O, e0, e1, hz', hO, ⟨hp, hpe, rfl, rfl, hc, hc'⟩, (i64_of hzw).1, (i64_of hzw).2⟩
theorem int_cell {H : Type} {enc : TypeId × Value → H} {W : World} {a : Value} {y : DataW H × List MemPlace} {b n : Nat} {g : Bool} (hf : DataW.trod enc Try.prog W b (fun _ => true) g n 3 [a] = some y) : ∃ z : Int, a = .int .i64 z ∧ -9223372036854775808 ≤ z ∧ z ≤ 9223372036854775807 := by
  obtain ⟨z, hz, _, hzw⟩ := DataW.trod_int Try.underlying3 hf
  exact ⟨z, by simpa using hz, (i64_of hzw).1, (i64_of hzw).2⟩
set_option maxRecDepth 400000 in
theorem log_cells {H : Type} {enc : TypeId × Value → H} {W : World} {a0 a1 a2 a3 : Value} {y : DataW H × List MemPlace} {b n : Nat} {g : Bool}
    (hf : DataW.trod enc Try.prog W b (fun _ => true) g n 27 [a0, a1, a2, a3] = some y) : ∃ z0 z1 z2 z3 : Int, a0 = .int .i64 z0 ∧ a1 = .int .i64 z1 ∧ a2 = .int .i64 z2 ∧ a3 = .int .i64 z3 ∧ (∀ z ∈ [z0, z1, z2, z3], -9223372036854775808 ≤ z ∧ z ≤ 9223372036854775807) := by
  obtain ⟨y0, y1, y2, y3, n, rfl, _, t0, t1, t2, t3⟩ := Go.Joins.trod_struct4 Try.underlying27 hf
  have c3 : Try.prog.cellsOf 3 = 1 := by kernel_rfl
  obtain ⟨z0, e0, r0⟩ := int_cell (a := a0) (y := y0) (by simpa [c3] using t0)
  obtain ⟨z1, e1, r1⟩ := int_cell (a := a1) (y := y1) (by simpa [c3] using t1)
  obtain ⟨z2, e2, r2⟩ := int_cell (a := a2) (y := y2) (by simpa [c3] using t2)
  obtain ⟨z3, e3, r3⟩ := int_cell (a := a3) (y := y3) (by simpa [c3] using t3)
  exact ⟨z0, z1, z2, z3, e0, e1, e2, e3, by simp [r0, r1, r2, r3]⟩
theorem ten_of {α : Type} {cs : Array α} (h : cs.size = 10) : ∃ a b c d e f g i j k, cs = #[a, b, c, d, e, f, g, i, j, k] := by
  obtain ⟨l⟩ := cs
  match l, h with
  | [a, b, c, d, e, f, g, i, j, k], _ => exact ⟨a, b, c, d, e, f, g, i, j, k, rfl⟩
set_option maxRecDepth 400000 in
theorem open_play {H : Type} {enc : TypeId × Value → H} {W : World} {r : Reach} {b0 : Nat} {v : Value} {d : DataW H} {p : List MemPlace} {b : Nat} {g : Bool} (hval : Value.okWide Try.prog W r b0 30 v)
    (h : DataW.Trod enc Try.prog W b (fun _ => true) g 30 v d p) (hs : Sm d 30) : ∃ (A : Option Addr) (n c : Nat) (A' : Option Addr) (m c' : Nat) (S : List (List UInt8)) (Wk : Dk.Ws) (L : Int) (O : Bool) (z0 z1 z2 z3 : Int) (AD : Option Addr) (l : List UInt8) (cd : Nat) (N : Int),
      v = .agg #[.slice A n c, .slice A' m c', .int .i64 L, .bool O, .int .i64 z0, .int .i64 z1, .int .i64 z2, .int .i64 z3, .slice AD l.length cd, .int .i64 N] ∧ Dsk W A n c A' m c' S Wk ∧ (-9223372036854775808 ≤ L ∧ L ≤ 9223372036854775807) ∧ (∀ z ∈ [z0, z1, z2, z3, N], -9223372036854775808 ≤ z ∧ z ≤ 9223372036854775807) ∧ Octs W W.heap.size AD l ∧ l.length ≤ cd ∧ cd ≤ 9223372036854775807 := by
  obtain ⟨cs, rfl, hsz⟩ := okWide_struct Try.underlying30 hval
  obtain ⟨a0, a1, a2, a3, a4, a5, a6, a7, a8, a9, rfl⟩ := ten_of (hsz.trans (by kernel_rfl))
  obtain ⟨fuel, hf⟩ := h
  obtain ⟨y0, y1, y2, y3, n, hx, _, t0, t1, t2, t3⟩ := Go.Joins.trod_struct4 Try.underlying30 hf
  injection hx with hx1 hx2
  subst hx1
  have hw : ∀ q, q ∈ DataW.weightsEach Try.prog [25, 27, 28, 3] [y0.1, y1.1, y2.1, y3.1] → q ≤ 140737488351232 := fun q hq => hs q (by
    simp only [DataW.weights, Try.underlying30]
    exact hq)
  have c25 : Try.prog.cellsOf 25 = 4 := by kernel_rfl
  have c27 : Try.prog.cellsOf 27 = 4 := by kernel_rfl
  have c28 : Try.prog.cellsOf 28 = 1 := by kernel_rfl
  have c3 : Try.prog.cellsOf 3 = 1 := by kernel_rfl
  obtain ⟨A, n', c, A', m, c', S, Wk, L, O, rfl, rfl, rfl, rfl, hd, hL⟩ := disk_cells (a0 := a0) (a1 := a1) (a2 := a2) (a3 := a3) (y := y0) (by simpa [Value.cells, c25] using t0) (fun q hq => hw q (DataW.weights_mem_each (j := 0) (t := 25) rfl rfl q hq))
  obtain ⟨z0, z1, z2, z3, rfl, rfl, rfl, rfl, hz⟩ := log_cells (a0 := a4) (a1 := a5) (a2 := a6) (a3 := a7) (y := y1) (by simpa [Value.cells, c27] using t1)
  obtain ⟨AD, l, cd, rfl, ho, hc, hcm⟩ := octs_cell (v := a8) (y := y2) (by simpa [Value.cells, c28] using t2)
  obtain ⟨N, rfl, hN⟩ := int_cell (a := a9) (y := y3) (by simpa [Value.cells, c3] using t3)
  refine ⟨A, n', c, A', m, c', S, Wk, L, O, z0, z1, z2, z3, AD, l, cd, N, rfl, hd, hL, ?_, ho, hc, hcm⟩
  intro z hz2
  simp only [List.mem_cons, List.not_mem_nil, or_false] at hz2
  rcases hz2 with rfl | rfl | rfl | rfl | rfl
  · exact hz _ (by simp)
  · exact hz _ (by simp)
  · exact hz _ (by simp)
  · exact hz _ (by simp)
  · exact hN
end Go.Proofs.Ytjcgggheablpeaa
