/- What each law's proof of the super package shares: how its arguments are read, and small closed facts. Conditions: none. -/
import Derived.Test.YtlieijbjbjnaiaaRows
import Derived.Test.YtlieijbjbjnaiaaS2
import Derived.WalkKit
import Derived.ProofKit
import Derived.OpenShut
import Derived.JoinedCond
import Derived.Below
import Derived.Deep.Matrix
namespace Go.Proofs.Ytlieijbjbjnaiaa
open Go.ChangeShapes Go.WideShapes Go.ChangeAt Go.RowKit Chk

theorem own : ownKnob Try.prog.godebug = none := by kernel_rfl
theorem laidOut : laidOutB Try.prog = true := by kernel_rfl
theorem nat_of_u64 {n : Int} (h : (Lit.int .u64 n).wf = true) : ∃ m : Nat, n = m ∧ m < 18446744073709551616 := by
  have : 0 ≤ n ∧ n ≤ 18446744073709551615 := by simpa [Lit.wf, IntKind.min, IntKind.max, IntKind.signed, IntKind.bits] using h
  exact ⟨n.toNat, by omega, by omega⟩
theorem nat_of_u32 {n : Int} (h : (Lit.int .u32 n).wf = true) : ∃ m : Nat, n = m ∧ m < 4294967296 := by
  have : 0 ≤ n ∧ n ≤ 4294967295 := by simpa [Lit.wf, IntKind.min, IntKind.max, IntKind.signed, IntKind.bits] using h
  exact ⟨n.toNat, by omega, by omega⟩
theorem nat_of_u8' {n : Int} (h : (Lit.int .u8 n).wf = true) : ∃ m : Nat, n = m ∧ m < 256 := by
  have : 0 ≤ n ∧ n ≤ 255 := by simpa [Lit.wf, IntKind.min, IntKind.max, IntKind.signed, IntKind.bits] using h
  exact ⟨n.toNat, by omega, by omega⟩
theorem nat_of_u8 {n : Int} (h : (Lit.int .u8 n).wf = true) : 0 ≤ n ∧ n ≤ 255 := by
  simpa [Lit.wf, IntKind.min, IntKind.max, IntKind.signed, IntKind.bits] using h
theorem i64_of {n : Int} (h : (Lit.int .i64 n).wf = true) : -9223372036854775808 ≤ n ∧ n ≤ 9223372036854775807 := by
  simpa [Lit.wf, IntKind.min, IntKind.max, IntKind.signed, IntKind.bits] using h
def u8s (zs : List Int) : List UInt8 := zs.map fun z => UInt8.ofNat z.toNat
theorem u8s_at {zs : List Int} {i : Nat} (hi : i < (u8s zs).length) (hi' : i < zs.length) (hw : ∀ n ∈ zs, (Lit.int .u8 n).wf = true) : ((u8s zs)[i].toNat : Int) = zs[i] := by
  have h := nat_of_u8 (hw zs[i] (List.getElem_mem hi'))
  have e : (u8s zs)[i] = UInt8.ofNat zs[i].toNat := List.getElem_map _
  rw [e, UInt8.toNat_ofNat']
  omega
/-- A slice of octets, as it is read. -/
theorem open_octs {H : Type} {enc : TypeId × Value → H} {W : World} {a : Option Addr} {len cap : Nat} {d : DataW H} {p : List MemPlace} {b : Nat} {g : Bool}
    (h : DataW.Trod enc Try.prog W b (fun _ => true) g 24 (.slice a len cap) d p) : ∃ l : List UInt8, l.length = len ∧ Octs W W.heap.size a l ∧ len ≤ cap ∧ cap ≤ maxLen := by
  obtain ⟨fuel, hf⟩ := h
  rcases open_ints Try.underlying24 Try.underlying5 (by kernel_rfl) hf with ⟨hcs, _⟩ | ⟨x, l, c, zs, hcs, _, hl, hm, hz, _, hcell, hwz⟩
  · simp [Value.cells] at hcs
    obtain ⟨rfl, rfl, rfl⟩ := hcs
    exact ⟨[], rfl, (fun i hi => by cases hi), Nat.le_refl _, Nat.zero_le _⟩
  · simp [Value.cells] at hcs
    obtain ⟨rfl, rfl, rfl⟩ := hcs
    have hz' : zs.length = cap := by simpa using hz
    have hlen : (u8s (zs.take len)).length = len := by simp [u8s]; omega
    refine ⟨u8s (zs.take len), hlen, fun i hi => ?_, hl, hm⟩
    have hi2 : i < zs.length := by omega
    have hc := hcell i hi2
    refine ⟨x, rfl, ?_, ?_⟩
    · have := World.block_lt_of_cell? W _ hc
      rw [blockAdd] at this
      exact this
    · rw [u8s_at hi (by rw [List.length_take]; omega) (fun n hn => hwz n (List.mem_of_mem_take hn)), List.getElem_take, hc, List.getD_eq_getElem?_getD, List.getElem?_eq_getElem hi2]; rfl

theorem two_of {cs : Array Value} (h : cs.size = 2) : ∃ a b, cs = #[a, b] := by
  obtain ⟨l⟩ := cs
  match l, h with
  | [a, b], _ => exact ⟨a, b, rfl⟩
theorem four_of {cs : Array Value} (h : cs.size = 4) : ∃ a b c d, cs = #[a, b, c, d] := by
  obtain ⟨l⟩ := cs
  match l, h with
  | [a, b, c, d], _ => exact ⟨a, b, c, d, rfl⟩
theorem ten_of {cs : Array Value} (h : cs.size = 10) : ∃ a b c d e f g h i j, cs = #[a, b, c, d, e, f, g, h, i, j] := by
  obtain ⟨l⟩ := cs
  match l, h with
  | [a, b, c, d, e, f, g, h, i, j], _ => exact ⟨a, b, c, d, e, f, g, h, i, j, rfl⟩
/-- Four numbers, as they are read. -/
theorem four_ints {H : Type} {enc : TypeId × Value → H} {W : World} {n : Nat} {a0 a1 a2 a3 : Value} {x : DataW H × List MemPlace} {b : Nat} {g : Bool}
    (h : DataW.trod enc Try.prog W b (fun _ => true) g n 23 [a0, a1, a2, a3] = some x) : ∃ y0 y1 y2 y3 : Int, a0 = .int .i64 y0 ∧ a1 = .int .i64 y1 ∧ a2 = .int .i64 y2 ∧ a3 = .int .i64 y3 ∧ (Lit.int .i64 y0).wf = true ∧ (Lit.int .i64 y1).wf = true ∧ (Lit.int .i64 y2).wf = true ∧ (Lit.int .i64 y3).wf = true := by
  have c3 : Try.prog.cellsOf 3 = 1 := by kernel_rfl
  obtain ⟨ys, m, _, _, _, hlen2, hall2⟩ := DataW.trod_struct Try.underlying23 h
  have hy : ys.length = 4 := hlen2
  have g0 : DataW.trod enc Try.prog W b (fun _ => true) g m 3 [a0] = ys[0]? := by have := hall2 0 _ rfl; simpa [Value.cells, c3] using this
  have g1 : DataW.trod enc Try.prog W b (fun _ => true) g m 3 [a1] = ys[1]? := by have := hall2 1 _ rfl; simpa [Value.cells, c3] using this
  have g2 : DataW.trod enc Try.prog W b (fun _ => true) g m 3 [a2] = ys[2]? := by have := hall2 2 _ rfl; simpa [Value.cells, c3] using this
  have g3 : DataW.trod enc Try.prog W b (fun _ => true) g m 3 [a3] = ys[3]? := by have := hall2 3 _ rfl; simpa [Value.cells, c3] using this
  obtain ⟨z0, e0, _, w0⟩ := DataW.trod_int Try.underlying3 (g0.trans (List.getElem?_eq_getElem (by omega)))
  obtain ⟨z1, e1, _, w1⟩ := DataW.trod_int Try.underlying3 (g1.trans (List.getElem?_eq_getElem (by omega)))
  obtain ⟨z2, e2, _, w2⟩ := DataW.trod_int Try.underlying3 (g2.trans (List.getElem?_eq_getElem (by omega)))
  obtain ⟨z3, e3, _, w3⟩ := DataW.trod_int Try.underlying3 (g3.trans (List.getElem?_eq_getElem (by omega)))
  exact ⟨z0, z1, z2, z3, by simpa using e0, by simpa using e1, by simpa using e2, by simpa using e3, w0, w1, w2, w3⟩
/-- A plan, as it is read. -/
theorem open_plan {H : Type} {enc : TypeId × Value → H} {W : World} {r : Reach} {b0 : Nat} {v : Value} {d : DataW H} {p : List MemPlace} {b : Nat} {g : Bool} (hval : Value.okWide Try.prog W r b0 42 v)
    (h : DataW.Trod enc Try.prog W b (fun _ => true) g 42 v d p) : ∃ y0 y1 : Int, v = .agg #[.int .i64 y0, .int .i64 y1] := by
  have c3 : Try.prog.cellsOf 3 = 1 := by kernel_rfl
  obtain ⟨cs, rfl, hsz⟩ := okWide_struct Try.underlying42 hval
  obtain ⟨a0, a1, rfl⟩ := two_of (hsz.trans (by kernel_rfl))
  obtain ⟨fuel, hf⟩ := h
  obtain ⟨ys, m, _, _, _, hlen2, hall2⟩ := DataW.trod_struct Try.underlying42 hf
  have hy : ys.length = 2 := hlen2
  have g0 : DataW.trod enc Try.prog W b (fun _ => true) g m 3 [a0] = ys[0]? := by have := hall2 0 _ rfl; simpa [Value.cells, c3] using this
  have g1 : DataW.trod enc Try.prog W b (fun _ => true) g m 3 [a1] = ys[1]? := by have := hall2 1 _ rfl; simpa [Value.cells, c3] using this
  obtain ⟨z0, e0, _, w0⟩ := DataW.trod_int Try.underlying3 (g0.trans (List.getElem?_eq_getElem (by omega)))
  obtain ⟨z1, e1, _, w1⟩ := DataW.trod_int Try.underlying3 (g1.trans (List.getElem?_eq_getElem (by omega)))
  have q0 : a0 = .int .i64 z0 := by simpa using e0
  have q1 : a1 = .int .i64 z1 := by simpa using e1
  subst q0 q1
  exact ⟨z0, z1, rfl⟩
/-- A super, as it is read. -/
theorem open_super {H : Type} {enc : TypeId × Value → H} {W : World} {r : Reach} {b0 : Nat} {v : Value} {d : DataW H} {p : List MemPlace} {b : Nat} {g : Bool} (hval : Value.okWide Try.prog W r b0 23 v)
    (h : DataW.Trod enc Try.prog W b (fun _ => true) g 23 v d p) : ∃ s : Sup.Sp, v = Sup.sv s ∧ -9223372036854775808 ≤ s.g ∧ s.g ≤ 9223372036854775807 ∧ -9223372036854775808 ≤ s.h ∧ s.h ≤ 9223372036854775807 := by
  obtain ⟨cs, rfl, hsz⟩ := okWide_struct Try.underlying23 hval
  obtain ⟨a0, a1, a2, a3, rfl⟩ := four_of (hsz.trans (by kernel_rfl))
  obtain ⟨fuel, hf⟩ := h
  obtain ⟨y0, y1, y2, y3, rfl, rfl, rfl, rfl, w0, w1, w2, w3⟩ := four_ints hf
  exact ⟨⟨y0, y1, y2, y3⟩, rfl, (i64_of w0).1, (i64_of w0).2, (i64_of w1).1, (i64_of w1).2⟩
set_option maxRecDepth 100000 in
/-- Two supers and which bits are turned over, as they are read. -/
theorem open_finds {H : Type} {enc : TypeId × Value → H} {W : World} {r : Reach} {b0 : Nat} {v : Value} {d : DataW H} {p : List MemPlace} {b : Nat} {g : Bool} (hval : Value.okWide Try.prog W r b0 56 v)
    (h : DataW.Trod enc Try.prog W b (fun _ => true) g 56 v d p) : ∃ (s t : Sup.Sp) (k u : Nat), v = .agg #[.int .i64 s.g, .int .i64 s.h, .int .i64 s.n, .int .i64 s.p, .int .i64 t.g, .int .i64 t.h, .int .i64 t.n, .int .i64 t.p, .int .u64 (k : Int), .int .u32 (u : Int)] ∧ k < 18446744073709551616 ∧ u < 4294967296 := by
  have c23 : Try.prog.cellsOf 23 = 4 := by kernel_rfl
  have c53 : Try.prog.cellsOf 53 = 1 := by kernel_rfl
  have c54 : Try.prog.cellsOf 54 = 1 := by kernel_rfl
  obtain ⟨cs, rfl, hsz⟩ := okWide_struct Try.underlying56 hval
  obtain ⟨a0, a1, a2, a3, a4, a5, a6, a7, a8, a9, rfl⟩ := ten_of (hsz.trans (by kernel_rfl))
  obtain ⟨fuel, hf⟩ := h
  obtain ⟨xs, n, _, _, _, hlen, hall⟩ := DataW.trod_struct Try.underlying56 hf
  have hx : xs.length = 4 := hlen
  have h0 : DataW.trod enc Try.prog W b (fun _ => true) g n 23 [a0, a1, a2, a3] = xs[0]? := by have := hall 0 _ rfl; simpa [Value.cells, c23, c53, c54] using this
  have h1 : DataW.trod enc Try.prog W b (fun _ => true) g n 23 [a4, a5, a6, a7] = xs[1]? := by have := hall 1 _ rfl; simpa [Value.cells, c23, c53, c54] using this
  have h2 : DataW.trod enc Try.prog W b (fun _ => true) g n 53 [a8] = xs[2]? := by have := hall 2 _ rfl; simpa [Value.cells, c23, c53, c54] using this
  have h3 : DataW.trod enc Try.prog W b (fun _ => true) g n 54 [a9] = xs[3]? := by have := hall 3 _ rfl; simpa [Value.cells, c23, c53, c54] using this
  obtain ⟨y0, y1, y2, y3, rfl, rfl, rfl, rfl, _⟩ := four_ints (h0.trans (List.getElem?_eq_getElem (by omega)))
  obtain ⟨x0, x1, x2, x3, rfl, rfl, rfl, rfl, _⟩ := four_ints (h1.trans (List.getElem?_eq_getElem (by omega)))
  obtain ⟨z8, e8, _, w8⟩ := DataW.trod_int Try.underlying53 (h2.trans (List.getElem?_eq_getElem (by omega)))
  obtain ⟨z9, e9, _, w9⟩ := DataW.trod_int Try.underlying54 (h3.trans (List.getElem?_eq_getElem (by omega)))
  obtain ⟨m8, rfl, b8⟩ := nat_of_u64 w8
  obtain ⟨m9, rfl, b9⟩ := nat_of_u32 w9
  have q8 : a8 = .int .u64 (m8 : Int) := by simpa using e8
  have q9 : a9 = .int .u32 (m9 : Int) := by simpa using e9
  subst q8 q9
  exact ⟨⟨y0, y1, y2, y3⟩, ⟨x0, x1, x2, x3⟩, m8, m9, rfl, b8, b9⟩
end Go.Proofs.Ytlieijbjbjnaiaa
