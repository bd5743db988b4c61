/- What each law's proof of the log's package shares: how its arguments are read, and small closed facts. Conditions: none. -/
import Derived.Test.YtjcgggheablpeaaRows
import Derived.Test.YtjcgggheablpeaaGD
import Derived.WalkKit
import Derived.ProofKit
import Derived.OpenShut
import Derived.JoinedCond
import Derived.Below
import Derived.Deep.Matrix
import Derived.Deep.Grids
namespace Go.Proofs.Ytjcgggheablpeaa
open Go.ChangeShapes Go.WideShapes Go.ChangeAt Go.RowKit Dis

theorem own : ownKnob Try.prog.godebug = none := by kernel_rfl
theorem laidOut : laidOutB Try.prog = true := by kernel_rfl
theorem nat_of_u8 {n : Int} (h : (Lit.int .u8 n).wf = true) : ∃ m : Nat, n = m ∧ m < 256 := by
  have : 0 ≤ n ∧ n ≤ 255 := by simpa [Lit.wf, IntKind.min, IntKind.max, IntKind.signed, IntKind.bits] using h
  exact ⟨n.toNat, by omega, by omega⟩
theorem i64_of {n : Int} (h : (Lit.int .i64 n).wf = true) : -9223372036854775808 ≤ n ∧ n ≤ 9223372036854775807 := by
  simpa [Lit.wf, IntKind.min, IntKind.max, IntKind.signed, IntKind.bits] using h
theorem seven_of {cs : Array Value} (h : cs.size = 7) : ∃ a b c d e f g, cs = #[a, b, c, d, e, f, g] := by
  obtain ⟨l⟩ := cs
  match l, h with
  | [a, b, c, d, e, f, g], _ => exact ⟨a, b, c, d, e, f, g, rfl⟩
set_option maxRecDepth 100000 in
/-- A log and three numbers, as they are read. -/
theorem open_rooms {H : Type} {enc : TypeId × Value → H} {W : World} {r : Reach} {b0 : Nat} {v : Value} {d : DataW H} {p : List MemPlace} {b : Nat} {g : Bool} (hval : Value.okWide Try.prog W r b0 70 v)
    (h : DataW.Trod enc Try.prog W b (fun _ => true) g 70 v d p) : ∃ (y0 y1 y2 y3 y4 y5 : Int) (y6 : Nat), v = .agg #[.int .i64 y0, .int .i64 y1, .int .i64 y2, .int .i64 y3, .int .i64 y4, .int .i64 y5, .int .u8 (y6 : Int)] ∧ -9223372036854775808 ≤ y1 ∧ y1 ≤ 9223372036854775807 ∧ -9223372036854775808 ≤ y2 ∧ y2 ≤ 9223372036854775807 ∧ y6 < 256 := by
  have c27 : Try.prog.cellsOf 27 = 4 := by kernel_rfl
  have c3 : Try.prog.cellsOf 3 = 1 := by kernel_rfl
  have c5 : Try.prog.cellsOf 5 = 1 := by kernel_rfl
  obtain ⟨cs, rfl, hsz⟩ := okWide_struct Try.underlying70 hval
  obtain ⟨a0, a1, a2, a3, a4, a5, a6, rfl⟩ := seven_of (hsz.trans (by kernel_rfl))
  obtain ⟨fuel, hf⟩ := h
  obtain ⟨xs, n, _, _, _, hlen, hall⟩ := DataW.trod_struct Try.underlying70 hf
  have hx : xs.length = 4 := hlen
  have h0 : DataW.trod enc Try.prog W b (fun _ => true) g n 27 [a0, a1, a2, a3] = xs[0]? := by have := hall 0 _ rfl; simpa [Value.cells, c3, c27, c5] using this
  have h1 : DataW.trod enc Try.prog W b (fun _ => true) g n 3 [a4] = xs[1]? := by have := hall 1 _ rfl; simpa [Value.cells, c3, c27, c5] using this
  have h2 : DataW.trod enc Try.prog W b (fun _ => true) g n 3 [a5] = xs[2]? := by have := hall 2 _ rfl; simpa [Value.cells, c3, c27, c5] using this
  have h3 : DataW.trod enc Try.prog W b (fun _ => true) g n 5 [a6] = xs[3]? := by have := hall 3 _ rfl; simpa [Value.cells, c3, c27, c5] using this
  obtain ⟨ys, m, _, _, _, hlen2, hall2⟩ := DataW.trod_struct Try.underlying27 (h0.trans (List.getElem?_eq_getElem (by omega)))
  have hy : ys.length = 4 := hlen2
  have g0 : DataW.trod enc Try.prog W b (fun _ => true) g m 3 [a0] = ys[0]? := by have := hall2 0 _ rfl; simpa [Value.cells, c3] using this
  have g1 : DataW.trod enc Try.prog W b (fun _ => true) g m 3 [a1] = ys[1]? := by have := hall2 1 _ rfl; simpa [Value.cells, c3] using this
  have g2 : DataW.trod enc Try.prog W b (fun _ => true) g m 3 [a2] = ys[2]? := by have := hall2 2 _ rfl; simpa [Value.cells, c3] using this
  have g3 : DataW.trod enc Try.prog W b (fun _ => true) g m 3 [a3] = ys[3]? := by have := hall2 3 _ rfl; simpa [Value.cells, c3] using this
  obtain ⟨z0, e0, _, w0⟩ := DataW.trod_int Try.underlying3 (g0.trans (List.getElem?_eq_getElem (by omega)))
  obtain ⟨z1, e1, _, w1⟩ := DataW.trod_int Try.underlying3 (g1.trans (List.getElem?_eq_getElem (by omega)))
  obtain ⟨z2, e2, _, w2⟩ := DataW.trod_int Try.underlying3 (g2.trans (List.getElem?_eq_getElem (by omega)))
  obtain ⟨z3, e3, _, w3⟩ := DataW.trod_int Try.underlying3 (g3.trans (List.getElem?_eq_getElem (by omega)))
  obtain ⟨z4, e4, _, w4⟩ := DataW.trod_int Try.underlying3 (h1.trans (List.getElem?_eq_getElem (by omega)))
  obtain ⟨z5, e5, _, w5⟩ := DataW.trod_int Try.underlying3 (h2.trans (List.getElem?_eq_getElem (by omega)))
  obtain ⟨z6, e6, _, w6⟩ := DataW.trod_int Try.underlying5 (h3.trans (List.getElem?_eq_getElem (by omega)))
  obtain ⟨m6, rfl, hm6⟩ := nat_of_u8 w6
  have q0 : a0 = .int .i64 z0 := by simpa using e0
  have q1 : a1 = .int .i64 z1 := by simpa using e1
  have q2 : a2 = .int .i64 z2 := by simpa using e2
  have q3 : a3 = .int .i64 z3 := by simpa using e3
  have q4 : a4 = .int .i64 z4 := by simpa using e4
  have q5 : a5 = .int .i64 z5 := by simpa using e5
  have q6 : a6 = .int .u8 (m6 : Int) := by simpa using e6
  subst q0 q1 q2 q3 q4 q5 q6
  exact ⟨z0, z1, z2, z3, z4, z5, m6, rfl, (i64_of w1).1, (i64_of w1).2, (i64_of w2).1, (i64_of w2).2, hm6⟩
end Go.Proofs.Ytjcgggheablpeaa
