/- What each law's proof of the hold package shares: what the listed array holds, the world of the witness, how what comes in is read, and small closed facts. Conditions: none. -/
import Derived.Test.YtkhkncgndllkjaaDoorCards
import Derived.Test.YtkhkncgndllkjaaDoorTie
import Derived.Test.YtkhkncgndllkjaaDoorK11
import Derived.WalkKit
import Derived.ProofKit
import Derived.OpenShut
import Derived.ShutString
import Derived.ChangeOld
import Derived.Below
import Derived.Deep.DeepHandedRow
import Derived.Lib.LaidTab
import Derived.Lib.SmallJoins
import Derived.ChangeMaps5
import Derived.LaidLaws
import Derived.Stop.LaidErr
namespace Go.Proofs.YtkhkncgndllkjaaDoor
open Go.ChangeShapes Go.WideShapes Go.ChangeAt Go.RowKit

theorem own : ownKnob Tryd.prog.godebug = none := by kernel_rfl
theorem laidOut : laidOutB Tryd.prog = true := by kernel_rfl
theorem fits64 {n : Int} (h : (Lit.int .i64 n).wf = true) : -9223372036854775808 ≤ n ∧ n ≤ 9223372036854775807 := by
  simpa [Lit.wf, IntKind.min, IntKind.max, IntKind.signed, IntKind.bits] using h
theorem size64 {n : Nat} (h : n ≤ maxLen) : n ≤ 9223372036854775807 := by unfold maxLen at h; omega

theorem gSize : Tryd.prog.globalNamed "bursar/chart.size" = some 0 := by kernel_rfl

/-- What the rows' list gives. -/
theorem env {W : World} (h : laidMetH Tryd.prog [("bursar/chart.size", Rows.laid_bursar_chart_size)] W) : Cht.Env W := by
  have h' : laidMet Tryd.prog [("bursar/chart.size", Rows.laid_bursar_chart_size)] W := h
  have hs := Lib.tabIs_of_head (k := .i64) (zs := [0, 16, 6, 0, 0]) (g := 0) (t := 92) gSize (by kernel_rfl) Tryd.underlying92 Tryd.underlying3 (by kernel_rfl) (by kernel_rfl) h'
  have d := fun i => World.var?_cell gSize hs i
  refine ⟨by simpa using d 1, by simpa using d 2, by simpa using d 3, by simpa using d 4, ?_⟩
  rcases Nat.lt_or_ge 0 W.heap.size with hlt | hge
  · exact hlt
  · have hv : W.var? Tryd.prog "bursar/chart.size" = _ := hs
    unfold World.var? at hv
    rw [gSize] at hv
    simp [Array.getElem?_eq_none hge] at hv

/-- A world for the witness: the settled one, the listed array holding what its initialiser lays. -/
noncomputable def laidWorld (os : Os) : World :=
  let w := World.holding Tryd.prog os ⟨#[], #[], []⟩
  { w with heap := w.heap.modify 0 fun
      | .cells _ t frozen => .cells #[.int .i64 0, .int .i64 16, .int .i64 6, .int .i64 0, .int .i64 0] t frozen
      | o => o }
/-- A hold as it comes in. -/
structure RawH (x : Hol.Hd) : Prop where
  r : x.r.size ≤ 9223372036854775807
  a : x.a.size ≤ 9223372036854775807
  p : x.p.size ≤ 9223372036854775807
  ap : -9223372036854775808 ≤ x.ap ∧ x.ap ≤ 9223372036854775807
  ca : -9223372036854775808 ≤ x.ca ∧ x.ca ≤ 9223372036854775807
  un : -9223372036854775808 ≤ x.un ∧ x.un ≤ 9223372036854775807
theorem RawH.few {x : Hol.Hd} (h : RawH x) : Hol.FitH (Hol.fewH x) := Hol.few_fit h.ap h.ca h.un
theorem seven_of {cs : List Value} (h : cs.length = 7) : ∃ a b c d e f g, cs = [a, b, c, d, e, f, g] := by
  match cs, h with
  | [a, b, c, d, e, f, g], _ => exact ⟨a, b, c, d, e, f, g, rfl⟩
set_option maxRecDepth 100000 in
theorem hold_cells {H : Type} {enc : TypeId × Value → H} {W : World} {b : Nat} {sp : Nat → Bool} {g : Bool} {fuel : Nat} {cs : List Value} {x : DataW H × List MemPlace}
    (h : DataW.trod enc Tryd.prog W b sp g fuel 23 cs = some x) : ∃ y : Hol.Hd, cs = (Hol.hcs y).toList ∧ RawH y := by
  obtain ⟨xs, n, _, _, hcl, hlen, hall⟩ := DataW.trod_struct Tryd.underlying23 h
  have hx : xs.length = 7 := hlen
  obtain ⟨a0, a1, a2, a3, a4, a5, a6, rfl⟩ := seven_of (hcl.trans (by kernel_rfl))
  have c9 : Tryd.prog.cellsOf 9 = 1 := by kernel_rfl
  have c2 : Tryd.prog.cellsOf 2 = 1 := by kernel_rfl
  have c3 : Tryd.prog.cellsOf 3 = 1 := by kernel_rfl
  have c4 : Tryd.prog.cellsOf 4 = 1 := by kernel_rfl
  have h0 : DataW.trod enc Tryd.prog W b sp g n 9 [a0] = xs[0]? := by have := hall 0 _ rfl; simpa [c9] using this
  have h1 : DataW.trod enc Tryd.prog W b sp g n 9 [a1] = xs[1]? := by have := hall 1 _ rfl; simpa [c9] using this
  have h2 : DataW.trod enc Tryd.prog W b sp g n 9 [a2] = xs[2]? := by have := hall 2 _ rfl; simpa [c9] using this
  have h3 : DataW.trod enc Tryd.prog W b sp g n 2 [a3] = xs[3]? := by have := hall 3 _ rfl; simpa [c2] using this
  have h4 : DataW.trod enc Tryd.prog W b sp g n 2 [a4] = xs[4]? := by have := hall 4 _ rfl; simpa [c2] using this
  have h5 : DataW.trod enc Tryd.prog W b sp g n 3 [a5] = xs[5]? := by have := hall 5 _ rfl; simpa [c3] using this
  have h6 : DataW.trod enc Tryd.prog W b sp g n 4 [a6] = xs[6]? := by have := hall 6 _ rfl; simpa [c4] using this
  obtain ⟨r, e0, _, w0⟩ := DataW.trod_string Tryd.underlying9 (h0.trans (List.getElem?_eq_getElem (by omega)))
  obtain ⟨a, e1, _, w1⟩ := DataW.trod_string Tryd.underlying9 (h1.trans (List.getElem?_eq_getElem (by omega)))
  obtain ⟨p, e2, _, w2⟩ := DataW.trod_string Tryd.underlying9 (h2.trans (List.getElem?_eq_getElem (by omega)))
  obtain ⟨ap, e3, _, w3⟩ := DataW.trod_int Tryd.underlying2 (h3.trans (List.getElem?_eq_getElem (by omega)))
  obtain ⟨ca, e4, _, w4⟩ := DataW.trod_int Tryd.underlying2 (h4.trans (List.getElem?_eq_getElem (by omega)))
  obtain ⟨un, e5, _, w5⟩ := DataW.trod_int Tryd.underlying3 (h5.trans (List.getElem?_eq_getElem (by omega)))
  obtain ⟨op, e6, _⟩ := DataW.trod_bool Tryd.underlying4 (h6.trans (List.getElem?_eq_getElem (by omega)))
  simp at e0 e1 e2 e3 e4 e5 e6
  subst e0 e1 e2 e3 e4 e5 e6
  exact ⟨⟨r, a, p, ap, ca, un, op⟩, rfl, size64 w0, size64 w1, size64 w2, fits64 w3, fits64 w4, fits64 w5⟩
set_option maxRecDepth 100000 in
/-- A hold, as it is read. -/
theorem open_hold {H : Type} {enc : TypeId × Value → H} {W : World} {b0 b : Nat} {g : Bool} {v : Value} {d : DataW H} {p : List MemPlace}
    (hv : Value.okWide Tryd.prog W .any b0 23 v) (h : DataW.Trod enc Tryd.prog W b (fun _ => true) g 23 v d p) : ∃ x : Hol.Hd, v = Hol.hv x ∧ RawH x := by
  obtain ⟨cs, rfl, hsz⟩ := okWide_struct Tryd.underlying23 hv
  obtain ⟨fuel, hf⟩ := h
  obtain ⟨x, e, hr⟩ := hold_cells (cs := cs.toList) (by simpa [Value.cells] using hf)
  refine ⟨x, ?_, hr⟩
  have : cs = Hol.hcs x := by
    apply Array.ext'
    exact e
  rw [this]
end Go.Proofs.YtkhkncgndllkjaaDoor
