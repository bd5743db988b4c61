/- What each law's proof of the book package shares: what the two listed arrays hold, the world of the witness, how what comes in is read, and small closed facts. Conditions: none. -/
import Derived.Test.YtejdhemnlcbffaaDoorCards
import Derived.Test.YtejdhemnlcbffaaDoorTie
import Derived.Test.YtejdhemnlcbffaaDoorH1
import Derived.WalkKit
import Derived.ProofKit
import Derived.OpenShut
import Derived.ShutString
import Derived.ChangeOld
import Derived.Below
import Derived.Deep.DeepHandedRow
import Derived.Lib.LaidTab
import Derived.Lib.SmallJoins
import Derived.ChangeMaps5
import Derived.LaidLaws
import Derived.Stop.LaidErr
namespace Go.Proofs.YtejdhemnlcbffaaDoor
open Go.ChangeShapes Go.WideShapes Go.ChangeAt Go.RowKit

theorem own : ownKnob Tryd.prog.godebug = none := by kernel_rfl
theorem laidOut : laidOutB Tryd.prog = true := by kernel_rfl
theorem fits64 {n : Int} (h : (Lit.int .i64 n).wf = true) : -9223372036854775808 ≤ n ∧ n ≤ 9223372036854775807 := by
  simpa [Lit.wf, IntKind.min, IntKind.max, IntKind.signed, IntKind.bits] using h
theorem size64 {n : Nat} (h : n ≤ maxLen) : n ≤ 9223372036854775807 := by unfold maxLen at h; omega

/-- An array of texts that reads as these holds them, cell for cell. -/
theorem cells_of_texts {H : Type} {enc : TypeId × Value → H} {P : Program} {w : World} {base : Nat} {sp : Nat → Bool} {held : Bool} {fuel : Nat} {t e : TypeId} {n : Nat} {cs : List Value} {bs : List (List UInt8)} {p : List MemPlace}
    (ht : P.underlying t = some (.array n e)) (he : P.underlying e = some .string) (hce : P.cellsOf e = 1) (hct : P.cellsOf t = n)
    (h : DataW.trod enc P w base sp held fuel t cs = some (.agg (bs.map fun b => .lit (.string b)), p)) : cs = bs.map fun b => Value.string ⟨b.toArray⟩ := by
  cases fuel with
  | zero => simp [DataW.trod] at h
  | succ fuel =>
    simp only [DataW.trod, ht, hce, hct, Nat.mul_one] at h
    split at h
    · rename_i hl
      obtain ⟨xs, hm, hx⟩ := Option.map_eq_some_iff.1 h
      have hxs : xs.map (·.1) = bs.map fun b => (DataW.lit (.string b) : DataW H) := by
        have := congrArg Prod.fst hx
        simpa using this
      have hxl : xs.length = n := by simpa using Lib.mapM_length hm
      have hzl : bs.length = n := by
        have := congrArg List.length hxs
        simp at this
        omega
      apply List.ext_getElem?
      intro i
      by_cases hi : i < n
      · obtain ⟨b, hb, hf⟩ := Lib.mapM_at hm i i (by simp [hi])
        obtain ⟨z, hc, rfl, _⟩ := DataW.trod_string he hf
        have h1 : cs[i]? = some (.string z) := by
          have := congrArg (·[0]?) hc
          simpa [List.getElem?_take, List.getElem?_drop] using this
        have h2 : (xs.map (·.1))[i]? = some (DataW.lit (.string z.data.toList) : DataW H) := by simp [hb]
        rw [hxs] at h2
        simp only [List.getElem?_map, Option.map_eq_some_iff, DataW.lit.injEq, Lit.string.injEq] at h2
        obtain ⟨z', hz', rfl⟩ := h2
        simp [h1, hz']
      · rw [List.getElem?_eq_none (by omega), List.getElem?_eq_none (by simp; omega)]
    · cases h
/-- What a listed array of texts holds, where it stands first on the list. -/
theorem texts_of_head {P : Program} {W : World} {name : String} {bs : List (List UInt8)} {rest : List (String × DataW Unit)} {g : Nat} {t e : TypeId} {n : Nat}
    (hg : P.globalNamed name = some g) (hty : (P.globals[g]?).map (·.type) = some t) (ht : P.underlying t = some (.array n e)) (he : P.underlying e = some .string) (hce : P.cellsOf e = 1) (hct : P.cellsOf t = n)
    (h : laidMet P ((name, .agg (bs.map fun b => .lit (.string b))) :: rest) W) : W.var? P name = some (bs.map fun b => Value.string ⟨b.toArray⟩).toArray := by
  obtain ⟨ps, ⟨g', t', cs, fuel, p, q, hg', ht', hvar, hd, _, _⟩, _⟩ := h
  obtain rfl := Option.some.inj (hg.symm.trans hg')
  obtain rfl := Option.some.inj (hty.symm.trans ht')
  rw [hvar, ← cells_of_texts ht he hce hct hd]
theorem gFirst : Tryd.prog.globalNamed "bursar/chart.first" = some 1 := by kernel_rfl
theorem gSize : Tryd.prog.globalNamed "bursar/chart.size" = some 0 := by kernel_rfl

/-- What the rows' list gives. -/
theorem env {W : World} (h : laidMetH Tryd.prog [("bursar/chart.first", Rows.laid_bursar_chart_first), ("bursar/chart.size", Rows.laid_bursar_chart_size)] W) : Cht.Env W := by
  have h' : laidMet Tryd.prog [("bursar/chart.first", Rows.laid_bursar_chart_first), ("bursar/chart.size", Rows.laid_bursar_chart_size)] W := h
  have hf := texts_of_head (bs := [[], [67], [65], [72], [68]]) (g := 1) (t := 84) gFirst (by kernel_rfl) Tryd.underlying84 Tryd.underlying9 (by kernel_rfl) (by kernel_rfl) h'
  have hs := Lib.tabIs_of_head (k := .i64) (zs := [0, 16, 6, 0, 0]) (g := 0) (t := 71) gSize (by kernel_rfl) Tryd.underlying71 Tryd.underlying3 (by kernel_rfl) (by kernel_rfl) h'.tail
  have c := fun i => World.var?_cell gFirst hf i
  have d := fun i => World.var?_cell gSize hs i
  refine ⟨by simpa using c 1, by simpa using c 2, by simpa using c 3, by simpa using c 4, by simpa using d 1, by simpa using d 2, by simpa using d 3, by simpa using d 4, ?_⟩
  rcases Nat.lt_or_ge 1 W.heap.size with hlt | hge
  · exact hlt
  · have hv : W.var? Tryd.prog "bursar/chart.first" = _ := hf
    unfold World.var? at hv
    rw [gFirst] at hv
    simp [Array.getElem?_eq_none hge] at hv

/-- A world for the witness: the settled one, each listed array holding what its initialiser lays. -/
noncomputable def laidWorld (os : Os) : World :=
  let w := World.holding Tryd.prog os ⟨#[], #[], []⟩
  { w with heap := ((w.heap.modify 1 fun
      | .cells _ t frozen => .cells #[.string ⟨#[]⟩, .string ⟨#[67]⟩, .string ⟨#[65]⟩, .string ⟨#[72]⟩, .string ⟨#[68]⟩] t frozen
      | o => o).modify 0 fun
      | .cells _ t frozen => .cells #[.int .i64 0, .int .i64 16, .int .i64 6, .int .i64 0, .int .i64 0] t frozen
      | o => o) }
theorem open_account {H : Type} {enc : TypeId × Value → H} {W : World} {b : Nat} {sp : Nat → Bool} {g : Bool} {fuel : Nat} {cs : List Value} {x : DataW H × List MemPlace}
    (h : DataW.trod enc Tryd.prog W b sp g fuel 27 cs = some x) : ∃ k s, cs = [.int .i64 k, .string s] ∧ (Lit.int .i64 k).wf = true ∧ s.size ≤ maxLen := by
  obtain ⟨y0, y1, n, rfl, hl, h0, h1⟩ := trod_struct2 Tryd.underlying27 h
  have hl2 : cs.length = 2 := hl.trans (by kernel_rfl)
  match cs, hl2 with
  | [c0, c1], _ =>
    obtain ⟨k, e0, _, wk⟩ := DataW.trod_int Tryd.underlying3 h0
    obtain ⟨s, e1, _, ws⟩ := DataW.trod_string Tryd.underlying9 h1
    rw [show Tryd.prog.cellsOf 3 = 1 from by kernel_rfl] at e0
    rw [show Tryd.prog.cellsOf 9 = 1 from by kernel_rfl] at e1
    simp at e0 e1
    subst e0 e1
    exact ⟨k, s, rfl, wk, ws⟩
end Go.Proofs.YtejdhemnlcbffaaDoor
