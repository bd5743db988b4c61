/- What each law's proof of the entry package shares: what the listed arrays hold, the world of the witness, how an entry is read, and small closed facts. Conditions: none. -/
import Derived.Test.YtdhokgkihaiomaaDoorCards
import Derived.Test.YtdhokgkihaiomaaDoorTie
import Derived.Test.YtdhokgkihaiomaaDoorE14
import Derived.WalkKit
import Derived.ProofKit
import Derived.OpenShut
import Derived.ShutString
import Derived.ChangeOld
import Derived.Below
import Derived.Deep.DeepHandedRow
import Derived.Lib.LaidTab
import Derived.Lib.SmallJoins
import Derived.ChangeMaps5
import Derived.LaidLaws
import Derived.Stop.LaidErr
namespace Go.Proofs.YtdhokgkihaiomaaDoor
open Go.ChangeShapes Go.WideShapes Go.ChangeAt Go.RowKit

theorem own : ownKnob Tryd.prog.godebug = none := by kernel_rfl
theorem laidOut : laidOutB Tryd.prog = true := by kernel_rfl
theorem fits64 {n : Int} (h : (Lit.int .i64 n).wf = true) : -9223372036854775808 ≤ n ∧ n ≤ 9223372036854775807 := by
  simpa [Lit.wf, IntKind.min, IntKind.max, IntKind.signed, IntKind.bits] using h
theorem size64 {n : Nat} (h : n ≤ maxLen) : n ≤ 9223372036854775807 := by unfold maxLen at h; omega

/-- An array of texts that reads as these holds them, cell for cell. -/
theorem cells_of_texts {H : Type} {enc : TypeId × Value → H} {P : Program} {w : World} {base : Nat} {sp : Nat → Bool} {held : Bool} {fuel : Nat} {t e : TypeId} {n : Nat} {cs : List Value} {bs : List (List UInt8)} {p : List MemPlace}
    (ht : P.underlying t = some (.array n e)) (he : P.underlying e = some .string) (hce : P.cellsOf e = 1) (hct : P.cellsOf t = n)
    (h : DataW.trod enc P w base sp held fuel t cs = some (.agg (bs.map fun b => .lit (.string b)), p)) : cs = bs.map fun b => Value.string ⟨b.toArray⟩ := by
  cases fuel with
  | zero => simp [DataW.trod] at h
  | succ fuel =>
    simp only [DataW.trod, ht, hce, hct, Nat.mul_one] at h
    split at h
    · rename_i hl
      obtain ⟨xs, hm, hx⟩ := Option.map_eq_some_iff.1 h
      have hxs : xs.map (·.1) = bs.map fun b => (DataW.lit (.string b) : DataW H) := by
        have := congrArg Prod.fst hx
        simpa using this
      have hxl : xs.length = n := by simpa using Lib.mapM_length hm
      have hzl : bs.length = n := by
        have := congrArg List.length hxs
        simp at this
        omega
      apply List.ext_getElem?
      intro i
      by_cases hi : i < n
      · obtain ⟨b, hb, hf⟩ := Lib.mapM_at hm i i (by simp [hi])
        obtain ⟨z, hc, rfl, _⟩ := DataW.trod_string he hf
        have h1 : cs[i]? = some (.string z) := by
          have := congrArg (·[0]?) hc
          simpa [List.getElem?_take, List.getElem?_drop] using this
        have h2 : (xs.map (·.1))[i]? = some (DataW.lit (.string z.data.toList) : DataW H) := by simp [hb]
        rw [hxs] at h2
        simp only [List.getElem?_map, Option.map_eq_some_iff, DataW.lit.injEq, Lit.string.injEq] at h2
        obtain ⟨z', hz', rfl⟩ := h2
        simp [h1, hz']
      · rw [List.getElem?_eq_none (by omega), List.getElem?_eq_none (by simp; omega)]
    · cases h
/-- What a listed array of texts holds, where it stands first on the list. -/
theorem texts_of_head {P : Program} {W : World} {name : String} {bs : List (List UInt8)} {rest : List (String × DataW Unit)} {g : Nat} {t e : TypeId} {n : Nat}
    (hg : P.globalNamed name = some g) (hty : (P.globals[g]?).map (·.type) = some t) (ht : P.underlying t = some (.array n e)) (he : P.underlying e = some .string) (hce : P.cellsOf e = 1) (hct : P.cellsOf t = n)
    (h : laidMet P ((name, .agg (bs.map fun b => .lit (.string b))) :: rest) W) : W.var? P name = some (bs.map fun b => Value.string ⟨b.toArray⟩).toArray := by
  obtain ⟨ps, ⟨g', t', cs, fuel, p, q, hg', ht', hvar, hd, _, _⟩, _⟩ := h
  obtain rfl := Option.some.inj (hg.symm.trans hg')
  obtain rfl := Option.some.inj (hty.symm.trans ht')
  rw [hvar, ← cells_of_texts ht he hce hct hd]
theorem gFirst : Tryd.prog.globalNamed "bursar/chart.first" = some 0 := by kernel_rfl
theorem gSize : Tryd.prog.globalNamed "bursar/chart.size" = some 1 := by kernel_rfl
theorem gPow : Tryd.prog.globalNamed "internal/strconv.uint64pow10" = some 2 := by kernel_rfl
theorem gB64 : Tryd.prog.globalNamed "math/bits.deBruijn64tab" = some 4 := by kernel_rfl

/-- What the rows' list gives. -/
theorem env {W : World} (h : laidMetH Tryd.prog [("math/bits.deBruijn32tab", Rows.laid_math_bits_deBruijn32tab), ("math/bits.deBruijn64tab", Rows.laid_math_bits_deBruijn64tab), ("internal/strconv.uint64pow10", Rows.laid_internal_strconv_uint64pow10), ("bursar/chart.first", Rows.laid_bursar_chart_first), ("bursar/chart.size", Rows.laid_bursar_chart_size)] W) : Ent.EnvA W := by
  have h' : laidMet Tryd.prog [("math/bits.deBruijn32tab", Rows.laid_math_bits_deBruijn32tab), ("math/bits.deBruijn64tab", Rows.laid_math_bits_deBruijn64tab), ("internal/strconv.uint64pow10", Rows.laid_internal_strconv_uint64pow10), ("bursar/chart.first", Rows.laid_bursar_chart_first), ("bursar/chart.size", Rows.laid_bursar_chart_size)] W := h
  have hp := Lib.tabIs_of_head (k := .u64) (zs := Lib.pow10Tab) (g := 2) (t := 88) gPow (by kernel_rfl) Tryd.underlying88 Tryd.underlying69 (by kernel_rfl) (by kernel_rfl) h'.tail.tail
  have hf := texts_of_head (bs := [[], [67], [65], [72], [68]]) (g := 0) (t := 68) gFirst (by kernel_rfl) Tryd.underlying68 Tryd.underlying9 (by kernel_rfl) (by kernel_rfl) h'.tail.tail.tail
  have hs := Lib.tabIs_of_head (k := .i64) (zs := [0, 16, 6, 0, 0]) (g := 1) (t := 74) gSize (by kernel_rfl) Tryd.underlying74 Tryd.underlying3 (by kernel_rfl) (by kernel_rfl) h'.tail.tail.tail.tail
  have hz5 : 5 ≤ W.heap.size := by
    obtain ⟨ps, ⟨g', t', cs, fuel, p, q, hg', ht', hvar, hd, _, _⟩, _⟩ := h'.tail
    obtain rfl : g' = 4 := Option.some.inj (hg'.symm.trans gB64)
    rcases Nat.lt_or_ge 4 W.heap.size with hlt | hge
    · exact hlt
    · unfold World.var? at hvar
      rw [gB64] at hvar
      simp [Array.getElem?_eq_none hge] at hvar
  have c := fun i => World.var?_cell gFirst hf i
  have d := fun i => World.var?_cell gSize hs i
  exact ⟨⟨by simpa using c 1, by simpa using c 2, by simpa using c 3, by simpa using c 4, by simpa using d 1, by simpa using d 2, by simpa using d 3, by simpa using d 4, by omega⟩, ⟨hp, hz5⟩⟩

/-- A world for the witness: the settled one, each listed array holding what its initialiser lays. -/
noncomputable def laidWorld (os : Os) : World :=
  let w := World.holding Tryd.prog os ⟨#[], #[], []⟩
  { w with heap := (((((w.heap.modify 0 fun
      | .cells _ t frozen => .cells #[.string ⟨#[]⟩, .string ⟨#[67]⟩, .string ⟨#[65]⟩, .string ⟨#[72]⟩, .string ⟨#[68]⟩] t frozen
      | o => o).modify 1 fun
      | .cells _ t frozen => .cells #[.int .i64 0, .int .i64 16, .int .i64 6, .int .i64 0, .int .i64 0] t frozen
      | o => o).modify 2 fun
      | .cells _ t frozen => .cells #[.int .u64 1, .int .u64 10, .int .u64 100, .int .u64 1000, .int .u64 10000, .int .u64 100000, .int .u64 1000000, .int .u64 10000000, .int .u64 100000000, .int .u64 1000000000, .int .u64 10000000000, .int .u64 100000000000, .int .u64 1000000000000, .int .u64 10000000000000, .int .u64 100000000000000, .int .u64 1000000000000000, .int .u64 10000000000000000, .int .u64 100000000000000000, .int .u64 1000000000000000000, .int .u64 10000000000000000000] t frozen
      | o => o).modify 3 fun
      | .cells _ t frozen => .cells #[.int .u8 0, .int .u8 1, .int .u8 28, .int .u8 2, .int .u8 29, .int .u8 14, .int .u8 24, .int .u8 3, .int .u8 30, .int .u8 22, .int .u8 20, .int .u8 15, .int .u8 25, .int .u8 17, .int .u8 4, .int .u8 8, .int .u8 31, .int .u8 27, .int .u8 13, .int .u8 23, .int .u8 21, .int .u8 19, .int .u8 16, .int .u8 7, .int .u8 26, .int .u8 12, .int .u8 18, .int .u8 6, .int .u8 11, .int .u8 5, .int .u8 10, .int .u8 9] t frozen
      | o => o).modify 4 fun
      | .cells _ t frozen => .cells #[.int .u8 0, .int .u8 1, .int .u8 56, .int .u8 2, .int .u8 57, .int .u8 49, .int .u8 28, .int .u8 3, .int .u8 61, .int .u8 58, .int .u8 42, .int .u8 50, .int .u8 38, .int .u8 29, .int .u8 17, .int .u8 4, .int .u8 62, .int .u8 47, .int .u8 59, .int .u8 36, .int .u8 45, .int .u8 43, .int .u8 51, .int .u8 22, .int .u8 53, .int .u8 39, .int .u8 33, .int .u8 30, .int .u8 24, .int .u8 18, .int .u8 12, .int .u8 5, .int .u8 63, .int .u8 55, .int .u8 48, .int .u8 27, .int .u8 60, .int .u8 41, .int .u8 37, .int .u8 16, .int .u8 46, .int .u8 35, .int .u8 44, .int .u8 21, .int .u8 52, .int .u8 32, .int .u8 23, .int .u8 11, .int .u8 54, .int .u8 26, .int .u8 40, .int .u8 15, .int .u8 34, .int .u8 20, .int .u8 31, .int .u8 10, .int .u8 25, .int .u8 14, .int .u8 19, .int .u8 9, .int .u8 13, .int .u8 8, .int .u8 7, .int .u8 6] t frozen
      | o => o) }

theorem array7 {α : Type} {cs : Array α} (h : cs.size = 7) : ∃ c0 c1 c2 c3 c4 c5 c6, cs = #[c0, c1, c2, c3, c4, c5, c6] := by
  obtain ⟨l⟩ := cs
  match l, h with
  | [c0, c1, c2, c3, c4, c5, c6], _ => exact ⟨c0, c1, c2, c3, c4, c5, c6, rfl⟩
theorem list5 {α : Type} {l : List α} {n : Nat} (h : l.length = n) (hn : n = 5 := by rfl) : ∃ c0 c1 c2 c3 c4, l = [c0, c1, c2, c3, c4] := by
  subst hn
  match l, h with
  | [c0, c1, c2, c3, c4], _ => exact ⟨c0, c1, c2, c3, c4, rfl⟩
theorem open_account {H : Type} {enc : TypeId × Value → H} {W : World} {b : Nat} {sp : Nat → Bool} {g : Bool} {fuel : Nat} {cs : List Value} {x : DataW H × List MemPlace}
    (h : DataW.trod enc Tryd.prog W b sp g fuel 23 cs = some x) : ∃ k s, cs = [.int .i64 k, .string s] ∧ (Lit.int .i64 k).wf = true ∧ s.size ≤ maxLen := by
  obtain ⟨y0, y1, n, rfl, hl, h0, h1⟩ := trod_struct2 Tryd.underlying23 h
  have hl2 : cs.length = 2 := hl.trans (by kernel_rfl)
  match cs, hl2 with
  | [c0, c1], _ =>
    obtain ⟨k, e0, _, wk⟩ := DataW.trod_int Tryd.underlying3 h0
    obtain ⟨s, e1, _, ws⟩ := DataW.trod_string Tryd.underlying9 h1
    rw [show Tryd.prog.cellsOf 3 = 1 from by kernel_rfl] at e0
    rw [show Tryd.prog.cellsOf 9 = 1 from by kernel_rfl] at e1
    simp at e0 e1
    subst e0 e1
    exact ⟨k, s, rfl, wk, ws⟩
theorem open_moved {H : Type} {enc : TypeId × Value → H} {W : World} {b0 b : Nat} {sp : Nat → Bool} {g : Bool} {v : Value} {d : DataW H} {p : List MemPlace}
    (hv : Value.okWide Tryd.prog W .any b0 25 v) (h : DataW.Trod enc Tryd.prog W b sp g 25 v d p) :
    ∃ (z : Int) (r : ByteArray) (k : Int) (s : ByteArray) (j : Int) (t : ByteArray) (n : Int), v = .agg #[.int .i64 z, .string r, .int .i64 k, .string s, .int .i64 j, .string t, .int .i64 n] ∧
      (Lit.int .i64 k).wf = true ∧ (Lit.int .i64 j).wf = true ∧ (Lit.int .i64 n).wf = true ∧ r.size ≤ maxLen ∧ s.size ≤ maxLen ∧ t.size ≤ maxLen := by
  obtain ⟨cs, rfl, hsz⟩ := okWide_struct Tryd.underlying25 hv
  obtain ⟨c0, c1, c2, c3, c4, c5, c6, rfl⟩ := array7 (hsz.trans (by kernel_rfl))
  obtain ⟨fuel, hf⟩ := h
  obtain ⟨xs, n, _, hx, hl, hlen, hf⟩ := DataW.trod_struct Tryd.underlying25 hf
  obtain ⟨y0, y1, y2, y3, y4, rfl⟩ := list5 hlen
  have g0 : _ = some y0 := hf 0 _ rfl
  have g1 : _ = some y1 := hf 1 _ rfl
  have g2 : _ = some y2 := hf 2 _ rfl
  have g3 : _ = some y3 := hf 3 _ rfl
  have g4 : _ = some y4 := hf 4 _ rfl
  obtain ⟨z, e0, _, wz⟩ := DataW.trod_int Tryd.underlying3 g0
  obtain ⟨r, e1, _, wr⟩ := DataW.trod_string Tryd.underlying9 g1
  obtain ⟨k, s, e2, wk, ws⟩ := open_account g2
  obtain ⟨j, t, e3, wj, wt⟩ := open_account g3
  obtain ⟨n, e4, _, wn⟩ := DataW.trod_int Tryd.underlying2 g4
  replace e0 : List.take (Tryd.prog.cellsOf 3) (List.drop 0 [c0, c1, c2, c3, c4, c5, c6]) = _ := e0
  replace e1 : List.take (Tryd.prog.cellsOf 9) (List.drop 1 [c0, c1, c2, c3, c4, c5, c6]) = _ := e1
  replace e2 : List.take (Tryd.prog.cellsOf 23) (List.drop 2 [c0, c1, c2, c3, c4, c5, c6]) = _ := e2
  replace e3 : List.take (Tryd.prog.cellsOf 23) (List.drop 4 [c0, c1, c2, c3, c4, c5, c6]) = _ := e3
  replace e4 : List.take (Tryd.prog.cellsOf 2) (List.drop 6 [c0, c1, c2, c3, c4, c5, c6]) = _ := e4
  rw [show Tryd.prog.cellsOf 3 = 1 from by kernel_rfl] at e0
  rw [show Tryd.prog.cellsOf 9 = 1 from by kernel_rfl] at e1
  rw [show Tryd.prog.cellsOf 23 = 2 from by kernel_rfl] at e2 e3
  rw [show Tryd.prog.cellsOf 2 = 1 from by kernel_rfl] at e4
  simp at e0 e1 e2 e3 e4
  obtain ⟨rfl, rfl⟩ := e2
  obtain ⟨rfl, rfl⟩ := e3
  subst e0 e1 e4
  exact ⟨z, r, k, s, j, t, n, rfl, wk, wj, wn, wr, ws, wt⟩
end Go.Proofs.YtdhokgkihaiomaaDoor
