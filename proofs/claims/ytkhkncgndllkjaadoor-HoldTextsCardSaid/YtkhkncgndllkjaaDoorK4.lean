/- Contracts: what is left of a hold; a hold whose time is over. Conditions: the program's array of sizes holds what its initialiser lays. -/
import Derived.Test.YtkhkncgndllkjaaDoorK3
namespace Go.Proofs.YtkhkncgndllkjaaDoor.Hol
open Go.RowKit Cht

def leftH (x : Hd) : Int := if mayH x = true ∧ x.op = true then x.ap - x.ca else 0
def noH : Hd := ⟨⟨#[]⟩, ⟨#[]⟩, ⟨#[]⟩, 0, 0, 0, false⟩
def lapseH (x : Hd) (t : Int) : Hd × Bool := if mayH x = false then (noH, false) else if x.op = true ∧ x.un < t then (⟨x.r, x.a, x.p, x.ap, x.ca, x.un, false⟩, true) else (x, false)
theorem lapse_1 {x : Hd} {t : Int} (h : mayH x = false) : lapseH x t = (noH, false) := if_pos h
theorem lapse_2 {x : Hd} {t : Int} (h : mayH x = true) (h2 : x.op = true ∧ x.un < t) : lapseH x t = (⟨x.r, x.a, x.p, x.ap, x.ca, x.un, false⟩, true) := by unfold lapseH; rw [if_neg (by rw [h]; decide), if_pos h2]
theorem lapse_3 {x : Hd} {t : Int} (h : mayH x = true) (h2 : ¬ (x.op = true ∧ x.un < t)) : lapseH x t = (x, false) := by unfold lapseH; rw [if_neg (by rw [h]; decide), if_neg h2]
theorem left_1 {x : Hd} (h : mayH x = false) : leftH x = 0 := if_neg (by rw [h]; simp)
theorem left_2 {x : Hd} (h : x.op = false) : leftH x = 0 := if_neg (by rw [h]; simp)
theorem left_3 {x : Hd} (h : mayH x = true) (h2 : x.op = true) : leftH x = x.ap - x.ca := if_pos ⟨h, h2⟩
theorem below_put7 {w0 w : World} {B g : Nat} (h : Below B w0 w) (hg : B ≤ g) (a0 a1 a2 a3 a4 a5 a6 : Value) :
    Below B w0 (((((((w.setCell ⟨g, 0, none⟩ a0).setCell ⟨g, 1, none⟩ a1).setCell ⟨g, 2, none⟩ a2).setCell ⟨g, 3, none⟩ a3).setCell ⟨g, 4, none⟩ a4).setCell ⟨g, 5, none⟩ a5).setCell ⟨g, 6, none⟩ a6) :=
  ((((((h.setCell (p := ⟨g, 0, none⟩) hg a0).setCell (p := ⟨g, 1, none⟩) hg a1).setCell (p := ⟨g, 2, none⟩) hg a2).setCell (p := ⟨g, 3, none⟩) hg a3).setCell (p := ⟨g, 4, none⟩) hg a4).setCell (p := ⟨g, 5, none⟩) hg a5).setCell (p := ⟨g, 6, none⟩) hg a6
theorem hd_eta {x : Hd} {b : Bool} (h : x.op = b) : (⟨x.r, x.a, x.p, x.ap, x.ca, x.un, b⟩ : Hd) = x := by cases x; cases h; rfl

set_option maxHeartbeats 1600000 in
theorem lapse_any (x : Hd) (t : Int) (w : World) (hE : Env w) (hf : FitH x) :
    Calls Tryd.prog 25 #[hv x, .int .i64 t] w fun e w' => e = .returned (.tuple #[hv (lapseH x t).1, .bool (lapseH x t).2]) ∧ Below w.heap.size w w' := by
  have hw0 := Below.refl w.heap.size w
  obtain ⟨W, hW⟩ : ∃ W, W = (w.alloc (.cells (hcs x) 23)).alloc (.cells #[.string ⟨#[]⟩, .string ⟨#[]⟩, .string ⟨#[]⟩, .int .i64 0, .int .i64 0, .int .i64 0, .bool false] 23) := ⟨_, rfl⟩
  have hz1 : (w.alloc (.cells (hcs x) 23)).heap.size = w.heap.size + 1 := World.size_alloc _ _
  have b1 : BoxH (w.heap.size + 1) noH W := by rw [hW, ← hz1]; exact BoxH.new _ noH
  have b0 : BoxH w.heap.size x W := by
    rw [hW]
    exact (BoxH.new w x).below ((Below.refl _ _).alloc (Nat.le_refl _) _) (by rw [hz1]; omega)
  have hb : Below w.heap.size w W := by
    rw [hW]; exact (hw0.alloc (Nat.le_refl _) _).alloc (by rw [hz1]; omega) _
  obtain ⟨g, hg⟩ : ∃ g, g = w.heap.size + 1 := ⟨_, rfl⟩
  have hz : W.heap.size = w.heap.size + 1 + 1 := by rw [hW, World.size_alloc, hz1]
  have HX1 := Lib.hid (fun (W : World) (h : Below w.heap.size w W) => may_any x W (hE.below h) hf)
  have HW := Lib.hid hW
  rw [← hg] at b1 hz
  have HG := Lib.hid hg
  have hg1 : w.heap.size < g := by omega
  clear hE hf hW hz1 hw0 hg
  cases hm : mayH x with
  | false =>
    have HR := Lib.hid (lapse_1 (t := t) hm)
    rw [hm] at HX1
    clear hm
    obtain ⟨c0, c1, c2, c3, c4, c5, c6, cf⟩ := b0.cells
    obtain ⟨d0, d1, d2, d3, d4, d5, d6, df⟩ := b1.cells
    go_enter Tryd.func25, Tryd.ntmps25
    go_upto_region 1 with fail
    rw [← HW.out, ← HG.out]
    clear HW HG
    go_wp2_with fail
    refine (HX1.out _ hb).mono ?_
    rintro e w1 ⟨rfl, hb1⟩
    have hs1 := hb1.size
    replace b0 := b0.below hb1 (by omega)
    replace b1 := b1.below hb1 (by omega)
    replace hb := Below.on hb hb1
    clear hb1 c0 c1 c2 c3 c4 c5 c6 cf d0 d1 d2 d3 d4 d5 d6 df
    obtain ⟨c0, c1, c2, c3, c4, c5, c6, cf⟩ := b0.cells
    obtain ⟨d0, d1, d2, d3, d4, d5, d6, df⟩ := b1.cells
    go_wp2_with fail
    refine bodyPost_ret (v := .tuple #[.agg #[.string ⟨#[]⟩, .string ⟨#[]⟩, .string ⟨#[]⟩, .int .i64 0, .int .i64 0, .int .i64 0, .bool false], .bool false]) (by simp [results, Tryd.results25, go_sem, d0, d1, d2, d3, d4, d5, d6]) rfl ⟨by rw [HR.out]; try rfl, ?_⟩
    exact below_put7 (hb) (by omega) _ _ _ _ _ _ _
  | true =>
    rw [hm] at HX1
    cases ho : x.op with
    | false =>
      have HR := Lib.hid (lapse_3 (t := t) hm (by rw [ho]; simp))
      have HO := Lib.hid ho
      have HY := Lib.hid (hd_eta ho)
      clear hm ho
      obtain ⟨c0, c1, c2, c3, c4, c5, c6, cf⟩ := b0.cells
      obtain ⟨d0, d1, d2, d3, d4, d5, d6, df⟩ := b1.cells
      go_enter Tryd.func25, Tryd.ntmps25
      go_upto_region 1 with fail
      rw [← HW.out, ← HG.out]
      clear HW HG
      go_wp2_with fail
      refine (HX1.out _ hb).mono ?_
      rintro e w1 ⟨rfl, hb1⟩
      have hs1 := hb1.size
      replace b0 := b0.below hb1 (by omega)
      replace b1 := b1.below hb1 (by omega)
      replace hb := Below.on hb hb1
      clear hb1 c0 c1 c2 c3 c4 c5 c6 cf d0 d1 d2 d3 d4 d5 d6 df
      obtain ⟨c0, c1, c2, c3, c4, c5, c6, cf⟩ := b0.cells
      obtain ⟨d0, d1, d2, d3, d4, d5, d6, df⟩ := b1.cells
      have ho1 := HO.out
      go_wp2_with fail
      refine bodyPost_ret (v := .tuple #[.agg #[.string x.r, .string x.a, .string x.p, .int .i64 x.ap, .int .i64 x.ca, .int .i64 x.un, .bool false], .bool false]) (by simp [results, Tryd.results25, go_sem, d0, d1, d2, d3, d4, d5, d6]) rfl ⟨by rw [HR.out]; exact congrArg (fun y => Ending.returned (.tuple #[hv y, .bool false])) HY.out, ?_⟩
      exact below_put7 (hb) (by omega) _ _ _ _ _ _ _
    | true =>
      by_cases ht : x.un < t
      · have HR := Lib.hid (lapse_2 (t := t) hm ⟨ho, ht⟩)
        have HO := Lib.hid ho
        have HT := Lib.hid ht
        clear hm ho ht
        obtain ⟨c0, c1, c2, c3, c4, c5, c6, cf⟩ := b0.cells
        obtain ⟨d0, d1, d2, d3, d4, d5, d6, df⟩ := b1.cells
        go_enter Tryd.func25, Tryd.ntmps25
        go_upto_region 1 with fail
        rw [← HW.out, ← HG.out]
        clear HW HG
        go_wp2_with fail
        refine (HX1.out _ hb).mono ?_
        rintro e w1 ⟨rfl, hb1⟩
        have hs1 := hb1.size
        replace b0 := b0.below hb1 (by omega)
        replace b1 := b1.below hb1 (by omega)
        replace hb := Below.on hb hb1
        clear hb1 c0 c1 c2 c3 c4 c5 c6 cf d0 d1 d2 d3 d4 d5 d6 df
        obtain ⟨c0, c1, c2, c3, c4, c5, c6, cf⟩ := b0.cells
        obtain ⟨d0, d1, d2, d3, d4, d5, d6, df⟩ := b1.cells
        have ho1 := HO.out
        have ho2 := HT.out
        go_wp2_with fail
        refine bodyPost_ret (v := .tuple #[.agg #[.string x.r, .string x.a, .string x.p, .int .i64 x.ap, .int .i64 x.ca, .int .i64 x.un, .bool false], .bool true]) (by simp [results, Tryd.results25, go_sem, d0, d1, d2, d3, d4, d5, d6]) rfl ⟨by rw [HR.out]; try rfl, ?_⟩
        exact below_put7 (hb.setCell (p := ⟨w.heap.size, 6, none⟩) (Nat.le_refl _) _) (by omega) _ _ _ _ _ _ _
      · have HR := Lib.hid (lapse_3 (t := t) hm (fun h => ht h.2))
        have HO := Lib.hid ho
        have HY := Lib.hid (hd_eta ho)
        have HT := Lib.hid ht
        clear hm ho ht
        obtain ⟨c0, c1, c2, c3, c4, c5, c6, cf⟩ := b0.cells
        obtain ⟨d0, d1, d2, d3, d4, d5, d6, df⟩ := b1.cells
        go_enter Tryd.func25, Tryd.ntmps25
        go_upto_region 1 with fail
        rw [← HW.out, ← HG.out]
        clear HW HG
        go_wp2_with fail
        refine (HX1.out _ hb).mono ?_
        rintro e w1 ⟨rfl, hb1⟩
        have hs1 := hb1.size
        replace b0 := b0.below hb1 (by omega)
        replace b1 := b1.below hb1 (by omega)
        replace hb := Below.on hb hb1
        clear hb1 c0 c1 c2 c3 c4 c5 c6 cf d0 d1 d2 d3 d4 d5 d6 df
        obtain ⟨c0, c1, c2, c3, c4, c5, c6, cf⟩ := b0.cells
        obtain ⟨d0, d1, d2, d3, d4, d5, d6, df⟩ := b1.cells
        have ho1 := HO.out
        have ho2 := HT.out
        go_wp2_with fail
        refine bodyPost_ret (v := .tuple #[.agg #[.string x.r, .string x.a, .string x.p, .int .i64 x.ap, .int .i64 x.ca, .int .i64 x.un, .bool true], .bool false]) (by simp [results, Tryd.results25, go_sem, d0, d1, d2, d3, d4, d5, d6]) rfl ⟨by rw [HR.out]; exact congrArg (fun y => Ending.returned (.tuple #[hv y, .bool false])) HY.out, ?_⟩
        exact below_put7 (hb) (by omega) _ _ _ _ _ _ _
set_option maxHeartbeats 1600000 in
theorem left_any (x : Hd) (w : World) (hE : Env w) (hf : FitH x) :
    Calls Tryd.prog 21 #[hv x] w fun e w' => e = .returned (.int .i64 (leftH x)) ∧ Below w.heap.size w w' := by
  have hw0 := Below.refl w.heap.size w
  obtain ⟨W, hW⟩ : ∃ W, W = w.alloc (.cells (hcs x) 23) := ⟨_, rfl⟩
  have b0 := BoxH.to hW
  have hb : Below w.heap.size w W := by rw [hW]; exact hw0.alloc (Nat.le_refl _) _
  have hz : W.heap.size = w.heap.size + 1 := by rw [hW]; exact World.size_alloc _ _
  have HX1 := Lib.hid (fun (W : World) (h : Below w.heap.size w W) => may_any x W (hE.below h) hf)
  have HW := Lib.hid hW
  obtain ⟨f1, f2, f3, f4, f5, f6⟩ := hf
  clear hW hw0 hE
  cases hm : mayH x with
  | false =>
    have HR := Lib.hid (left_1 hm)
    rw [hm] at HX1
    clear hm
    obtain ⟨c0, c1, c2, c3, c4, c5, c6, cf⟩ := b0.cells
    go_enter Tryd.func21, Tryd.ntmps21
    go_upto_region 1 with fail
    rw [← HW.out]
    clear HW
    go_wp2_with fail
    refine (HX1.out _ hb).mono ?_
    rintro e w1 ⟨rfl, hb1⟩
    have hs1 := hb1.size
    replace b0 := b0.below hb1 (by omega)
    replace hb := Below.on hb hb1
    clear hb1 c0 c1 c2 c3 c4 c5 c6 cf
    obtain ⟨c0, c1, c2, c3, c4, c5, c6, cf⟩ := b0.cells
    go_wp2_with fail
    go_ret
    exact ⟨ret1 HR.out.symm, hb⟩
  | true =>
    rw [hm] at HX1
    cases ho : x.op with
    | false =>
      have HR := Lib.hid (left_2 ho)
      have HO := Lib.hid ho
      clear hm ho
      obtain ⟨c0, c1, c2, c3, c4, c5, c6, cf⟩ := b0.cells
      go_enter Tryd.func21, Tryd.ntmps21
      go_upto_region 1 with fail
      rw [← HW.out]
      clear HW
      go_wp2_with fail
      refine (HX1.out _ hb).mono ?_
      rintro e w1 ⟨rfl, hb1⟩
      have hs1 := hb1.size
      replace b0 := b0.below hb1 (by omega)
      replace hb := Below.on hb hb1
      clear hb1 c0 c1 c2 c3 c4 c5 c6 cf
      obtain ⟨c0, c1, c2, c3, c4, c5, c6, cf⟩ := b0.cells
      have ho1 := HO.out
      go_wp2_with fail
      go_ret
      exact ⟨ret1 HR.out.symm, hb⟩
    | true =>
      have HR := Lib.hid (left_3 hm ho)
      have HO := Lib.hid ho
      obtain ⟨-, -, -, -, hk, -⟩ := mayH_t hm
      clear hm ho
      obtain ⟨c0, c1, c2, c3, c4, c5, c6, cf⟩ := b0.cells
      go_enter Tryd.func21, Tryd.ntmps21
      go_upto_region 1 with fail
      rw [← HW.out]
      clear HW
      go_wp2_with fail
      refine (HX1.out _ hb).mono ?_
      rintro e w1 ⟨rfl, hb1⟩
      have hs1 := hb1.size
      replace b0 := b0.below hb1 (by omega)
      replace hb := Below.on hb hb1
      clear hb1 c0 c1 c2 c3 c4 c5 c6 cf
      obtain ⟨c0, c1, c2, c3, c4, c5, c6, cf⟩ := b0.cells
      have ho1 := HO.out
      go_wp2_with fail
      go_ret
      exact ⟨ret1 HR.out.symm, hb⟩
end Go.Proofs.YtkhkncgndllkjaaDoor.Hol
