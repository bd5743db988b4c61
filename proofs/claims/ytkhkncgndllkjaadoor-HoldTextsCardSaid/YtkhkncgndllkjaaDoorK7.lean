/- Contracts: what is done to a hold, by what a caller hands in. Conditions: the program's array of sizes holds what its initialiser lays. -/
import Derived.Test.YtkhkncgndllkjaaDoorK6
namespace Go.Proofs.YtkhkncgndllkjaaDoor.Hol
open Go.RowKit Cht
open Mny (Fits vOf eOf vOf_t vOf_f eOf_t eOf_f)

theorem add_any (a b : Int) (w : World) (ha : Fits a) (hb : Fits b) :
    Calls Tryd.prog 44 #[.int .i64 a, .int .i64 b] w fun e w' => e = .returned (.tuple #[.int .i64 (vOf (a + b)), .int .i64 (eOf (a + b))]) ∧ w = w' := by
  go_enter Tryd.func44, Tryd.ntmps44
  go_wp2
  · have f := Mny.add_over ha hb ‹_›
    go_ret2
    exact ⟨Mny.ret2 (vOf_f f).symm (eOf_f f).symm, rfl⟩
  · have f := Mny.add_fine ha hb ‹_›
    go_ret2
    exact ⟨Mny.ret2 ((Mny.wrap_t f).trans (vOf_t f).symm) (eOf_t f).symm, rfl⟩

def more1 (x : Hd) (n u : Int) : Hd × Int := if 0 ≤ u ∧ u ≤ 2147483647 then (⟨x.r, x.a, x.p, vOf (x.ap + n), x.ca, u, x.op⟩, eOf (x.ap + n)) else (x, 1)
set_option maxRecDepth 100000 in
set_option maxHeartbeats 3200000 in
theorem more1_any (x : Hd) (n u : Int) (i j : Nat) (w : World) (hf : FitH x) (hn : Fits n) (hi : Box1 i 3 (.int .i64 u) w) (hj : Box1 j 2 (.int .i64 n) w) :
    Calls Tryd.prog 43 #[hv x, .pointer (some ⟨i, 0, none⟩), .pointer (some ⟨j, 0, none⟩)] w fun e w' => e = .returned (.tuple #[hv (more1 x n u).1, .int .i64 (more1 x n u).2]) ∧ Below w.heap.size w w' := by
  have hw0 := Below.refl w.heap.size w
  obtain ⟨W, hW⟩ : ∃ W, W = ((w.alloc (.cells (hcs x) 23)).alloc (.cells #[.string ⟨#[]⟩, .string ⟨#[]⟩, .string ⟨#[]⟩, .int .i64 0, .int .i64 0, .int .i64 0, .bool false] 23)) := ⟨_, rfl⟩
  have hz0 : w.heap.size = w.heap.size := rfl
  have hz1 : (w.alloc (.cells (hcs x) 23)).heap.size = w.heap.size + 1 := by rw [World.size_alloc]
  have hz2 : ((w.alloc (.cells (hcs x) 23)).alloc (.cells #[.string ⟨#[]⟩, .string ⟨#[]⟩, .string ⟨#[]⟩, .int .i64 0, .int .i64 0, .int .i64 0, .bool false] 23)).heap.size = w.heap.size + 1 + 1 := by rw [World.size_alloc, hz1]
  obtain ⟨g1, hg1⟩ : ∃ g, g = w.heap.size + 1 := ⟨_, rfl⟩
  have q0 : BoxH w.heap.size x W := by rw [hW]; exact ((BoxH.new w x).alloc _)
  have q1 : BoxH g1 noH W := by rw [hW, hg1, ← hz1]; exact (BoxH.new (w.alloc (.cells (hcs x) 23)) noH)
  have hb : Below w.heap.size w W := by rw [hW]; exact ((hw0.alloc (Nat.le_refl _) _).alloc (by rw [hz1]; omega) _)
  have hz : W.heap.size = w.heap.size + 1 + 1 := by rw [hW]; exact hz2
  have hl1 : w.heap.size < g1 ∧ g1 < W.heap.size := by omega
  have HW := Lib.hid hW
  have HG1 := Lib.hid hg1
  clear hW hw0 hz0 hz1 hz2 hg1
  have ui := (hi.below hb hi.lt).cell.1
  have uj := (hj.below hb hj.lt).cell.1
  have hil := hi.lt
  have hjl := hj.lt
  have HU := Lib.hid (until_any u)
  have HA := Lib.hid (add_any x.ap n)
  have hfa : Fits x.ap := hf.ap
  clear hf hi hj
  obtain ⟨c0, c1, c2, c3, c4, c5, c6, cf⟩ := q0.cells
  obtain ⟨d0, d1, d2, d3, d4, d5, d6, df⟩ := q1.cells
  by_cases hu : 0 ≤ u ∧ u ≤ 2147483647
  · have HR : Hid (more1 x n u = (⟨x.r, x.a, x.p, vOf (x.ap + n), x.ca, u, x.op⟩, eOf (x.ap + n))) := if_pos hu
    have HD : Hid (decide (0 ≤ u ∧ u ≤ 2147483647) = true) := decide_eq_true hu
    clear hu
    go_enter Tryd.func43, Tryd.ntmps43
    go_upto_region 1 with fail
    rw [← HW.out, ← HG1.out]
    clear HW HG1
    go_wp2_with fail
    refine (HU.out _).mono ?_
    rintro e w' ⟨rfl, rfl⟩
    rw [HD.out]
    go_wp2_with fail
    refine (HA.out _ hfa hn).mono ?_
    rintro e w' ⟨rfl, rfl⟩
    go_wp2_with fail
    refine bodyPost_ret (v := .tuple #[.agg #[.string x.r, .string x.a, .string x.p, .int .i64 (vOf (x.ap + n)), .int .i64 x.ca, .int .i64 u, .bool x.op], .int .i64 (eOf (x.ap + n))]) (by simp [results, Tryd.results43, go_sem, d0, d1, d2, d3, d4, d5, d6]) rfl ⟨by rw [HR.out]; try rfl, ?_⟩
    exact below_put7 ((hb.setCell (p := ⟨w.heap.size, 3, none⟩) (Nat.le_refl _) _).setCell (p := ⟨w.heap.size, 5, none⟩) (Nat.le_refl _) _) (by omega) _ _ _ _ _ _ _
  · have HR : Hid (more1 x n u = (x, 1)) := if_neg hu
    have HD : Hid (decide (0 ≤ u ∧ u ≤ 2147483647) = false) := decide_eq_false hu
    clear hu
    go_enter Tryd.func43, Tryd.ntmps43
    go_upto_region 1 with fail
    rw [← HW.out, ← HG1.out]
    clear HW HG1
    go_wp2_with fail
    refine (HU.out _).mono ?_
    rintro e w' ⟨rfl, rfl⟩
    rw [HD.out]
    go_wp2_with fail
    refine bodyPost_ret (v := .tuple #[.agg #[.string x.r, .string x.a, .string x.p, .int .i64 x.ap, .int .i64 x.ca, .int .i64 x.un, .bool x.op], .int .i64 1]) (by simp [results, Tryd.results43, go_sem, d0, d1, d2, d3, d4, d5, d6]) rfl ⟨by rw [HR.out]; try rfl, ?_⟩
    exact below_put7 (hb) (by omega) _ _ _ _ _ _ _
def undo1 (x : Hd) : Hd × Int := (⟨x.r, x.a, x.p, x.ca, x.ca, x.un, x.op⟩, 0)
set_option maxRecDepth 100000 in
set_option maxHeartbeats 3200000 in
theorem undo1_any (x : Hd) (w : World) :
    Calls Tryd.prog 48 #[hv x] w fun e w' => e = .returned (.tuple #[hv (undo1 x).1, .int .i64 (undo1 x).2]) ∧ Below w.heap.size w w' := by
  have hw0 := Below.refl w.heap.size w
  obtain ⟨W, hW⟩ : ∃ W, W = ((w.alloc (.cells (hcs x) 23)).alloc (.cells #[.string ⟨#[]⟩, .string ⟨#[]⟩, .string ⟨#[]⟩, .int .i64 0, .int .i64 0, .int .i64 0, .bool false] 23)) := ⟨_, rfl⟩
  have hz0 : w.heap.size = w.heap.size := rfl
  have hz1 : (w.alloc (.cells (hcs x) 23)).heap.size = w.heap.size + 1 := by rw [World.size_alloc]
  have hz2 : ((w.alloc (.cells (hcs x) 23)).alloc (.cells #[.string ⟨#[]⟩, .string ⟨#[]⟩, .string ⟨#[]⟩, .int .i64 0, .int .i64 0, .int .i64 0, .bool false] 23)).heap.size = w.heap.size + 1 + 1 := by rw [World.size_alloc, hz1]
  obtain ⟨g1, hg1⟩ : ∃ g, g = w.heap.size + 1 := ⟨_, rfl⟩
  have q0 : BoxH w.heap.size x W := by rw [hW]; exact ((BoxH.new w x).alloc _)
  have q1 : BoxH g1 noH W := by rw [hW, hg1, ← hz1]; exact (BoxH.new (w.alloc (.cells (hcs x) 23)) noH)
  have hb : Below w.heap.size w W := by rw [hW]; exact ((hw0.alloc (Nat.le_refl _) _).alloc (by rw [hz1]; omega) _)
  have hz : W.heap.size = w.heap.size + 1 + 1 := by rw [hW]; exact hz2
  have hl1 : w.heap.size < g1 ∧ g1 < W.heap.size := by omega
  have HW := Lib.hid hW
  have HG1 := Lib.hid hg1
  clear hW hw0 hz0 hz1 hz2 hg1
  obtain ⟨c0, c1, c2, c3, c4, c5, c6, cf⟩ := q0.cells
  obtain ⟨d0, d1, d2, d3, d4, d5, d6, df⟩ := q1.cells
  go_enter Tryd.func48, Tryd.ntmps48
  go_upto_region 1 with fail
  rw [← HW.out, ← HG1.out]
  clear HW HG1
  go_wp2_with fail
  refine bodyPost_ret (v := .tuple #[.agg #[.string x.r, .string x.a, .string x.p, .int .i64 x.ca, .int .i64 x.ca, .int .i64 x.un, .bool x.op], .int .i64 0]) (by simp [results, Tryd.results48, go_sem, d0, d1, d2, d3, d4, d5, d6]) rfl ⟨rfl, ?_⟩
  exact below_put7 (hb.setCell (p := ⟨w.heap.size, 3, none⟩) (Nat.le_refl _) _) (by omega) _ _ _ _ _ _ _
def byH (x : Hd) (n : Int) (d : Hd × Int) : Hd × Int := if n < 1 then (x, 1) else d
set_option maxRecDepth 100000 in
set_option maxHeartbeats 3200000 in
theorem by43_any (p q : Value) (x : Hd) (n : Int) (d : Hd × Int) (i j : Nat) (w : World) (hi : Box1 i 2 (.int .i64 n) w) (hj : Box1 j 51 (.func (.func 43) #[] #[p, q]) w)
    (hF : ¬ n < 1 → ∀ V, Below w.heap.size w V → Calls Tryd.prog 43 #[hv x, p, q] V fun e w' => e = .returned (.tuple #[hv d.1, .int .i64 d.2]) ∧ Below V.heap.size V w') :
    Calls Tryd.prog 61 #[hv x, .pointer (some ⟨i, 0, none⟩), .pointer (some ⟨j, 0, none⟩)] w fun e w' => e = .returned (.tuple #[hv (byH x n d).1, .int .i64 (byH x n d).2]) ∧ Below w.heap.size w w' := by
  have hw0 := Below.refl w.heap.size w
  obtain ⟨W, hW⟩ : ∃ W, W = ((w.alloc (.cells (hcs x) 23)).alloc (.cells #[.string ⟨#[]⟩, .string ⟨#[]⟩, .string ⟨#[]⟩, .int .i64 0, .int .i64 0, .int .i64 0, .bool false] 23)) := ⟨_, rfl⟩
  have hz0 : w.heap.size = w.heap.size := rfl
  have hz1 : (w.alloc (.cells (hcs x) 23)).heap.size = w.heap.size + 1 := by rw [World.size_alloc]
  have hz2 : ((w.alloc (.cells (hcs x) 23)).alloc (.cells #[.string ⟨#[]⟩, .string ⟨#[]⟩, .string ⟨#[]⟩, .int .i64 0, .int .i64 0, .int .i64 0, .bool false] 23)).heap.size = w.heap.size + 1 + 1 := by rw [World.size_alloc, hz1]
  obtain ⟨g1, hg1⟩ : ∃ g, g = w.heap.size + 1 := ⟨_, rfl⟩
  have q0 : BoxH w.heap.size x W := by rw [hW]; exact ((BoxH.new w x).alloc _)
  have q1 : BoxH g1 noH W := by rw [hW, hg1, ← hz1]; exact (BoxH.new (w.alloc (.cells (hcs x) 23)) noH)
  have hb : Below w.heap.size w W := by rw [hW]; exact ((hw0.alloc (Nat.le_refl _) _).alloc (by rw [hz1]; omega) _)
  have hz : W.heap.size = w.heap.size + 1 + 1 := by rw [hW]; exact hz2
  have hl1 : w.heap.size < g1 ∧ g1 < W.heap.size := by omega
  have HW := Lib.hid hW
  have HG1 := Lib.hid hg1
  clear hW hw0 hz0 hz1 hz2 hg1
  have ui := (hi.below hb hi.lt).cell.1
  have uj := (hj.below hb hj.lt).cell.1
  have hil := hi.lt
  have hjl := hj.lt
  obtain ⟨⟨yr, ya, yp, yap, yca, yun, yop⟩, ye⟩ := d
  have HF := Lib.hid hF
  clear hF hi hj
  obtain ⟨c0, c1, c2, c3, c4, c5, c6, cf⟩ := q0.cells
  obtain ⟨d0, d1, d2, d3, d4, d5, d6, df⟩ := q1.cells
  by_cases hn : n < 1
  · have HR : Hid (byH x n (⟨yr, ya, yp, yap, yca, yun, yop⟩, ye) = (x, 1)) := if_pos hn
    go_enter Tryd.func61, Tryd.ntmps61
    go_upto_region 1 with fail
    rw [← HW.out, ← HG1.out]
    clear HW HG1
    go_wp2_with fail
    refine bodyPost_ret (v := .tuple #[.agg #[.string x.r, .string x.a, .string x.p, .int .i64 x.ap, .int .i64 x.ca, .int .i64 x.un, .bool x.op], .int .i64 1]) (by simp [results, Tryd.results61, go_sem, d0, d1, d2, d3, d4, d5, d6]) rfl ⟨by rw [HR.out]; try rfl, ?_⟩
    exact below_put7 (hb) (by omega) _ _ _ _ _ _ _
  · have HR : Hid (byH x n (⟨yr, ya, yp, yap, yca, yun, yop⟩, ye) = (⟨yr, ya, yp, yap, yca, yun, yop⟩, ye)) := if_neg hn
    have HG := Lib.hid (HF.out hn)
    clear HF
    go_enter Tryd.func61, Tryd.ntmps61
    go_upto_region 1 with fail
    rw [← HW.out, ← HG1.out]
    clear HW HG1
    go_wp2_with fail
    refine (HG.out _ hb).mono ?_
    rintro e w1 ⟨rfl, hb1⟩
    dsimp only
    replace q1 := q1.below hb1 (by omega)
    replace hb := Below.on hb hb1
    clear hb1 q0 ui uj c0 c1 c2 c3 c4 c5 c6 cf d0 d1 d2 d3 d4 d5 d6 df
    obtain ⟨d0, d1, d2, d3, d4, d5, d6, df⟩ := q1.cells
    go_wp2_with fail
    refine bodyPost_ret (v := .tuple #[.agg #[.string yr, .string ya, .string yp, .int .i64 yap, .int .i64 yca, .int .i64 yun, .bool yop], .int .i64 ye]) (by simp [results, Tryd.results61, go_sem, d0, d1, d2, d3, d4, d5, d6]) rfl ⟨by rw [HR.out]; try rfl, ?_⟩
    exact below_put7 (hb) (by omega) _ _ _ _ _ _ _
set_option maxRecDepth 100000 in
set_option maxHeartbeats 3200000 in
theorem by45_any (p q : Value) (x : Hd) (n : Int) (d : Hd × Int) (i j : Nat) (w : World) (hi : Box1 i 2 (.int .i64 n) w) (hj : Box1 j 51 (.func (.func 45) #[] #[p, q]) w)
    (hF : ¬ n < 1 → ∀ V, Below w.heap.size w V → Calls Tryd.prog 45 #[hv x, p, q] V fun e w' => e = .returned (.tuple #[hv d.1, .int .i64 d.2]) ∧ Below V.heap.size V w') :
    Calls Tryd.prog 61 #[hv x, .pointer (some ⟨i, 0, none⟩), .pointer (some ⟨j, 0, none⟩)] w fun e w' => e = .returned (.tuple #[hv (byH x n d).1, .int .i64 (byH x n d).2]) ∧ Below w.heap.size w w' := by
  have hw0 := Below.refl w.heap.size w
  obtain ⟨W, hW⟩ : ∃ W, W = ((w.alloc (.cells (hcs x) 23)).alloc (.cells #[.string ⟨#[]⟩, .string ⟨#[]⟩, .string ⟨#[]⟩, .int .i64 0, .int .i64 0, .int .i64 0, .bool false] 23)) := ⟨_, rfl⟩
  have hz0 : w.heap.size = w.heap.size := rfl
  have hz1 : (w.alloc (.cells (hcs x) 23)).heap.size = w.heap.size + 1 := by rw [World.size_alloc]
  have hz2 : ((w.alloc (.cells (hcs x) 23)).alloc (.cells #[.string ⟨#[]⟩, .string ⟨#[]⟩, .string ⟨#[]⟩, .int .i64 0, .int .i64 0, .int .i64 0, .bool false] 23)).heap.size = w.heap.size + 1 + 1 := by rw [World.size_alloc, hz1]
  obtain ⟨g1, hg1⟩ : ∃ g, g = w.heap.size + 1 := ⟨_, rfl⟩
  have q0 : BoxH w.heap.size x W := by rw [hW]; exact ((BoxH.new w x).alloc _)
  have q1 : BoxH g1 noH W := by rw [hW, hg1, ← hz1]; exact (BoxH.new (w.alloc (.cells (hcs x) 23)) noH)
  have hb : Below w.heap.size w W := by rw [hW]; exact ((hw0.alloc (Nat.le_refl _) _).alloc (by rw [hz1]; omega) _)
  have hz : W.heap.size = w.heap.size + 1 + 1 := by rw [hW]; exact hz2
  have hl1 : w.heap.size < g1 ∧ g1 < W.heap.size := by omega
  have HW := Lib.hid hW
  have HG1 := Lib.hid hg1
  clear hW hw0 hz0 hz1 hz2 hg1
  have ui := (hi.below hb hi.lt).cell.1
  have uj := (hj.below hb hj.lt).cell.1
  have hil := hi.lt
  have hjl := hj.lt
  obtain ⟨⟨yr, ya, yp, yap, yca, yun, yop⟩, ye⟩ := d
  have HF := Lib.hid hF
  clear hF hi hj
  obtain ⟨c0, c1, c2, c3, c4, c5, c6, cf⟩ := q0.cells
  obtain ⟨d0, d1, d2, d3, d4, d5, d6, df⟩ := q1.cells
  by_cases hn : n < 1
  · have HR : Hid (byH x n (⟨yr, ya, yp, yap, yca, yun, yop⟩, ye) = (x, 1)) := if_pos hn
    go_enter Tryd.func61, Tryd.ntmps61
    go_upto_region 1 with fail
    rw [← HW.out, ← HG1.out]
    clear HW HG1
    go_wp2_with fail
    refine bodyPost_ret (v := .tuple #[.agg #[.string x.r, .string x.a, .string x.p, .int .i64 x.ap, .int .i64 x.ca, .int .i64 x.un, .bool x.op], .int .i64 1]) (by simp [results, Tryd.results61, go_sem, d0, d1, d2, d3, d4, d5, d6]) rfl ⟨by rw [HR.out]; try rfl, ?_⟩
    exact below_put7 (hb) (by omega) _ _ _ _ _ _ _
  · have HR : Hid (byH x n (⟨yr, ya, yp, yap, yca, yun, yop⟩, ye) = (⟨yr, ya, yp, yap, yca, yun, yop⟩, ye)) := if_neg hn
    have HG := Lib.hid (HF.out hn)
    clear HF
    go_enter Tryd.func61, Tryd.ntmps61
    go_upto_region 1 with fail
    rw [← HW.out, ← HG1.out]
    clear HW HG1
    go_wp2_with fail
    refine (HG.out _ hb).mono ?_
    rintro e w1 ⟨rfl, hb1⟩
    dsimp only
    replace q1 := q1.below hb1 (by omega)
    replace hb := Below.on hb hb1
    clear hb1 q0 ui uj c0 c1 c2 c3 c4 c5 c6 cf d0 d1 d2 d3 d4 d5 d6 df
    obtain ⟨d0, d1, d2, d3, d4, d5, d6, df⟩ := q1.cells
    go_wp2_with fail
    refine bodyPost_ret (v := .tuple #[.agg #[.string yr, .string ya, .string yp, .int .i64 yap, .int .i64 yca, .int .i64 yun, .bool yop], .int .i64 ye]) (by simp [results, Tryd.results61, go_sem, d0, d1, d2, d3, d4, d5, d6]) rfl ⟨by rw [HR.out]; try rfl, ?_⟩
    exact below_put7 (hb) (by omega) _ _ _ _ _ _ _
set_option maxRecDepth 100000 in
set_option maxHeartbeats 3200000 in
theorem by46_any (p : Value) (x : Hd) (n : Int) (d : Hd × Int) (i j : Nat) (w : World) (hi : Box1 i 2 (.int .i64 n) w) (hj : Box1 j 51 (.func (.func 46) #[] #[p]) w)
    (hF : ¬ n < 1 → ∀ V, Below w.heap.size w V → Calls Tryd.prog 46 #[hv x, p] V fun e w' => e = .returned (.tuple #[hv d.1, .int .i64 d.2]) ∧ Below V.heap.size V w') :
    Calls Tryd.prog 61 #[hv x, .pointer (some ⟨i, 0, none⟩), .pointer (some ⟨j, 0, none⟩)] w fun e w' => e = .returned (.tuple #[hv (byH x n d).1, .int .i64 (byH x n d).2]) ∧ Below w.heap.size w w' := by
  have hw0 := Below.refl w.heap.size w
  obtain ⟨W, hW⟩ : ∃ W, W = ((w.alloc (.cells (hcs x) 23)).alloc (.cells #[.string ⟨#[]⟩, .string ⟨#[]⟩, .string ⟨#[]⟩, .int .i64 0, .int .i64 0, .int .i64 0, .bool false] 23)) := ⟨_, rfl⟩
  have hz0 : w.heap.size = w.heap.size := rfl
  have hz1 : (w.alloc (.cells (hcs x) 23)).heap.size = w.heap.size + 1 := by rw [World.size_alloc]
  have hz2 : ((w.alloc (.cells (hcs x) 23)).alloc (.cells #[.string ⟨#[]⟩, .string ⟨#[]⟩, .string ⟨#[]⟩, .int .i64 0, .int .i64 0, .int .i64 0, .bool false] 23)).heap.size = w.heap.size + 1 + 1 := by rw [World.size_alloc, hz1]
  obtain ⟨g1, hg1⟩ : ∃ g, g = w.heap.size + 1 := ⟨_, rfl⟩
  have q0 : BoxH w.heap.size x W := by rw [hW]; exact ((BoxH.new w x).alloc _)
  have q1 : BoxH g1 noH W := by rw [hW, hg1, ← hz1]; exact (BoxH.new (w.alloc (.cells (hcs x) 23)) noH)
  have hb : Below w.heap.size w W := by rw [hW]; exact ((hw0.alloc (Nat.le_refl _) _).alloc (by rw [hz1]; omega) _)
  have hz : W.heap.size = w.heap.size + 1 + 1 := by rw [hW]; exact hz2
  have hl1 : w.heap.size < g1 ∧ g1 < W.heap.size := by omega
  have HW := Lib.hid hW
  have HG1 := Lib.hid hg1
  clear hW hw0 hz0 hz1 hz2 hg1
  have ui := (hi.below hb hi.lt).cell.1
  have uj := (hj.below hb hj.lt).cell.1
  have hil := hi.lt
  have hjl := hj.lt
  obtain ⟨⟨yr, ya, yp, yap, yca, yun, yop⟩, ye⟩ := d
  have HF := Lib.hid hF
  clear hF hi hj
  obtain ⟨c0, c1, c2, c3, c4, c5, c6, cf⟩ := q0.cells
  obtain ⟨d0, d1, d2, d3, d4, d5, d6, df⟩ := q1.cells
  by_cases hn : n < 1
  · have HR : Hid (byH x n (⟨yr, ya, yp, yap, yca, yun, yop⟩, ye) = (x, 1)) := if_pos hn
    go_enter Tryd.func61, Tryd.ntmps61
    go_upto_region 1 with fail
    rw [← HW.out, ← HG1.out]
    clear HW HG1
    go_wp2_with fail
    refine bodyPost_ret (v := .tuple #[.agg #[.string x.r, .string x.a, .string x.p, .int .i64 x.ap, .int .i64 x.ca, .int .i64 x.un, .bool x.op], .int .i64 1]) (by simp [results, Tryd.results61, go_sem, d0, d1, d2, d3, d4, d5, d6]) rfl ⟨by rw [HR.out]; try rfl, ?_⟩
    exact below_put7 (hb) (by omega) _ _ _ _ _ _ _
  · have HR : Hid (byH x n (⟨yr, ya, yp, yap, yca, yun, yop⟩, ye) = (⟨yr, ya, yp, yap, yca, yun, yop⟩, ye)) := if_neg hn
    have HG := Lib.hid (HF.out hn)
    clear HF
    go_enter Tryd.func61, Tryd.ntmps61
    go_upto_region 1 with fail
    rw [← HW.out, ← HG1.out]
    clear HW HG1
    go_wp2_with fail
    refine (HG.out _ hb).mono ?_
    rintro e w1 ⟨rfl, hb1⟩
    dsimp only
    replace q1 := q1.below hb1 (by omega)
    replace hb := Below.on hb hb1
    clear hb1 q0 ui uj c0 c1 c2 c3 c4 c5 c6 cf d0 d1 d2 d3 d4 d5 d6 df
    obtain ⟨d0, d1, d2, d3, d4, d5, d6, df⟩ := q1.cells
    go_wp2_with fail
    refine bodyPost_ret (v := .tuple #[.agg #[.string yr, .string ya, .string yp, .int .i64 yap, .int .i64 yca, .int .i64 yun, .bool yop], .int .i64 ye]) (by simp [results, Tryd.results61, go_sem, d0, d1, d2, d3, d4, d5, d6]) rfl ⟨by rw [HR.out]; try rfl, ?_⟩
    exact below_put7 (hb) (by omega) _ _ _ _ _ _ _
set_option maxRecDepth 100000 in
set_option maxHeartbeats 3200000 in
theorem chby43_any (p q : Value) (x : Hd) (n : Int) (d : Hd × Int) (w : World) (hE : Env w) (hf : FitH x)
    (hF : mayH x = true → x.op = true → ¬ n < 1 → ∀ V, Below w.heap.size w V → Calls Tryd.prog 43 #[hv x, p, q] V fun e w' => e = .returned (.tuple #[hv d.1, .int .i64 d.2]) ∧ Below V.heap.size V w') :
    Calls Tryd.prog 42 #[hv x, .int .i64 n, .func (.func 43) #[] #[p, q]] w fun e w' => e = .returned (.tuple #[hv (chgH x (byH x n d)).1, .int .i64 (chgH x (byH x n d)).2]) ∧ Below w.heap.size w w' := by
  have hmf := mk_func
  have hw0 := Below.refl w.heap.size w
  obtain ⟨W, hW⟩ : ∃ W, W = ((((w.alloc (.cells (hcs x) 23)).alloc (.cells #[.int .i64 n] 2)).alloc (.cells #[.func (.func 43) #[] #[p, q]] 51)).alloc (.cells #[.string ⟨#[]⟩, .string ⟨#[]⟩, .string ⟨#[]⟩, .int .i64 0, .int .i64 0, .int .i64 0, .bool false] 23)) := ⟨_, rfl⟩
  have hz0 : w.heap.size = w.heap.size := rfl
  have hz1 : (w.alloc (.cells (hcs x) 23)).heap.size = w.heap.size + 1 := by rw [World.size_alloc]
  have hz2 : ((w.alloc (.cells (hcs x) 23)).alloc (.cells #[.int .i64 n] 2)).heap.size = w.heap.size + 1 + 1 := by rw [World.size_alloc, hz1]
  have hz3 : (((w.alloc (.cells (hcs x) 23)).alloc (.cells #[.int .i64 n] 2)).alloc (.cells #[.func (.func 43) #[] #[p, q]] 51)).heap.size = w.heap.size + 1 + 1 + 1 := by rw [World.size_alloc, hz2]
  have hz4 : ((((w.alloc (.cells (hcs x) 23)).alloc (.cells #[.int .i64 n] 2)).alloc (.cells #[.func (.func 43) #[] #[p, q]] 51)).alloc (.cells #[.string ⟨#[]⟩, .string ⟨#[]⟩, .string ⟨#[]⟩, .int .i64 0, .int .i64 0, .int .i64 0, .bool false] 23)).heap.size = w.heap.size + 1 + 1 + 1 + 1 := by rw [World.size_alloc, hz3]
  obtain ⟨g1, hg1⟩ : ∃ g, g = w.heap.size + 1 := ⟨_, rfl⟩
  obtain ⟨g2, hg2⟩ : ∃ g, g = w.heap.size + 1 + 1 := ⟨_, rfl⟩
  obtain ⟨g3, hg3⟩ : ∃ g, g = w.heap.size + 1 + 1 + 1 := ⟨_, rfl⟩
  have q0 : BoxH w.heap.size x W := by rw [hW]; exact ((((BoxH.new w x).alloc _).alloc _).alloc _)
  have q1 : Box1 g1 2 (.int .i64 n) W := by rw [hW, hg1, ← hz1]; exact (((Box1.new (w.alloc (.cells (hcs x) 23)) 2 (.int .i64 n)).alloc _).alloc _)
  have q2 : Box1 g2 51 (.func (.func 43) #[] #[p, q]) W := by rw [hW, hg2, ← hz2]; exact ((Box1.new ((w.alloc (.cells (hcs x) 23)).alloc (.cells #[.int .i64 n] 2)) 51 (.func (.func 43) #[] #[p, q])).alloc _)
  have q3 : BoxH g3 noH W := by rw [hW, hg3, ← hz3]; exact (BoxH.new (((w.alloc (.cells (hcs x) 23)).alloc (.cells #[.int .i64 n] 2)).alloc (.cells #[.func (.func 43) #[] #[p, q]] 51)) noH)
  have hb : Below w.heap.size w W := by rw [hW]; exact ((((hw0.alloc (Nat.le_refl _) _).alloc (by rw [hz1]; omega) _).alloc (by rw [hz2]; omega) _).alloc (by rw [hz3]; omega) _)
  have hz : W.heap.size = w.heap.size + 1 + 1 + 1 + 1 := by rw [hW]; exact hz4
  have hl1 : w.heap.size < g1 ∧ g1 < W.heap.size := by omega
  have hl2 : w.heap.size < g2 ∧ g2 < W.heap.size := by omega
  have hl3 : w.heap.size < g3 ∧ g3 < W.heap.size := by omega
  have hj12 : g1 < g2 := by omega
  have hj13 : g1 < g3 := by omega
  have hj23 : g2 < g3 := by omega
  have HW := Lib.hid hW
  have HG1 := Lib.hid hg1
  have HG2 := Lib.hid hg2
  have HG3 := Lib.hid hg3
  clear hW hw0 hz0 hz1 hz2 hz3 hz4 hg1 hg2 hg3
  have HC := Lib.hid (change61_any (.pointer (some ⟨g1, 0, none⟩)) (.pointer (some ⟨g2, 0, none⟩)) x (byH x n d) W (hE.below hb) hf (fun hm ho V hV => by43_any p q x n d g1 g2 V (q1.below hV hl1.2) (q2.below hV hl2.2) (fun hn U hU => hF hm ho hn U (Below.on hb (Below.on hV hU)))))
  obtain ⟨⟨⟨yr, ya, yp, yap, yca, yun, yop⟩, ye⟩, hy⟩ : ∃ y, y = chgH x (byH x n d) := ⟨_, rfl⟩
  rw [← hy] at HC ⊢
  dsimp only at HC ⊢
  clear hy hF hE hf
  obtain ⟨c0, c1, c2, c3, c4, c5, c6, cf⟩ := q0.cells
  obtain ⟨d0, d1, d2, d3, d4, d5, d6, df⟩ := q3.cells
  go_enter Tryd.func42, Tryd.ntmps42
  go_upto_region 1 with fail
  rw [← HW.out, ← HG3.out, ← HG2.out, ← HG1.out]
  clear HW HG1 HG2 HG3
  go_wp2_with fail
  refine HC.out.mono ?_
  rintro e w1 ⟨rfl, hb1⟩
  replace q3 := q3.below hb1 hl3.2
  replace hb := Below.on hb hb1
  clear hb1 q0 c0 c1 c2 c3 c4 c5 c6 cf d0 d1 d2 d3 d4 d5 d6 df
  obtain ⟨d0, d1, d2, d3, d4, d5, d6, df⟩ := q3.cells
  go_wp2_with fail
  refine bodyPost_ret (v := .tuple #[.agg #[.string yr, .string ya, .string yp, .int .i64 yap, .int .i64 yca, .int .i64 yun, .bool yop], .int .i64 ye]) (by simp [results, Tryd.results42, go_sem, d0, d1, d2, d3, d4, d5, d6]) rfl ⟨rfl, ?_⟩
  exact below_put7 (hb) (by omega) _ _ _ _ _ _ _
set_option maxRecDepth 100000 in
set_option maxHeartbeats 3200000 in
theorem chby45_any (p q : Value) (x : Hd) (n : Int) (d : Hd × Int) (w : World) (hE : Env w) (hf : FitH x)
    (hF : mayH x = true → x.op = true → ¬ n < 1 → ∀ V, Below w.heap.size w V → Calls Tryd.prog 45 #[hv x, p, q] V fun e w' => e = .returned (.tuple #[hv d.1, .int .i64 d.2]) ∧ Below V.heap.size V w') :
    Calls Tryd.prog 42 #[hv x, .int .i64 n, .func (.func 45) #[] #[p, q]] w fun e w' => e = .returned (.tuple #[hv (chgH x (byH x n d)).1, .int .i64 (chgH x (byH x n d)).2]) ∧ Below w.heap.size w w' := by
  have hmf := mk_func
  have hw0 := Below.refl w.heap.size w
  obtain ⟨W, hW⟩ : ∃ W, W = ((((w.alloc (.cells (hcs x) 23)).alloc (.cells #[.int .i64 n] 2)).alloc (.cells #[.func (.func 45) #[] #[p, q]] 51)).alloc (.cells #[.string ⟨#[]⟩, .string ⟨#[]⟩, .string ⟨#[]⟩, .int .i64 0, .int .i64 0, .int .i64 0, .bool false] 23)) := ⟨_, rfl⟩
  have hz0 : w.heap.size = w.heap.size := rfl
  have hz1 : (w.alloc (.cells (hcs x) 23)).heap.size = w.heap.size + 1 := by rw [World.size_alloc]
  have hz2 : ((w.alloc (.cells (hcs x) 23)).alloc (.cells #[.int .i64 n] 2)).heap.size = w.heap.size + 1 + 1 := by rw [World.size_alloc, hz1]
  have hz3 : (((w.alloc (.cells (hcs x) 23)).alloc (.cells #[.int .i64 n] 2)).alloc (.cells #[.func (.func 45) #[] #[p, q]] 51)).heap.size = w.heap.size + 1 + 1 + 1 := by rw [World.size_alloc, hz2]
  have hz4 : ((((w.alloc (.cells (hcs x) 23)).alloc (.cells #[.int .i64 n] 2)).alloc (.cells #[.func (.func 45) #[] #[p, q]] 51)).alloc (.cells #[.string ⟨#[]⟩, .string ⟨#[]⟩, .string ⟨#[]⟩, .int .i64 0, .int .i64 0, .int .i64 0, .bool false] 23)).heap.size = w.heap.size + 1 + 1 + 1 + 1 := by rw [World.size_alloc, hz3]
  obtain ⟨g1, hg1⟩ : ∃ g, g = w.heap.size + 1 := ⟨_, rfl⟩
  obtain ⟨g2, hg2⟩ : ∃ g, g = w.heap.size + 1 + 1 := ⟨_, rfl⟩
  obtain ⟨g3, hg3⟩ : ∃ g, g = w.heap.size + 1 + 1 + 1 := ⟨_, rfl⟩
  have q0 : BoxH w.heap.size x W := by rw [hW]; exact ((((BoxH.new w x).alloc _).alloc _).alloc _)
  have q1 : Box1 g1 2 (.int .i64 n) W := by rw [hW, hg1, ← hz1]; exact (((Box1.new (w.alloc (.cells (hcs x) 23)) 2 (.int .i64 n)).alloc _).alloc _)
  have q2 : Box1 g2 51 (.func (.func 45) #[] #[p, q]) W := by rw [hW, hg2, ← hz2]; exact ((Box1.new ((w.alloc (.cells (hcs x) 23)).alloc (.cells #[.int .i64 n] 2)) 51 (.func (.func 45) #[] #[p, q])).alloc _)
  have q3 : BoxH g3 noH W := by rw [hW, hg3, ← hz3]; exact (BoxH.new (((w.alloc (.cells (hcs x) 23)).alloc (.cells #[.int .i64 n] 2)).alloc (.cells #[.func (.func 45) #[] #[p, q]] 51)) noH)
  have hb : Below w.heap.size w W := by rw [hW]; exact ((((hw0.alloc (Nat.le_refl _) _).alloc (by rw [hz1]; omega) _).alloc (by rw [hz2]; omega) _).alloc (by rw [hz3]; omega) _)
  have hz : W.heap.size = w.heap.size + 1 + 1 + 1 + 1 := by rw [hW]; exact hz4
  have hl1 : w.heap.size < g1 ∧ g1 < W.heap.size := by omega
  have hl2 : w.heap.size < g2 ∧ g2 < W.heap.size := by omega
  have hl3 : w.heap.size < g3 ∧ g3 < W.heap.size := by omega
  have hj12 : g1 < g2 := by omega
  have hj13 : g1 < g3 := by omega
  have hj23 : g2 < g3 := by omega
  have HW := Lib.hid hW
  have HG1 := Lib.hid hg1
  have HG2 := Lib.hid hg2
  have HG3 := Lib.hid hg3
  clear hW hw0 hz0 hz1 hz2 hz3 hz4 hg1 hg2 hg3
  have HC := Lib.hid (change61_any (.pointer (some ⟨g1, 0, none⟩)) (.pointer (some ⟨g2, 0, none⟩)) x (byH x n d) W (hE.below hb) hf (fun hm ho V hV => by45_any p q x n d g1 g2 V (q1.below hV hl1.2) (q2.below hV hl2.2) (fun hn U hU => hF hm ho hn U (Below.on hb (Below.on hV hU)))))
  obtain ⟨⟨⟨yr, ya, yp, yap, yca, yun, yop⟩, ye⟩, hy⟩ : ∃ y, y = chgH x (byH x n d) := ⟨_, rfl⟩
  rw [← hy] at HC ⊢
  dsimp only at HC ⊢
  clear hy hF hE hf
  obtain ⟨c0, c1, c2, c3, c4, c5, c6, cf⟩ := q0.cells
  obtain ⟨d0, d1, d2, d3, d4, d5, d6, df⟩ := q3.cells
  go_enter Tryd.func42, Tryd.ntmps42
  go_upto_region 1 with fail
  rw [← HW.out, ← HG3.out, ← HG2.out, ← HG1.out]
  clear HW HG1 HG2 HG3
  go_wp2_with fail
  refine HC.out.mono ?_
  rintro e w1 ⟨rfl, hb1⟩
  replace q3 := q3.below hb1 hl3.2
  replace hb := Below.on hb hb1
  clear hb1 q0 c0 c1 c2 c3 c4 c5 c6 cf d0 d1 d2 d3 d4 d5 d6 df
  obtain ⟨d0, d1, d2, d3, d4, d5, d6, df⟩ := q3.cells
  go_wp2_with fail
  refine bodyPost_ret (v := .tuple #[.agg #[.string yr, .string ya, .string yp, .int .i64 yap, .int .i64 yca, .int .i64 yun, .bool yop], .int .i64 ye]) (by simp [results, Tryd.results42, go_sem, d0, d1, d2, d3, d4, d5, d6]) rfl ⟨rfl, ?_⟩
  exact below_put7 (hb) (by omega) _ _ _ _ _ _ _
set_option maxRecDepth 100000 in
set_option maxHeartbeats 3200000 in
theorem chby46_any (p : Value) (x : Hd) (n : Int) (d : Hd × Int) (w : World) (hE : Env w) (hf : FitH x)
    (hF : mayH x = true → x.op = true → ¬ n < 1 → ∀ V, Below w.heap.size w V → Calls Tryd.prog 46 #[hv x, p] V fun e w' => e = .returned (.tuple #[hv d.1, .int .i64 d.2]) ∧ Below V.heap.size V w') :
    Calls Tryd.prog 42 #[hv x, .int .i64 n, .func (.func 46) #[] #[p]] w fun e w' => e = .returned (.tuple #[hv (chgH x (byH x n d)).1, .int .i64 (chgH x (byH x n d)).2]) ∧ Below w.heap.size w w' := by
  have hmf := mk_func
  have hw0 := Below.refl w.heap.size w
  obtain ⟨W, hW⟩ : ∃ W, W = ((((w.alloc (.cells (hcs x) 23)).alloc (.cells #[.int .i64 n] 2)).alloc (.cells #[.func (.func 46) #[] #[p]] 51)).alloc (.cells #[.string ⟨#[]⟩, .string ⟨#[]⟩, .string ⟨#[]⟩, .int .i64 0, .int .i64 0, .int .i64 0, .bool false] 23)) := ⟨_, rfl⟩
  have hz0 : w.heap.size = w.heap.size := rfl
  have hz1 : (w.alloc (.cells (hcs x) 23)).heap.size = w.heap.size + 1 := by rw [World.size_alloc]
  have hz2 : ((w.alloc (.cells (hcs x) 23)).alloc (.cells #[.int .i64 n] 2)).heap.size = w.heap.size + 1 + 1 := by rw [World.size_alloc, hz1]
  have hz3 : (((w.alloc (.cells (hcs x) 23)).alloc (.cells #[.int .i64 n] 2)).alloc (.cells #[.func (.func 46) #[] #[p]] 51)).heap.size = w.heap.size + 1 + 1 + 1 := by rw [World.size_alloc, hz2]
  have hz4 : ((((w.alloc (.cells (hcs x) 23)).alloc (.cells #[.int .i64 n] 2)).alloc (.cells #[.func (.func 46) #[] #[p]] 51)).alloc (.cells #[.string ⟨#[]⟩, .string ⟨#[]⟩, .string ⟨#[]⟩, .int .i64 0, .int .i64 0, .int .i64 0, .bool false] 23)).heap.size = w.heap.size + 1 + 1 + 1 + 1 := by rw [World.size_alloc, hz3]
  obtain ⟨g1, hg1⟩ : ∃ g, g = w.heap.size + 1 := ⟨_, rfl⟩
  obtain ⟨g2, hg2⟩ : ∃ g, g = w.heap.size + 1 + 1 := ⟨_, rfl⟩
  obtain ⟨g3, hg3⟩ : ∃ g, g = w.heap.size + 1 + 1 + 1 := ⟨_, rfl⟩
  have q0 : BoxH w.heap.size x W := by rw [hW]; exact ((((BoxH.new w x).alloc _).alloc _).alloc _)
  have q1 : Box1 g1 2 (.int .i64 n) W := by rw [hW, hg1, ← hz1]; exact (((Box1.new (w.alloc (.cells (hcs x) 23)) 2 (.int .i64 n)).alloc _).alloc _)
  have q2 : Box1 g2 51 (.func (.func 46) #[] #[p]) W := by rw [hW, hg2, ← hz2]; exact ((Box1.new ((w.alloc (.cells (hcs x) 23)).alloc (.cells #[.int .i64 n] 2)) 51 (.func (.func 46) #[] #[p])).alloc _)
  have q3 : BoxH g3 noH W := by rw [hW, hg3, ← hz3]; exact (BoxH.new (((w.alloc (.cells (hcs x) 23)).alloc (.cells #[.int .i64 n] 2)).alloc (.cells #[.func (.func 46) #[] #[p]] 51)) noH)
  have hb : Below w.heap.size w W := by rw [hW]; exact ((((hw0.alloc (Nat.le_refl _) _).alloc (by rw [hz1]; omega) _).alloc (by rw [hz2]; omega) _).alloc (by rw [hz3]; omega) _)
  have hz : W.heap.size = w.heap.size + 1 + 1 + 1 + 1 := by rw [hW]; exact hz4
  have hl1 : w.heap.size < g1 ∧ g1 < W.heap.size := by omega
  have hl2 : w.heap.size < g2 ∧ g2 < W.heap.size := by omega
  have hl3 : w.heap.size < g3 ∧ g3 < W.heap.size := by omega
  have hj12 : g1 < g2 := by omega
  have hj13 : g1 < g3 := by omega
  have hj23 : g2 < g3 := by omega
  have HW := Lib.hid hW
  have HG1 := Lib.hid hg1
  have HG2 := Lib.hid hg2
  have HG3 := Lib.hid hg3
  clear hW hw0 hz0 hz1 hz2 hz3 hz4 hg1 hg2 hg3
  have HC := Lib.hid (change61_any (.pointer (some ⟨g1, 0, none⟩)) (.pointer (some ⟨g2, 0, none⟩)) x (byH x n d) W (hE.below hb) hf (fun hm ho V hV => by46_any p x n d g1 g2 V (q1.below hV hl1.2) (q2.below hV hl2.2) (fun hn U hU => hF hm ho hn U (Below.on hb (Below.on hV hU)))))
  obtain ⟨⟨⟨yr, ya, yp, yap, yca, yun, yop⟩, ye⟩, hy⟩ : ∃ y, y = chgH x (byH x n d) := ⟨_, rfl⟩
  rw [← hy] at HC ⊢
  dsimp only at HC ⊢
  clear hy hF hE hf
  obtain ⟨c0, c1, c2, c3, c4, c5, c6, cf⟩ := q0.cells
  obtain ⟨d0, d1, d2, d3, d4, d5, d6, df⟩ := q3.cells
  go_enter Tryd.func42, Tryd.ntmps42
  go_upto_region 1 with fail
  rw [← HW.out, ← HG3.out, ← HG2.out, ← HG1.out]
  clear HW HG1 HG2 HG3
  go_wp2_with fail
  refine HC.out.mono ?_
  rintro e w1 ⟨rfl, hb1⟩
  replace q3 := q3.below hb1 hl3.2
  replace hb := Below.on hb hb1
  clear hb1 q0 c0 c1 c2 c3 c4 c5 c6 cf d0 d1 d2 d3 d4 d5 d6 df
  obtain ⟨d0, d1, d2, d3, d4, d5, d6, df⟩ := q3.cells
  go_wp2_with fail
  refine bodyPost_ret (v := .tuple #[.agg #[.string yr, .string ya, .string yp, .int .i64 yap, .int .i64 yca, .int .i64 yun, .bool yop], .int .i64 ye]) (by simp [results, Tryd.results42, go_sem, d0, d1, d2, d3, d4, d5, d6]) rfl ⟨rfl, ?_⟩
  exact below_put7 (hb) (by omega) _ _ _ _ _ _ _
end Go.Proofs.YtkhkncgndllkjaaDoor.Hol
