/- Contracts: More, Take, Less, Undo. Conditions: the program's array of sizes holds what its initialiser lays. -/
import Derived.Test.YtkhkncgndllkjaaDoorK7
namespace Go.Proofs.YtkhkncgndllkjaaDoor.Hol
open Go.RowKit Cht
open Mny (Fits vOf eOf vOf_t vOf_f eOf_t eOf_f)

def moreH (x : Hd) (n u : Int) : Hd × Int := chgH x (byH x n (more1 x n u))
def takeH (x : Hd) (n : Int) (l : Bool) : Hd × Int := chgH x (byH x n (take1 x n l))
def lessH (x : Hd) (n : Int) : Hd × Int := chgH x (byH x n (less1 x n))
def undoH (x : Hd) : Hd × Int := chgH x (undo1 x)

set_option maxRecDepth 100000 in
set_option maxHeartbeats 3200000 in
theorem more_any (x : Hd) (n u : Int) (w : World) (hE : Env w) (hf : FitH x) (hn : Fits n) :
    Calls Tryd.prog 20 #[hv x, .int .i64 n, .int .i64 u] w fun e w' => e = .returned (.tuple #[hv (moreH x n u).1, .int .i64 (moreH x n u).2]) ∧ Below w.heap.size w w' := by
  have hmf := mk_func
  have hw0 := Below.refl w.heap.size w
  obtain ⟨W, hW⟩ : ∃ W, W = ((((w.alloc (.cells (hcs x) 23)).alloc (.cells #[.int .i64 n] 2)).alloc (.cells #[.int .i64 u] 3)).alloc (.cells #[.string ⟨#[]⟩, .string ⟨#[]⟩, .string ⟨#[]⟩, .int .i64 0, .int .i64 0, .int .i64 0, .bool false] 23)) := ⟨_, rfl⟩
  have hz0 : w.heap.size = w.heap.size := rfl
  have hz1 : (w.alloc (.cells (hcs x) 23)).heap.size = w.heap.size + 1 := by rw [World.size_alloc]
  have hz2 : ((w.alloc (.cells (hcs x) 23)).alloc (.cells #[.int .i64 n] 2)).heap.size = w.heap.size + 1 + 1 := by rw [World.size_alloc, hz1]
  have hz3 : (((w.alloc (.cells (hcs x) 23)).alloc (.cells #[.int .i64 n] 2)).alloc (.cells #[.int .i64 u] 3)).heap.size = w.heap.size + 1 + 1 + 1 := by rw [World.size_alloc, hz2]
  have hz4 : ((((w.alloc (.cells (hcs x) 23)).alloc (.cells #[.int .i64 n] 2)).alloc (.cells #[.int .i64 u] 3)).alloc (.cells #[.string ⟨#[]⟩, .string ⟨#[]⟩, .string ⟨#[]⟩, .int .i64 0, .int .i64 0, .int .i64 0, .bool false] 23)).heap.size = w.heap.size + 1 + 1 + 1 + 1 := by rw [World.size_alloc, hz3]
  obtain ⟨g1, hg1⟩ : ∃ g, g = w.heap.size + 1 := ⟨_, rfl⟩
  obtain ⟨g2, hg2⟩ : ∃ g, g = w.heap.size + 1 + 1 := ⟨_, rfl⟩
  obtain ⟨g3, hg3⟩ : ∃ g, g = w.heap.size + 1 + 1 + 1 := ⟨_, rfl⟩
  have q0 : BoxH w.heap.size x W := by rw [hW]; exact ((((BoxH.new w x).alloc _).alloc _).alloc _)
  have q1 : Box1 g1 2 (.int .i64 n) W := by rw [hW, hg1, ← hz1]; exact (((Box1.new (w.alloc (.cells (hcs x) 23)) 2 (.int .i64 n)).alloc _).alloc _)
  have q2 : Box1 g2 3 (.int .i64 u) W := by rw [hW, hg2, ← hz2]; exact ((Box1.new ((w.alloc (.cells (hcs x) 23)).alloc (.cells #[.int .i64 n] 2)) 3 (.int .i64 u)).alloc _)
  have q3 : BoxH g3 noH W := by rw [hW, hg3, ← hz3]; exact (BoxH.new (((w.alloc (.cells (hcs x) 23)).alloc (.cells #[.int .i64 n] 2)).alloc (.cells #[.int .i64 u] 3)) noH)
  have hb : Below w.heap.size w W := by rw [hW]; exact ((((hw0.alloc (Nat.le_refl _) _).alloc (by rw [hz1]; omega) _).alloc (by rw [hz2]; omega) _).alloc (by rw [hz3]; omega) _)
  have hz : W.heap.size = w.heap.size + 1 + 1 + 1 + 1 := by rw [hW]; exact hz4
  have hl1 : w.heap.size < g1 ∧ g1 < W.heap.size := by omega
  have hl2 : w.heap.size < g2 ∧ g2 < W.heap.size := by omega
  have hl3 : w.heap.size < g3 ∧ g3 < W.heap.size := by omega
  have hj12 : g1 < g2 := by omega
  have hj13 : g1 < g3 := by omega
  have hj23 : g2 < g3 := by omega
  have HW := Lib.hid hW
  have HG1 := Lib.hid hg1
  have HG2 := Lib.hid hg2
  have HG3 := Lib.hid hg3
  clear hW hw0 hz0 hz1 hz2 hz3 hz4 hg1 hg2 hg3
  have HC := Lib.hid (chby43_any (.pointer (some ⟨g2, 0, none⟩)) (.pointer (some ⟨g1, 0, none⟩)) x n (more1 x n u) W (hE.below hb) hf (fun hm ho h1 V hV => more1_any x n u g2 g1 V hf hn (q2.below hV hl2.2) (q1.below hV hl1.2)))
  obtain ⟨⟨⟨yr, ya, yp, yap, yca, yun, yop⟩, ye⟩, hy⟩ : ∃ y, y = moreH x n u := ⟨_, rfl⟩
  replace HC : Hid (Calls Tryd.prog _ _ W fun e w' => e = .returned (.tuple #[hv (moreH x n u).1, .int .i64 (moreH x n u).2]) ∧ Below W.heap.size W w') := HC
  rw [← hy] at HC ⊢
  dsimp only at HC ⊢
  clear hy hE hf
  obtain ⟨c0, c1, c2, c3, c4, c5, c6, cf⟩ := q0.cells
  obtain ⟨d0, d1, d2, d3, d4, d5, d6, df⟩ := q3.cells
  have u1 := q1.cell.1
  have u2 := q2.cell.1
  go_enter Tryd.func20, Tryd.ntmps20
  go_upto_region 1 with fail
  rw [← HW.out, ← HG3.out, ← HG2.out, ← HG1.out]
  clear HW HG1 HG2 HG3
  go_wp2_with fail
  refine HC.out.mono ?_
  rintro e w1 ⟨rfl, hb1⟩
  replace q3 := q3.below hb1 hl3.2
  replace hb := Below.on hb hb1
  clear hb1 q0 u1 u2 c0 c1 c2 c3 c4 c5 c6 cf d0 d1 d2 d3 d4 d5 d6 df
  obtain ⟨d0, d1, d2, d3, d4, d5, d6, df⟩ := q3.cells
  go_wp2_with fail
  refine bodyPost_ret (v := .tuple #[.agg #[.string yr, .string ya, .string yp, .int .i64 yap, .int .i64 yca, .int .i64 yun, .bool yop], .int .i64 ye]) (by simp [results, Tryd.results20, go_sem, d0, d1, d2, d3, d4, d5, d6]) rfl ⟨rfl, ?_⟩
  exact below_put7 (hb) (by omega) _ _ _ _ _ _ _
set_option maxRecDepth 100000 in
set_option maxHeartbeats 3200000 in
theorem take_any (x : Hd) (n : Int) (l : Bool) (w : World) (hE : Env w) (hf : FitH x) (hn : Fits n) :
    Calls Tryd.prog 22 #[hv x, .int .i64 n, .bool l] w fun e w' => e = .returned (.tuple #[hv (takeH x n l).1, .int .i64 (takeH x n l).2]) ∧ Below w.heap.size w w' := by
  have hmf := mk_func
  have hw0 := Below.refl w.heap.size w
  obtain ⟨W, hW⟩ : ∃ W, W = ((((w.alloc (.cells (hcs x) 23)).alloc (.cells #[.int .i64 n] 2)).alloc (.cells #[.bool l] 4)).alloc (.cells #[.string ⟨#[]⟩, .string ⟨#[]⟩, .string ⟨#[]⟩, .int .i64 0, .int .i64 0, .int .i64 0, .bool false] 23)) := ⟨_, rfl⟩
  have hz0 : w.heap.size = w.heap.size := rfl
  have hz1 : (w.alloc (.cells (hcs x) 23)).heap.size = w.heap.size + 1 := by rw [World.size_alloc]
  have hz2 : ((w.alloc (.cells (hcs x) 23)).alloc (.cells #[.int .i64 n] 2)).heap.size = w.heap.size + 1 + 1 := by rw [World.size_alloc, hz1]
  have hz3 : (((w.alloc (.cells (hcs x) 23)).alloc (.cells #[.int .i64 n] 2)).alloc (.cells #[.bool l] 4)).heap.size = w.heap.size + 1 + 1 + 1 := by rw [World.size_alloc, hz2]
  have hz4 : ((((w.alloc (.cells (hcs x) 23)).alloc (.cells #[.int .i64 n] 2)).alloc (.cells #[.bool l] 4)).alloc (.cells #[.string ⟨#[]⟩, .string ⟨#[]⟩, .string ⟨#[]⟩, .int .i64 0, .int .i64 0, .int .i64 0, .bool false] 23)).heap.size = w.heap.size + 1 + 1 + 1 + 1 := by rw [World.size_alloc, hz3]
  obtain ⟨g1, hg1⟩ : ∃ g, g = w.heap.size + 1 := ⟨_, rfl⟩
  obtain ⟨g2, hg2⟩ : ∃ g, g = w.heap.size + 1 + 1 := ⟨_, rfl⟩
  obtain ⟨g3, hg3⟩ : ∃ g, g = w.heap.size + 1 + 1 + 1 := ⟨_, rfl⟩
  have q0 : BoxH w.heap.size x W := by rw [hW]; exact ((((BoxH.new w x).alloc _).alloc _).alloc _)
  have q1 : Box1 g1 2 (.int .i64 n) W := by rw [hW, hg1, ← hz1]; exact (((Box1.new (w.alloc (.cells (hcs x) 23)) 2 (.int .i64 n)).alloc _).alloc _)
  have q2 : Box1 g2 4 (.bool l) W := by rw [hW, hg2, ← hz2]; exact ((Box1.new ((w.alloc (.cells (hcs x) 23)).alloc (.cells #[.int .i64 n] 2)) 4 (.bool l)).alloc _)
  have q3 : BoxH g3 noH W := by rw [hW, hg3, ← hz3]; exact (BoxH.new (((w.alloc (.cells (hcs x) 23)).alloc (.cells #[.int .i64 n] 2)).alloc (.cells #[.bool l] 4)) noH)
  have hb : Below w.heap.size w W := by rw [hW]; exact ((((hw0.alloc (Nat.le_refl _) _).alloc (by rw [hz1]; omega) _).alloc (by rw [hz2]; omega) _).alloc (by rw [hz3]; omega) _)
  have hz : W.heap.size = w.heap.size + 1 + 1 + 1 + 1 := by rw [hW]; exact hz4
  have hl1 : w.heap.size < g1 ∧ g1 < W.heap.size := by omega
  have hl2 : w.heap.size < g2 ∧ g2 < W.heap.size := by omega
  have hl3 : w.heap.size < g3 ∧ g3 < W.heap.size := by omega
  have hj12 : g1 < g2 := by omega
  have hj13 : g1 < g3 := by omega
  have hj23 : g2 < g3 := by omega
  have HW := Lib.hid hW
  have HG1 := Lib.hid hg1
  have HG2 := Lib.hid hg2
  have HG3 := Lib.hid hg3
  clear hW hw0 hz0 hz1 hz2 hz3 hz4 hg1 hg2 hg3
  have HC := Lib.hid (chby45_any (.pointer (some ⟨g1, 0, none⟩)) (.pointer (some ⟨g2, 0, none⟩)) x n (take1 x n l) W (hE.below hb) hf (fun hm ho h1 V hV => take1_any x n l g1 g2 V ((hE.below hb).below hV) hf hm ho ⟨by omega, hn.2⟩ (q1.below hV hl1.2) (q2.below hV hl2.2)))
  obtain ⟨⟨⟨yr, ya, yp, yap, yca, yun, yop⟩, ye⟩, hy⟩ : ∃ y, y = takeH x n l := ⟨_, rfl⟩
  replace HC : Hid (Calls Tryd.prog _ _ W fun e w' => e = .returned (.tuple #[hv (takeH x n l).1, .int .i64 (takeH x n l).2]) ∧ Below W.heap.size W w') := HC
  rw [← hy] at HC ⊢
  dsimp only at HC ⊢
  clear hy hE hf
  obtain ⟨c0, c1, c2, c3, c4, c5, c6, cf⟩ := q0.cells
  obtain ⟨d0, d1, d2, d3, d4, d5, d6, df⟩ := q3.cells
  have u1 := q1.cell.1
  have u2 := q2.cell.1
  go_enter Tryd.func22, Tryd.ntmps22
  go_upto_region 1 with fail
  rw [← HW.out, ← HG3.out, ← HG2.out, ← HG1.out]
  clear HW HG1 HG2 HG3
  go_wp2_with fail
  refine HC.out.mono ?_
  rintro e w1 ⟨rfl, hb1⟩
  replace q3 := q3.below hb1 hl3.2
  replace hb := Below.on hb hb1
  clear hb1 q0 u1 u2 c0 c1 c2 c3 c4 c5 c6 cf d0 d1 d2 d3 d4 d5 d6 df
  obtain ⟨d0, d1, d2, d3, d4, d5, d6, df⟩ := q3.cells
  go_wp2_with fail
  refine bodyPost_ret (v := .tuple #[.agg #[.string yr, .string ya, .string yp, .int .i64 yap, .int .i64 yca, .int .i64 yun, .bool yop], .int .i64 ye]) (by simp [results, Tryd.results22, go_sem, d0, d1, d2, d3, d4, d5, d6]) rfl ⟨rfl, ?_⟩
  exact below_put7 (hb) (by omega) _ _ _ _ _ _ _
set_option maxRecDepth 100000 in
set_option maxHeartbeats 3200000 in
theorem less_any (x : Hd) (n : Int) (w : World) (hE : Env w) (hf : FitH x) (hn : Fits n) :
    Calls Tryd.prog 23 #[hv x, .int .i64 n] w fun e w' => e = .returned (.tuple #[hv (lessH x n).1, .int .i64 (lessH x n).2]) ∧ Below w.heap.size w w' := by
  have hmf := mk_func
  have hw0 := Below.refl w.heap.size w
  obtain ⟨W, hW⟩ : ∃ W, W = (((w.alloc (.cells (hcs x) 23)).alloc (.cells #[.int .i64 n] 2)).alloc (.cells #[.string ⟨#[]⟩, .string ⟨#[]⟩, .string ⟨#[]⟩, .int .i64 0, .int .i64 0, .int .i64 0, .bool false] 23)) := ⟨_, rfl⟩
  have hz0 : w.heap.size = w.heap.size := rfl
  have hz1 : (w.alloc (.cells (hcs x) 23)).heap.size = w.heap.size + 1 := by rw [World.size_alloc]
  have hz2 : ((w.alloc (.cells (hcs x) 23)).alloc (.cells #[.int .i64 n] 2)).heap.size = w.heap.size + 1 + 1 := by rw [World.size_alloc, hz1]
  have hz3 : (((w.alloc (.cells (hcs x) 23)).alloc (.cells #[.int .i64 n] 2)).alloc (.cells #[.string ⟨#[]⟩, .string ⟨#[]⟩, .string ⟨#[]⟩, .int .i64 0, .int .i64 0, .int .i64 0, .bool false] 23)).heap.size = w.heap.size + 1 + 1 + 1 := by rw [World.size_alloc, hz2]
  obtain ⟨g1, hg1⟩ : ∃ g, g = w.heap.size + 1 := ⟨_, rfl⟩
  obtain ⟨g2, hg2⟩ : ∃ g, g = w.heap.size + 1 + 1 := ⟨_, rfl⟩
  have q0 : BoxH w.heap.size x W := by rw [hW]; exact (((BoxH.new w x).alloc _).alloc _)
  have q1 : Box1 g1 2 (.int .i64 n) W := by rw [hW, hg1, ← hz1]; exact ((Box1.new (w.alloc (.cells (hcs x) 23)) 2 (.int .i64 n)).alloc _)
  have q2 : BoxH g2 noH W := by rw [hW, hg2, ← hz2]; exact (BoxH.new ((w.alloc (.cells (hcs x) 23)).alloc (.cells #[.int .i64 n] 2)) noH)
  have hb : Below w.heap.size w W := by rw [hW]; exact (((hw0.alloc (Nat.le_refl _) _).alloc (by rw [hz1]; omega) _).alloc (by rw [hz2]; omega) _)
  have hz : W.heap.size = w.heap.size + 1 + 1 + 1 := by rw [hW]; exact hz3
  have hl1 : w.heap.size < g1 ∧ g1 < W.heap.size := by omega
  have hl2 : w.heap.size < g2 ∧ g2 < W.heap.size := by omega
  have hj12 : g1 < g2 := by omega
  have HW := Lib.hid hW
  have HG1 := Lib.hid hg1
  have HG2 := Lib.hid hg2
  clear hW hw0 hz0 hz1 hz2 hz3 hg1 hg2
  have HC := Lib.hid (chby46_any (.pointer (some ⟨g1, 0, none⟩)) x n (less1 x n) W (hE.below hb) hf (fun hm ho h1 V hV => less1_any x n g1 V ((hE.below hb).below hV) hf hm ho ⟨by omega, hn.2⟩ (q1.below hV hl1.2)))
  obtain ⟨⟨⟨yr, ya, yp, yap, yca, yun, yop⟩, ye⟩, hy⟩ : ∃ y, y = lessH x n := ⟨_, rfl⟩
  replace HC : Hid (Calls Tryd.prog _ _ W fun e w' => e = .returned (.tuple #[hv (lessH x n).1, .int .i64 (lessH x n).2]) ∧ Below W.heap.size W w') := HC
  rw [← hy] at HC ⊢
  dsimp only at HC ⊢
  clear hy hE hf
  obtain ⟨c0, c1, c2, c3, c4, c5, c6, cf⟩ := q0.cells
  obtain ⟨d0, d1, d2, d3, d4, d5, d6, df⟩ := q2.cells
  have u1 := q1.cell.1
  go_enter Tryd.func23, Tryd.ntmps23
  go_upto_region 1 with fail
  rw [← HW.out, ← HG2.out, ← HG1.out]
  clear HW HG1 HG2
  go_wp2_with fail
  refine HC.out.mono ?_
  rintro e w1 ⟨rfl, hb1⟩
  replace q2 := q2.below hb1 hl2.2
  replace hb := Below.on hb hb1
  clear hb1 q0 u1 c0 c1 c2 c3 c4 c5 c6 cf d0 d1 d2 d3 d4 d5 d6 df
  obtain ⟨d0, d1, d2, d3, d4, d5, d6, df⟩ := q2.cells
  go_wp2_with fail
  refine bodyPost_ret (v := .tuple #[.agg #[.string yr, .string ya, .string yp, .int .i64 yap, .int .i64 yca, .int .i64 yun, .bool yop], .int .i64 ye]) (by simp [results, Tryd.results23, go_sem, d0, d1, d2, d3, d4, d5, d6]) rfl ⟨rfl, ?_⟩
  exact below_put7 (hb) (by omega) _ _ _ _ _ _ _
set_option maxRecDepth 100000 in
set_option maxHeartbeats 3200000 in
theorem undo_any (x : Hd) (w : World) (hE : Env w) (hf : FitH x) :
    Calls Tryd.prog 24 #[hv x] w fun e w' => e = .returned (.tuple #[hv (undoH x).1, .int .i64 (undoH x).2]) ∧ Below w.heap.size w w' := by
  have hmf := mk_func
  have hw0 := Below.refl w.heap.size w
  obtain ⟨W, hW⟩ : ∃ W, W = ((w.alloc (.cells (hcs x) 23)).alloc (.cells #[.string ⟨#[]⟩, .string ⟨#[]⟩, .string ⟨#[]⟩, .int .i64 0, .int .i64 0, .int .i64 0, .bool false] 23)) := ⟨_, rfl⟩
  have hz0 : w.heap.size = w.heap.size := rfl
  have hz1 : (w.alloc (.cells (hcs x) 23)).heap.size = w.heap.size + 1 := by rw [World.size_alloc]
  have hz2 : ((w.alloc (.cells (hcs x) 23)).alloc (.cells #[.string ⟨#[]⟩, .string ⟨#[]⟩, .string ⟨#[]⟩, .int .i64 0, .int .i64 0, .int .i64 0, .bool false] 23)).heap.size = w.heap.size + 1 + 1 := by rw [World.size_alloc, hz1]
  obtain ⟨g1, hg1⟩ : ∃ g, g = w.heap.size + 1 := ⟨_, rfl⟩
  have q0 : BoxH w.heap.size x W := by rw [hW]; exact ((BoxH.new w x).alloc _)
  have q1 : BoxH g1 noH W := by rw [hW, hg1, ← hz1]; exact (BoxH.new (w.alloc (.cells (hcs x) 23)) noH)
  have hb : Below w.heap.size w W := by rw [hW]; exact ((hw0.alloc (Nat.le_refl _) _).alloc (by rw [hz1]; omega) _)
  have hz : W.heap.size = w.heap.size + 1 + 1 := by rw [hW]; exact hz2
  have hl1 : w.heap.size < g1 ∧ g1 < W.heap.size := by omega
  have HW := Lib.hid hW
  have HG1 := Lib.hid hg1
  clear hW hw0 hz0 hz1 hz2 hg1
  have HC := Lib.hid (change48_any x (undo1 x) W (hE.below hb) hf (fun hm ho V hV => undo1_any x V))
  obtain ⟨⟨⟨yr, ya, yp, yap, yca, yun, yop⟩, ye⟩, hy⟩ : ∃ y, y = undoH x := ⟨_, rfl⟩
  replace HC : Hid (Calls Tryd.prog _ _ W fun e w' => e = .returned (.tuple #[hv (undoH x).1, .int .i64 (undoH x).2]) ∧ Below W.heap.size W w') := HC
  rw [← hy] at HC ⊢
  dsimp only at HC ⊢
  clear hy hE hf
  obtain ⟨c0, c1, c2, c3, c4, c5, c6, cf⟩ := q0.cells
  obtain ⟨d0, d1, d2, d3, d4, d5, d6, df⟩ := q1.cells
  go_enter Tryd.func24, Tryd.ntmps24
  go_upto_region 1 with fail
  rw [← HW.out, ← HG1.out]
  clear HW HG1
  go_wp2_with fail
  refine HC.out.mono ?_
  rintro e w1 ⟨rfl, hb1⟩
  replace q1 := q1.below hb1 hl1.2
  replace hb := Below.on hb hb1
  clear hb1 q0  c0 c1 c2 c3 c4 c5 c6 cf d0 d1 d2 d3 d4 d5 d6 df
  obtain ⟨d0, d1, d2, d3, d4, d5, d6, df⟩ := q1.cells
  go_wp2_with fail
  refine bodyPost_ret (v := .tuple #[.agg #[.string yr, .string ya, .string yp, .int .i64 yap, .int .i64 yca, .int .i64 yun, .bool yop], .int .i64 ye]) (by simp [results, Tryd.results24, go_sem, d0, d1, d2, d3, d4, d5, d6]) rfl ⟨rfl, ?_⟩
  exact below_put7 (hb) (by omega) _ _ _ _ _ _ _
end Go.Proofs.YtkhkncgndllkjaaDoor.Hol
