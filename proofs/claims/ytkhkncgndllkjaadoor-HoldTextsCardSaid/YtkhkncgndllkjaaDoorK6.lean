/- Contracts: what is done to a hold. Conditions: the program's array of sizes holds what its initialiser lays. -/
import Derived.Test.YtkhkncgndllkjaaDoorK5
import Derived.Test.YtkhkncgndllkjaaDoorM1
import Derived.Deep.RegionWith
namespace Go.Proofs.YtkhkncgndllkjaaDoor.Hol
open Go.RowKit Cht

theorem drewB1 {a w : World} {B : Nat} (h : Below B a w) : Below B a w.drew := ⟨h.os, h.tape, h.output, h.size, h.block⟩

def take1 (x : Hd) (n : Int) (l : Bool) : Hd × Int := if leftH x < n then (x, 13) else (⟨x.r, x.a, x.p, x.ap, x.ca + n, x.un, !l⟩, 0)
set_option maxRecDepth 100000 in
set_option maxHeartbeats 3200000 in
theorem take1_any (x : Hd) (n : Int) (l : Bool) (i j : Nat) (w : World) (hE : Env w) (hf : FitH x) (hm : mayH x = true) (ho : x.op = true) (hn : 1 ≤ n ∧ n ≤ 9223372036854775807) (hi : Box1 i 2 (.int .i64 n) w) (hj : Box1 j 4 (.bool l) w) :
    Calls Tryd.prog 45 #[hv x, .pointer (some ⟨i, 0, none⟩), .pointer (some ⟨j, 0, none⟩)] w fun e w' => e = .returned (.tuple #[hv (take1 x n l).1, .int .i64 (take1 x n l).2]) ∧ Below w.heap.size w w' := by
  have hli := hi.lt
  have hlj := hj.lt
  have hw0 := Below.refl w.heap.size w
  obtain ⟨W, hW⟩ : ∃ W, W = (w.alloc (.cells (hcs x) 23)).alloc (.cells #[.string ⟨#[]⟩, .string ⟨#[]⟩, .string ⟨#[]⟩, .int .i64 0, .int .i64 0, .int .i64 0, .bool false] 23) := ⟨_, rfl⟩
  have hz1 : (w.alloc (.cells (hcs x) 23)).heap.size = w.heap.size + 1 := World.size_alloc _ _
  have b1 : BoxH (w.heap.size + 1) noH W := by rw [hW, ← hz1]; exact BoxH.new _ noH
  have b0 : BoxH w.heap.size x W := by
    rw [hW]
    exact (BoxH.new w x).below ((Below.refl _ _).alloc (Nat.le_refl _) _) (by rw [hz1]; omega)
  have hb : Below w.heap.size w W := by
    rw [hW]; exact (hw0.alloc (Nat.le_refl _) _).alloc (by rw [hz1]; omega) _
  obtain ⟨g, hg⟩ : ∃ g, g = w.heap.size + 1 := ⟨_, rfl⟩
  have hz : W.heap.size = w.heap.size + 1 + 1 := by rw [hW, World.size_alloc, hz1]
  have HL := Lib.hid (fun (V : World) (h : Below W.heap.size W V) => left_any x V ((hE.below hb).below h) hf)
  have HW := Lib.hid hW
  rw [← hg] at b1 hz
  have HG := Lib.hid hg
  have hg1 : w.heap.size < g := by omega
  have hap := hf.ap
  have qi := hi.below hb hli
  have qj := hj.below hb hlj
  clear hE hf hW hz1 hw0 hg
  have HI : Hid (∀ V, Below W.heap.size W V → V.cell? ⟨i, 0, none⟩ = some (.int .i64 n)) := fun V hV => (qi.below hV (by omega)).cell.1
  have HJ : Hid (∀ V, Below W.heap.size W V → V.cell? ⟨j, 0, none⟩ = some (.bool l)) := fun V hV => (qj.below hV (by omega)).cell.1
  have hk := (mayH_t hm).2.2.2.2.1
  have hlf := left_3 hm ho
  have HQ := Lib.hid hlf
  clear hm hi hj qi qj
  obtain ⟨xr, xa, xp, xap, xca, xun, xop⟩ := x
  cases ho
  dsimp only at hk hap
  have ai := HI.out W (Below.refl _ _)
  have aj := HJ.out W (Below.refl _ _)
  obtain ⟨c0, c1, c2, c3, c4, c5, c6, cf⟩ := b0.cells
  obtain ⟨d0, d1, d2, d3, d4, d5, d6, df⟩ := b1.cells
  go_enter Tryd.func45, Tryd.ntmps45
  go_upto_region 1 with fail
  rw [← HW.out, ← HG.out]
  clear HW HG
  go_cut [9] from 6 to 9 (fun s9 wx => s9 = .bool (decide (xap - xca < n)) ∧ Below W.heap.size W wx)
  case first =>
    go_region_with (go_at_call 21; with_reducible refine (HL.out _ (by first | exact Below.refl _ _ | exact drewB1 (Below.refl _ _) | exact drewB1 (drewB1 (Below.refl _ _)) | exact drewB1 (drewB1 (drewB1 (Below.refl _ _))))).mono ?_; rintro e wx ⟨rfl, hbx⟩; have hbv : Below W.heap.size W wx := Below.on (by first | exact Below.refl _ _ | exact drewB1 (Below.refl _ _) | exact drewB1 (drewB1 (Below.refl _ _)) | exact drewB1 (drewB1 (drewB1 (Below.refl _ _)))) hbx; have ax := HI.out wx hbv)
    all_goals
      go_wp2
      go_meet
      exact ⟨rfl, (by first | exact hbv | exact drewB1 hbv | exact drewB1 (drewB1 hbv) | exact drewB1 (drewB1 (drewB1 hbv)))⟩
  obtain ⟨rfl, hbx⟩ := hcut
  obtain ⟨w1, rfl⟩ : ∃ y, y = wc := ⟨wc, rfl⟩
  replace ai := HI.out _ hbx
  replace aj := HJ.out _ hbx
  have hsx := hbx.size
  replace b0 := b0.below hbx (by omega)
  replace b1 := b1.below hbx (by omega)
  replace hb := Below.on hb hbx
  clear hbx c0 c1 c2 c3 c4 c5 c6 cf d0 d1 d2 d3 d4 d5 d6 df
  obtain ⟨c0, c1, c2, c3, c4, c5, c6, cf⟩ := b0.cells
  obtain ⟨d0, d1, d2, d3, d4, d5, d6, df⟩ := b1.cells
  clear hlf
  by_cases hc : xap - xca < n
  · have HR : Hid (take1 ⟨xr, xa, xp, xap, xca, xun, true⟩ n l = (⟨xr, xa, xp, xap, xca, xun, true⟩, 13)) := if_pos (by rw [HQ.out]; exact hc)
    go_wp2_with fail
    refine bodyPost_ret (v := .tuple #[.agg #[.string xr, .string xa, .string xp, .int .i64 xap, .int .i64 xca, .int .i64 xun, .bool true], .int .i64 13]) (by simp [results, Tryd.results45, go_sem, d0, d1, d2, d3, d4, d5, d6]) rfl ⟨by rw [HR.out]; try rfl, ?_⟩
    exact below_put7 (hb) (by omega) _ _ _ _ _ _ _
  · have HR : Hid (take1 ⟨xr, xa, xp, xap, xca, xun, true⟩ n l = (⟨xr, xa, xp, xap, xca + n, xun, !l⟩, 0)) := if_neg (by rw [HQ.out]; exact hc)
    go_wp2_with fail
    refine bodyPost_ret (v := .tuple #[.agg #[.string xr, .string xa, .string xp, .int .i64 xap, .int .i64 (xca + n), .int .i64 xun, .bool (!l)], .int .i64 0]) (by simp [results, Tryd.results45, go_sem, d0, d1, d2, d3, d4, d5, d6]) rfl ⟨by rw [HR.out]; try rfl, ?_⟩
    exact below_put7 ((hb.setCell (p := ⟨w.heap.size, 4, none⟩) (Nat.le_refl _) _).setCell (p := ⟨w.heap.size, 6, none⟩) (Nat.le_refl _) _) (by omega) _ _ _ _ _ _ _
def less1 (x : Hd) (n : Int) : Hd × Int := if leftH x < n then (x, 13) else (⟨x.r, x.a, x.p, x.ap - n, x.ca, x.un, x.op⟩, 0)
set_option maxRecDepth 100000 in
set_option maxHeartbeats 3200000 in
theorem less1_any (x : Hd) (n : Int) (i : Nat) (w : World) (hE : Env w) (hf : FitH x) (hm : mayH x = true) (ho : x.op = true) (hn : 1 ≤ n ∧ n ≤ 9223372036854775807) (hi : Box1 i 2 (.int .i64 n) w) :
    Calls Tryd.prog 46 #[hv x, .pointer (some ⟨i, 0, none⟩)] w fun e w' => e = .returned (.tuple #[hv (less1 x n).1, .int .i64 (less1 x n).2]) ∧ Below w.heap.size w w' := by
  have hli := hi.lt
  have hw0 := Below.refl w.heap.size w
  obtain ⟨W, hW⟩ : ∃ W, W = (w.alloc (.cells (hcs x) 23)).alloc (.cells #[.string ⟨#[]⟩, .string ⟨#[]⟩, .string ⟨#[]⟩, .int .i64 0, .int .i64 0, .int .i64 0, .bool false] 23) := ⟨_, rfl⟩
  have hz1 : (w.alloc (.cells (hcs x) 23)).heap.size = w.heap.size + 1 := World.size_alloc _ _
  have b1 : BoxH (w.heap.size + 1) noH W := by rw [hW, ← hz1]; exact BoxH.new _ noH
  have b0 : BoxH w.heap.size x W := by
    rw [hW]
    exact (BoxH.new w x).below ((Below.refl _ _).alloc (Nat.le_refl _) _) (by rw [hz1]; omega)
  have hb : Below w.heap.size w W := by
    rw [hW]; exact (hw0.alloc (Nat.le_refl _) _).alloc (by rw [hz1]; omega) _
  obtain ⟨g, hg⟩ : ∃ g, g = w.heap.size + 1 := ⟨_, rfl⟩
  have hz : W.heap.size = w.heap.size + 1 + 1 := by rw [hW, World.size_alloc, hz1]
  have HL := Lib.hid (fun (V : World) (h : Below W.heap.size W V) => left_any x V ((hE.below hb).below h) hf)
  have HW := Lib.hid hW
  rw [← hg] at b1 hz
  have HG := Lib.hid hg
  have hg1 : w.heap.size < g := by omega
  have hap := hf.ap
  have qi := hi.below hb hli
  clear hE hf hW hz1 hw0 hg
  have HI : Hid (∀ V, Below W.heap.size W V → V.cell? ⟨i, 0, none⟩ = some (.int .i64 n)) := fun V hV => (qi.below hV (by omega)).cell.1
  have hk := (mayH_t hm).2.2.2.2.1
  have hlf := left_3 hm ho
  have HQ := Lib.hid hlf
  clear hm hi qi
  obtain ⟨xr, xa, xp, xap, xca, xun, xop⟩ := x
  cases ho
  dsimp only at hk hap
  have ai := HI.out W (Below.refl _ _)
  obtain ⟨c0, c1, c2, c3, c4, c5, c6, cf⟩ := b0.cells
  obtain ⟨d0, d1, d2, d3, d4, d5, d6, df⟩ := b1.cells
  go_enter Tryd.func46, Tryd.ntmps46
  go_upto_region 1 with fail
  rw [← HW.out, ← HG.out]
  clear HW HG
  go_cut [8] from 5 to 8 (fun s9 wx => s9 = .bool (decide (xap - xca < n)) ∧ Below W.heap.size W wx)
  case first =>
    go_region_with (go_at_call 21; with_reducible refine (HL.out _ (by first | exact Below.refl _ _ | exact drewB1 (Below.refl _ _) | exact drewB1 (drewB1 (Below.refl _ _)) | exact drewB1 (drewB1 (drewB1 (Below.refl _ _))))).mono ?_; rintro e wx ⟨rfl, hbx⟩; have hbv : Below W.heap.size W wx := Below.on (by first | exact Below.refl _ _ | exact drewB1 (Below.refl _ _) | exact drewB1 (drewB1 (Below.refl _ _)) | exact drewB1 (drewB1 (drewB1 (Below.refl _ _)))) hbx; have ax := HI.out wx hbv)
    all_goals
      go_wp2
      go_meet
      exact ⟨rfl, (by first | exact hbv | exact drewB1 hbv | exact drewB1 (drewB1 hbv) | exact drewB1 (drewB1 (drewB1 hbv)))⟩
  obtain ⟨rfl, hbx⟩ := hcut
  obtain ⟨w1, rfl⟩ : ∃ y, y = wc := ⟨wc, rfl⟩
  replace ai := HI.out _ hbx
  have hsx := hbx.size
  replace b0 := b0.below hbx (by omega)
  replace b1 := b1.below hbx (by omega)
  replace hb := Below.on hb hbx
  clear hbx c0 c1 c2 c3 c4 c5 c6 cf d0 d1 d2 d3 d4 d5 d6 df
  obtain ⟨c0, c1, c2, c3, c4, c5, c6, cf⟩ := b0.cells
  obtain ⟨d0, d1, d2, d3, d4, d5, d6, df⟩ := b1.cells
  clear hlf
  by_cases hc : xap - xca < n
  · have HR : Hid (less1 ⟨xr, xa, xp, xap, xca, xun, true⟩ n = (⟨xr, xa, xp, xap, xca, xun, true⟩, 13)) := if_pos (by rw [HQ.out]; exact hc)
    go_wp2_with fail
    refine bodyPost_ret (v := .tuple #[.agg #[.string xr, .string xa, .string xp, .int .i64 xap, .int .i64 xca, .int .i64 xun, .bool true], .int .i64 13]) (by simp [results, Tryd.results46, go_sem, d0, d1, d2, d3, d4, d5, d6]) rfl ⟨by rw [HR.out]; try rfl, ?_⟩
    exact below_put7 (hb) (by omega) _ _ _ _ _ _ _
  · have HR : Hid (less1 ⟨xr, xa, xp, xap, xca, xun, true⟩ n = (⟨xr, xa, xp, xap - n, xca, xun, true⟩, 0)) := if_neg (by rw [HQ.out]; exact hc)
    go_wp2_with fail
    refine bodyPost_ret (v := .tuple #[.agg #[.string xr, .string xa, .string xp, .int .i64 (xap - n), .int .i64 xca, .int .i64 xun, .bool true], .int .i64 0]) (by simp [results, Tryd.results46, go_sem, d0, d1, d2, d3, d4, d5, d6]) rfl ⟨by rw [HR.out]; try rfl, ?_⟩
    exact below_put7 (hb.setCell (p := ⟨w.heap.size, 3, none⟩) (Nat.le_refl _) _) (by omega) _ _ _ _ _ _ _
end Go.Proofs.YtkhkncgndllkjaaDoor.Hol
