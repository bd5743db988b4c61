/- The walk of HoldParts. Conditions: the program's array of sizes holds what its initialiser lays. -/
import Derived.Test.YtkhkncgndllkjaaDoorK11
import Derived.Deep.DeepCutAuto
namespace Go.Proofs.YtkhkncgndllkjaaDoor.Hol
open Go.RowKit Cht
open Mny (Fits)

set_option maxRecDepth 100000 in
set_option maxHeartbeats 3200000 in
theorem parts_any (x : Hd) (n m : Int) (w : World) (hE : Env w) (h1 : x.r.size ≤ 9223372036854775807) (h2 : x.a.size ≤ 9223372036854775807) (h3 : x.p.size ≤ 9223372036854775807) (hf : FitH (fewH x)) (hn : 0 ≤ n ∧ n ≤ 65535) (hm : 0 ≤ m ∧ m ≤ 65535) :
    Calls Tryd.prog 6 #[hv x, .int .u16 n, .int .u16 m] w fun e w' => e = .returned (.bool true) ∧ Below w.heap.size w w' := by
  have hw0 := Below.refl w.heap.size w
  obtain ⟨W, hW⟩ : ∃ W, W = (w.alloc (.cells (hcs x) 23)) := ⟨_, rfl⟩
  have hz0 : w.heap.size = w.heap.size := rfl
  have hz1 : (w.alloc (.cells (hcs x) 23)).heap.size = w.heap.size + 1 := by rw [World.size_alloc]
  have q0 : BoxH w.heap.size x W := by rw [hW]; exact (BoxH.new w x)
  have hb : Below w.heap.size w W := by rw [hW]; exact (hw0.alloc (Nat.le_refl _) _)
  have hz : W.heap.size = w.heap.size + 1 := by rw [hW]; exact hz1
  have HW := Lib.hid hW
  clear hW hw0 hz0 hz1 
  have hE' := Lib.hid (fun (V : World) (h : Below w.heap.size w V) => hE.below h)
  have HF := Lib.hid (fun V => few_any x V h1 h2 h3)
  obtain ⟨y, hy⟩ : ∃ y, y = fewH x := ⟨_, rfl⟩
  rw [← hy] at HF hf
  clear h1 h2 h3 hE hy
  have fn : Fits n := by unfold Fits; omega
  have fm : Fits m := by unfold Fits; omega
  have fnm : Fits (n + m) := by unfold Fits; omega
  have HA := Lib.hid (fun (V : World) (h : Below w.heap.size w V) => awake_any V (hE'.out V h))
  have T1 := Lib.hid (fun (V : World) (h : Below w.heap.size w V) => take_any y n false V (hE'.out V h) hf fn)
  have T2 := Lib.hid (fun (V : World) (h : Below w.heap.size w V) => take_any (takeH y n false).1 m false V (hE'.out V h) (take_fit hf) fm)
  have T3 := Lib.hid (fun (V : World) (h : Below w.heap.size w V) => take_any y (n + m) false V (hE'.out V h) hf fnm)
  have M1 := Lib.hid (fun (V : World) (h : Below w.heap.size w V) => more_any y n 5 V (hE'.out V h) hf fn)
  have M2 := Lib.hid (fun (V : World) (h : Below w.heap.size w V) => more_any (moreH y n 5).1 m 7 V (hE'.out V h) (more_fit hf) fm)
  have M3 := Lib.hid (fun (V : World) (h : Below w.heap.size w V) => more_any y (n + m) 7 V (hE'.out V h) hf fnm)
  have M4 := Lib.hid (fun (V : World) (h : Below w.heap.size w V) => more_any y n y.un V (hE'.out V h) hf fn)
  have L1 := Lib.hid (fun (V : World) (h : Below w.heap.size w V) => less_any (moreH y n y.un).1 n V (hE'.out V h) (more_fit hf) fn)
  have F1 := Lib.hid (fun h k => two_takes (x := y) (n := n) (m := m) h k)
  have F2 := Lib.hid (fun h k => two_mores (x := y) (n := n) (m := m) (u := 5) (v := 7) h k)
  have F3 := Lib.hid (fun h => more_less (x := y) (n := n) h)
  obtain ⟨⟨A, ea⟩, hA⟩ : ∃ z, z = takeH y n false := ⟨_, rfl⟩
  rw [← hA] at T1 T2 F1
  obtain ⟨⟨B, eb⟩, hB⟩ : ∃ z, z = takeH A m false := ⟨_, rfl⟩
  dsimp only at T1 T2 F1
  rw [← hB] at T2 F1
  obtain ⟨⟨Y, ey⟩, hY⟩ : ∃ z, z = takeH y (n + m) false := ⟨_, rfl⟩
  rw [← hY] at T3 F1
  dsimp only at T2 T3 F1
  obtain ⟨⟨U, eu⟩, hU⟩ : ∃ z, z = moreH y n 5 := ⟨_, rfl⟩
  rw [← hU] at M1 M2 F2
  obtain ⟨⟨T, et⟩, hT⟩ : ∃ z, z = moreH U m 7 := ⟨_, rfl⟩
  dsimp only at M1 M2 F2
  rw [← hT] at M2 F2
  obtain ⟨⟨Z, ez⟩, hZ⟩ : ∃ z, z = moreH y (n + m) 7 := ⟨_, rfl⟩
  rw [← hZ] at M3 F2
  dsimp only at M2 M3 F2
  obtain ⟨⟨P, ep⟩, hP⟩ : ∃ z, z = moreH y n y.un := ⟨_, rfl⟩
  rw [← hP] at M4 L1 F3
  obtain ⟨⟨R, er⟩, hR⟩ : ∃ z, z = lessH P n := ⟨_, rfl⟩
  dsimp only at M4 L1 F3
  rw [← hR] at L1 F3
  dsimp only at L1
  clear hA hB hY hU hT hZ hP hR
  obtain ⟨c0, c1, c2, c3, c4, c5, c6, cf⟩ := q0.cells
  go_enter Tryd.func6, Tryd.ntmps6
  go_upto_region 1 with fail
  rw [← HW.out, ]
  clear HW 
  go_wp2_with fail
  refine (HF.out _ ).mono ?_
  rintro e w1 ⟨rfl, hb1⟩
  clear c0 c1 c2 c3 c4 c5 c6 cf
  replace q0 := q0.below hb1 q0.lt
  replace hb := Below.on hb hb1
  clear hb1
  obtain ⟨c0, c1, c2, c3, c4, c5, c6, cf⟩ := q0.cells
  go_upto_region 2 with fail
  obtain ⟨v1, hv1⟩ : ∃ V, V = (((((((w1.setCell ⟨w.heap.size, 0, none⟩ (.string y.r)).setCell ⟨w.heap.size, 1, none⟩ (.string y.a)).setCell ⟨w.heap.size, 2, none⟩ (.string y.p)).setCell ⟨w.heap.size, 3, none⟩ (.int .i64 y.ap)).setCell ⟨w.heap.size, 4, none⟩ (.int .i64 y.ca)).setCell ⟨w.heap.size, 5, none⟩ (.int .i64 y.un)).setCell ⟨w.heap.size, 6, none⟩ (.bool y.op)) := ⟨_, rfl⟩
  clear c0 c1 c2 c3 c4 c5 c6 cf
  replace q0 : BoxH w.heap.size y v1 := by rw [hv1]; exact box_put q0 y
  replace hb : Below w.heap.size w v1 := by rw [hv1]; exact below_put7 hb (by omega) _ _ _ _ _ _ _
  rw [← hv1]
  clear hv1
  obtain ⟨c0, c1, c2, c3, c4, c5, c6, cf⟩ := q0.cells
  go_upto_region 3 with fail
  go_wp2_with fail
  refine (T1.out _ hb).mono ?_
  rintro e w2 ⟨rfl, hb2⟩
  clear c0 c1 c2 c3 c4 c5 c6 cf
  replace q0 := q0.below hb2 q0.lt
  replace hb := Below.on hb hb2
  clear hb2
  obtain ⟨c0, c1, c2, c3, c4, c5, c6, cf⟩ := q0.cells
  go_upto_region 4 with fail
  have lq0bA := q0.lt
  obtain ⟨v2, hv2⟩ : ∃ V, V = w2.alloc (.cells #[.string A.r, .string A.a, .string A.p, .int .i64 A.ap, .int .i64 A.ca, .int .i64 A.un, .bool A.op] 23) := ⟨_, rfl⟩
  have bA : BoxH w2.heap.size A v2 := by rw [hv2]; exact BoxH.new _ _
  clear c0 c1 c2 c3 c4 c5 c6 cf
  replace q0 : BoxH w.heap.size y v2 := by rw [hv2]; exact q0.alloc _
  have hs2 := hb.size
  replace hb : Below w.heap.size w v2 := by rw [hv2]; exact hb.alloc hs2 _
  rw [← hv2]
  obtain ⟨bAg, hbAg⟩ : ∃ g, g = w2.heap.size := ⟨_, rfl⟩
  rw [← hbAg] at bA hs2 lq0bA ⊢
  clear hv2 hbAg
  obtain ⟨c0, c1, c2, c3, c4, c5, c6, cf⟩ := q0.cells
  obtain ⟨d0, d1, d2, d3, d4, d5, d6, df⟩ := bA.cells
  go_wp2_with fail
  refine (T2.out _ hb).mono ?_
  rintro e w3 ⟨rfl, hb3⟩
  clear c0 c1 c2 c3 c4 c5 c6 cf d0 d1 d2 d3 d4 d5 d6 df
  replace q0 := q0.below hb3 q0.lt
  replace bA := bA.below hb3 bA.lt
  replace hb := Below.on hb hb3
  clear hb3
  obtain ⟨c0, c1, c2, c3, c4, c5, c6, cf⟩ := q0.cells
  obtain ⟨d0, d1, d2, d3, d4, d5, d6, df⟩ := bA.cells
  go_upto_region 5 with fail
  obtain ⟨v3, hv3⟩ : ∃ V, V = (((((((w3.setCell ⟨bAg, 0, none⟩ (.string B.r)).setCell ⟨bAg, 1, none⟩ (.string B.a)).setCell ⟨bAg, 2, none⟩ (.string B.p)).setCell ⟨bAg, 3, none⟩ (.int .i64 B.ap)).setCell ⟨bAg, 4, none⟩ (.int .i64 B.ca)).setCell ⟨bAg, 5, none⟩ (.int .i64 B.un)).setCell ⟨bAg, 6, none⟩ (.bool B.op)) := ⟨_, rfl⟩
  clear c0 c1 c2 c3 c4 c5 c6 cf d0 d1 d2 d3 d4 d5 d6 df
  replace q0 : BoxH w.heap.size y v3 := by rw [hv3]; exact box_puts (k := bAg) q0 B (by omega)
  replace bA : BoxH bAg B v3 := by rw [hv3]; exact box_put bA B
  replace hb : Below w.heap.size w v3 := by rw [hv3]; exact below_put7 hb (by omega) _ _ _ _ _ _ _
  rw [← hv3]
  clear hv3
  obtain ⟨c0, c1, c2, c3, c4, c5, c6, cf⟩ := q0.cells
  obtain ⟨d0, d1, d2, d3, d4, d5, d6, df⟩ := bA.cells
  go_wp2_with fail
  refine (T3.out _ hb).mono ?_
  rintro e w4 ⟨rfl, hb4⟩
  clear c0 c1 c2 c3 c4 c5 c6 cf d0 d1 d2 d3 d4 d5 d6 df
  replace q0 := q0.below hb4 q0.lt
  replace bA := bA.below hb4 bA.lt
  replace hb := Below.on hb hb4
  clear hb4
  obtain ⟨c0, c1, c2, c3, c4, c5, c6, cf⟩ := q0.cells
  obtain ⟨d0, d1, d2, d3, d4, d5, d6, df⟩ := bA.cells
  go_upto_region 6 with fail
  have lq0bY := q0.lt
  have lbAbY := bA.lt
  obtain ⟨v4, hv4⟩ : ∃ V, V = w4.alloc (.cells #[.string Y.r, .string Y.a, .string Y.p, .int .i64 Y.ap, .int .i64 Y.ca, .int .i64 Y.un, .bool Y.op] 23) := ⟨_, rfl⟩
  have bY : BoxH w4.heap.size Y v4 := by rw [hv4]; exact BoxH.new _ _
  clear c0 c1 c2 c3 c4 c5 c6 cf d0 d1 d2 d3 d4 d5 d6 df
  replace q0 : BoxH w.heap.size y v4 := by rw [hv4]; exact q0.alloc _
  replace bA : BoxH bAg B v4 := by rw [hv4]; exact bA.alloc _
  have hs4 := hb.size
  replace hb : Below w.heap.size w v4 := by rw [hv4]; exact hb.alloc hs4 _
  rw [← hv4]
  obtain ⟨bYg, hbYg⟩ : ∃ g, g = w4.heap.size := ⟨_, rfl⟩
  rw [← hbYg] at bY hs4 lq0bY lbAbY ⊢
  clear hv4 hbYg
  obtain ⟨c0, c1, c2, c3, c4, c5, c6, cf⟩ := q0.cells
  obtain ⟨d0, d1, d2, d3, d4, d5, d6, df⟩ := bA.cells
  obtain ⟨e0, e1, e2, e3, e4, e5, e6, ef⟩ := bY.cells
  go_cut [63] from 49 to 63 (fun s63 wx => s63 = .bool false ∧ v4 = wx)
  case first =>
    by_cases he1 : ea = 0
    · by_cases he2 : eb = 0
      · obtain ⟨rfl, rfl⟩ := Prod.mk.inj (F1.out he1 he2)
        subst he1
        subst he2
        go_wp2_with fail
        go_meet
        exact ⟨rfl, rfl⟩
      · have he3 : (eb == 0) = false := by simpa using he2
        subst he1
        clear he2
        go_wp2_with fail
        go_meet
        exact ⟨rfl, rfl⟩
    · have he3 : (ea == 0) = false := by simpa using he1
      clear he1
      go_wp2_with fail
      go_meet
      exact ⟨rfl, rfl⟩
  obtain ⟨rfl, rfl⟩ := hcut
  clear c0 c1 c2 c3 c4 c5 c6 cf d0 d1 d2 d3 d4 d5 d6 df e0 e1 e2 e3 e4 e5 e6 ef
  clear F1 bA bY T1 T2 T3
  obtain ⟨c0, c1, c2, c3, c4, c5, c6, cf⟩ := q0.cells
  go_upto_region 8 with fail
  go_wp2_with fail
  refine (M1.out _ hb).mono ?_
  rintro e w5 ⟨rfl, hb5⟩
  clear c0 c1 c2 c3 c4 c5 c6 cf
  replace q0 := q0.below hb5 q0.lt
  replace hb := Below.on hb hb5
  clear hb5
  obtain ⟨c0, c1, c2, c3, c4, c5, c6, cf⟩ := q0.cells
  go_upto_region 9 with fail
  have lq0bU := q0.lt
  obtain ⟨v5, hv5⟩ : ∃ V, V = w5.alloc (.cells #[.string U.r, .string U.a, .string U.p, .int .i64 U.ap, .int .i64 U.ca, .int .i64 U.un, .bool U.op] 23) := ⟨_, rfl⟩
  have bU : BoxH w5.heap.size U v5 := by rw [hv5]; exact BoxH.new _ _
  clear c0 c1 c2 c3 c4 c5 c6 cf
  replace q0 : BoxH w.heap.size y v5 := by rw [hv5]; exact q0.alloc _
  have hs5 := hb.size
  replace hb : Below w.heap.size w v5 := by rw [hv5]; exact hb.alloc hs5 _
  rw [← hv5]
  obtain ⟨bUg, hbUg⟩ : ∃ g, g = w5.heap.size := ⟨_, rfl⟩
  rw [← hbUg] at bU hs5 lq0bU ⊢
  clear hv5 hbUg
  obtain ⟨c0, c1, c2, c3, c4, c5, c6, cf⟩ := q0.cells
  obtain ⟨d0, d1, d2, d3, d4, d5, d6, df⟩ := bU.cells
  go_wp2_with fail
  refine (M2.out _ hb).mono ?_
  rintro e w6 ⟨rfl, hb6⟩
  clear c0 c1 c2 c3 c4 c5 c6 cf d0 d1 d2 d3 d4 d5 d6 df
  replace q0 := q0.below hb6 q0.lt
  replace bU := bU.below hb6 bU.lt
  replace hb := Below.on hb hb6
  clear hb6
  obtain ⟨c0, c1, c2, c3, c4, c5, c6, cf⟩ := q0.cells
  obtain ⟨d0, d1, d2, d3, d4, d5, d6, df⟩ := bU.cells
  go_upto_region 10 with fail
  obtain ⟨v6, hv6⟩ : ∃ V, V = (((((((w6.setCell ⟨bUg, 0, none⟩ (.string T.r)).setCell ⟨bUg, 1, none⟩ (.string T.a)).setCell ⟨bUg, 2, none⟩ (.string T.p)).setCell ⟨bUg, 3, none⟩ (.int .i64 T.ap)).setCell ⟨bUg, 4, none⟩ (.int .i64 T.ca)).setCell ⟨bUg, 5, none⟩ (.int .i64 T.un)).setCell ⟨bUg, 6, none⟩ (.bool T.op)) := ⟨_, rfl⟩
  clear c0 c1 c2 c3 c4 c5 c6 cf d0 d1 d2 d3 d4 d5 d6 df
  replace q0 : BoxH w.heap.size y v6 := by rw [hv6]; exact box_puts (k := bUg) q0 T (by omega)
  replace bU : BoxH bUg T v6 := by rw [hv6]; exact box_put bU T
  replace hb : Below w.heap.size w v6 := by rw [hv6]; exact below_put7 hb (by omega) _ _ _ _ _ _ _
  rw [← hv6]
  clear hv6
  obtain ⟨c0, c1, c2, c3, c4, c5, c6, cf⟩ := q0.cells
  obtain ⟨d0, d1, d2, d3, d4, d5, d6, df⟩ := bU.cells
  go_wp2_with fail
  refine (M3.out _ hb).mono ?_
  rintro e w7 ⟨rfl, hb7⟩
  clear c0 c1 c2 c3 c4 c5 c6 cf d0 d1 d2 d3 d4 d5 d6 df
  replace q0 := q0.below hb7 q0.lt
  replace bU := bU.below hb7 bU.lt
  replace hb := Below.on hb hb7
  clear hb7
  obtain ⟨c0, c1, c2, c3, c4, c5, c6, cf⟩ := q0.cells
  obtain ⟨d0, d1, d2, d3, d4, d5, d6, df⟩ := bU.cells
  go_upto_region 11 with fail
  have lq0bZ := q0.lt
  have lbUbZ := bU.lt
  obtain ⟨v7, hv7⟩ : ∃ V, V = w7.alloc (.cells #[.string Z.r, .string Z.a, .string Z.p, .int .i64 Z.ap, .int .i64 Z.ca, .int .i64 Z.un, .bool Z.op] 23) := ⟨_, rfl⟩
  have bZ : BoxH w7.heap.size Z v7 := by rw [hv7]; exact BoxH.new _ _
  clear c0 c1 c2 c3 c4 c5 c6 cf d0 d1 d2 d3 d4 d5 d6 df
  replace q0 : BoxH w.heap.size y v7 := by rw [hv7]; exact q0.alloc _
  replace bU : BoxH bUg T v7 := by rw [hv7]; exact bU.alloc _
  have hs7 := hb.size
  replace hb : Below w.heap.size w v7 := by rw [hv7]; exact hb.alloc hs7 _
  rw [← hv7]
  obtain ⟨bZg, hbZg⟩ : ∃ g, g = w7.heap.size := ⟨_, rfl⟩
  rw [← hbZg] at bZ hs7 lq0bZ lbUbZ ⊢
  clear hv7 hbZg
  obtain ⟨c0, c1, c2, c3, c4, c5, c6, cf⟩ := q0.cells
  obtain ⟨d0, d1, d2, d3, d4, d5, d6, df⟩ := bU.cells
  obtain ⟨e0, e1, e2, e3, e4, e5, e6, ef⟩ := bZ.cells
  go_cut [98] from 84 to 98 (fun s63 wx => s63 = .bool false ∧ v7 = wx)
  case first =>
    by_cases he1 : eu = 0
    · by_cases he2 : et = 0
      · obtain ⟨rfl, rfl⟩ := Prod.mk.inj (F2.out he1 he2)
        subst he1
        subst he2
        go_wp2_with fail
        go_meet
        exact ⟨rfl, rfl⟩
      · have he3 : (et == 0) = false := by simpa using he2
        subst he1
        clear he2
        go_wp2_with fail
        go_meet
        exact ⟨rfl, rfl⟩
    · have he3 : (eu == 0) = false := by simpa using he1
      clear he1
      go_wp2_with fail
      go_meet
      exact ⟨rfl, rfl⟩
  obtain ⟨rfl, rfl⟩ := hcut
  clear c0 c1 c2 c3 c4 c5 c6 cf d0 d1 d2 d3 d4 d5 d6 df e0 e1 e2 e3 e4 e5 e6 ef
  clear F2 bU bZ M1 M2 M3
  obtain ⟨c0, c1, c2, c3, c4, c5, c6, cf⟩ := q0.cells
  go_upto_region 13 with fail
  go_wp2_with fail
  refine (M4.out _ hb).mono ?_
  rintro e w8 ⟨rfl, hb8⟩
  clear c0 c1 c2 c3 c4 c5 c6 cf
  replace q0 := q0.below hb8 q0.lt
  replace hb := Below.on hb hb8
  clear hb8
  obtain ⟨c0, c1, c2, c3, c4, c5, c6, cf⟩ := q0.cells
  go_upto_region 14 with fail
  have lq0bP := q0.lt
  obtain ⟨v8, hv8⟩ : ∃ V, V = w8.alloc (.cells #[.string P.r, .string P.a, .string P.p, .int .i64 P.ap, .int .i64 P.ca, .int .i64 P.un, .bool P.op] 23) := ⟨_, rfl⟩
  have bP : BoxH w8.heap.size P v8 := by rw [hv8]; exact BoxH.new _ _
  clear c0 c1 c2 c3 c4 c5 c6 cf
  replace q0 : BoxH w.heap.size y v8 := by rw [hv8]; exact q0.alloc _
  have hs8 := hb.size
  replace hb : Below w.heap.size w v8 := by rw [hv8]; exact hb.alloc hs8 _
  rw [← hv8]
  obtain ⟨bPg, hbPg⟩ : ∃ g, g = w8.heap.size := ⟨_, rfl⟩
  rw [← hbPg] at bP hs8 lq0bP ⊢
  clear hv8 hbPg
  obtain ⟨c0, c1, c2, c3, c4, c5, c6, cf⟩ := q0.cells
  obtain ⟨d0, d1, d2, d3, d4, d5, d6, df⟩ := bP.cells
  by_cases hq : ep = 0
  case neg =>
    have hq' : (ep != 0) = true := by simpa using hq
    clear hq
    go_wp2_with fail
    refine (HA.out _ hb).mono ?_
    rintro e w9 ⟨rfl, hb9⟩
    clear c0 c1 c2 c3 c4 c5 c6 cf d0 d1 d2 d3 d4 d5 d6 df
    replace q0 := q0.below hb9 q0.lt
    replace bP := bP.below hb9 bP.lt
    replace hb := Below.on hb hb9
    clear hb9
    obtain ⟨c0, c1, c2, c3, c4, c5, c6, cf⟩ := q0.cells
    obtain ⟨d0, d1, d2, d3, d4, d5, d6, df⟩ := bP.cells
    go_wp2_with fail
    go_ret
    exact ⟨rfl, hb⟩
  obtain ⟨e1, e2⟩ := Prod.mk.inj (F3.out hq)
  rw [e1, e2] at L1
  clear e1 e2 F3
  subst hq
  go_upto_region 16 with fail
  go_wp2_with fail
  refine (L1.out _ hb).mono ?_
  rintro e w9 ⟨rfl, hb9⟩
  clear c0 c1 c2 c3 c4 c5 c6 cf d0 d1 d2 d3 d4 d5 d6 df
  replace q0 := q0.below hb9 q0.lt
  replace bP := bP.below hb9 bP.lt
  replace hb := Below.on hb hb9
  clear hb9
  obtain ⟨c0, c1, c2, c3, c4, c5, c6, cf⟩ := q0.cells
  obtain ⟨d0, d1, d2, d3, d4, d5, d6, df⟩ := bP.cells
  go_upto_region 17 with fail
  have lq0bR := q0.lt
  have lbPbR := bP.lt
  obtain ⟨v9, hv9⟩ : ∃ V, V = w9.alloc (.cells #[.string y.r, .string y.a, .string y.p, .int .i64 y.ap, .int .i64 y.ca, .int .i64 y.un, .bool y.op] 23) := ⟨_, rfl⟩
  have bR : BoxH w9.heap.size y v9 := by rw [hv9]; exact BoxH.new _ _
  clear c0 c1 c2 c3 c4 c5 c6 cf d0 d1 d2 d3 d4 d5 d6 df
  replace q0 : BoxH w.heap.size y v9 := by rw [hv9]; exact q0.alloc _
  replace bP : BoxH bPg P v9 := by rw [hv9]; exact bP.alloc _
  have hs9 := hb.size
  replace hb : Below w.heap.size w v9 := by rw [hv9]; exact hb.alloc hs9 _
  rw [← hv9]
  obtain ⟨bRg, hbRg⟩ : ∃ g, g = w9.heap.size := ⟨_, rfl⟩
  rw [← hbRg] at bR hs9 lq0bR lbPbR ⊢
  clear hv9 hbRg
  obtain ⟨c0, c1, c2, c3, c4, c5, c6, cf⟩ := q0.cells
  obtain ⟨d0, d1, d2, d3, d4, d5, d6, df⟩ := bP.cells
  obtain ⟨e0, e1, e2, e3, e4, e5, e6, ef⟩ := bR.cells
  go_wp2_with fail
  refine (HA.out _ hb).mono ?_
  rintro e w10 ⟨rfl, hb10⟩
  clear c0 c1 c2 c3 c4 c5 c6 cf d0 d1 d2 d3 d4 d5 d6 df e0 e1 e2 e3 e4 e5 e6 ef
  replace q0 := q0.below hb10 q0.lt
  replace bP := bP.below hb10 bP.lt
  replace bR := bR.below hb10 bR.lt
  replace hb := Below.on hb hb10
  clear hb10
  obtain ⟨c0, c1, c2, c3, c4, c5, c6, cf⟩ := q0.cells
  obtain ⟨d0, d1, d2, d3, d4, d5, d6, df⟩ := bP.cells
  obtain ⟨e0, e1, e2, e3, e4, e5, e6, ef⟩ := bR.cells
  go_wp2_with fail
  go_ret
  exact ⟨rfl, hb⟩
end Go.Proofs.YtkhkncgndllkjaaDoor.Hol
