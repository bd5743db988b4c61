/- Contract: the chapter's examples. Conditions: the program's array of sizes holds what its initialiser lays. -/
import Derived.Test.YtkhkncgndllkjaaDoorK9
namespace Go.Proofs.YtkhkncgndllkjaaDoor.Hol
open Go.RowKit Cht

def someH (n c : Int) (o : Bool) : Hd := ⟨⟨#[65, 66, 67, 48, 48, 48, 48, 48, 48, 48, 48, 49]⟩, ⟨#[49, 50, 51, 52, 53, 54]⟩, ⟨#[52, 49, 49, 49, 49, 49, 49, 49, 49, 49, 49, 49, 49, 49, 49, 49]⟩, n, c, 9, o⟩
theorem some_any (n : Int) (w : World) : Calls Tryd.prog 34 #[.int .i64 n] w fun e w' => e = .returned (hv (someH n 0 true)) ∧ Below w.heap.size w w' := by
  have hb := Below.refl w.heap.size w
  go_enter Tryd.func34, Tryd.ntmps34
  go_wp2_with fail
  refine bodyPost_ret (v := hv (someH n 0 true)) (by simp [results, Tryd.results34, go_sem, someH]) rfl ⟨rfl, ?_⟩
  exact hb.alloc (Nat.le_refl _) _
theorem some_fit (n c : Int) (o : Bool) (h : 0 ≤ n ∧ n ≤ 1000) (hc : 0 ≤ c ∧ c ≤ 1000) : FitH (someH n c o) := by
  refine ⟨Nat.le_of_ble_eq_true rfl, Nat.le_of_ble_eq_true rfl, Nat.le_of_ble_eq_true rfl, ⟨?_, ?_⟩, ⟨?_, ?_⟩, ⟨by show _ ≤ (9 : Int); decide, by show (9 : Int) ≤ _; decide⟩⟩
  · show _ ≤ n; omega
  · show n ≤ _; omega
  · show _ ≤ c; omega
  · show c ≤ _; omega
theorem ex_1 : takeH (someH 100 0 true) 30 false = (someH 100 30 true, 0) := by kernel_rfl
theorem ex_2 : takeH (someH 100 30 true) 70 false = (someH 100 100 false, 0) := by kernel_rfl
theorem ex_3 : lessH (someH 100 0 true) 100 = (someH 0 0 false, 0) := by kernel_rfl
theorem ex_4 : takeH (someH 100 0 true) 101 true = (noH, 13) := by kernel_rfl
theorem ex_5 : leftH (someH 100 30 true) = 70 := by kernel_rfl
theorem ex_6 : leftH (someH 100 100 false) = 0 := by kernel_rfl

set_option maxRecDepth 100000 in
set_option maxHeartbeats 3200000 in
theorem awake_any (w : World) (hE : Env w) : Calls Tryd.prog 14 #[] w fun e w' => e = .returned (.bool true) ∧ Below w.heap.size w w' := by
  have hb := Below.refl w.heap.size w
  have H0 := Lib.hid (some_any 100)
  have H1 := Lib.hid (fun (V : World) (h : Below w.heap.size w V) => take_any (someH 100 0 true) 30 false V (hE.below h) (some_fit _ _ _ (by decide) (by decide)) (by decide))
  have H2 := Lib.hid (fun (V : World) (h : Below w.heap.size w V) => take_any (someH 100 30 true) 70 false V (hE.below h) (some_fit _ _ _ (by decide) (by decide)) (by decide))
  have H3 := Lib.hid (fun (V : World) (h : Below w.heap.size w V) => less_any (someH 100 0 true) 100 V (hE.below h) (some_fit _ _ _ (by decide) (by decide)) (by decide))
  have H4 := Lib.hid (fun (V : World) (h : Below w.heap.size w V) => take_any (someH 100 0 true) 101 true V (hE.below h) (some_fit _ _ _ (by decide) (by decide)) (by decide))
  have H5 := Lib.hid (fun (V : World) (h : Below w.heap.size w V) => left_any (someH 100 30 true) V (hE.below h) (some_fit _ _ _ (by decide) (by decide)))
  have H6 := Lib.hid (fun (V : World) (h : Below w.heap.size w V) => left_any (someH 100 100 false) V (hE.below h) (some_fit _ _ _ (by decide) (by decide)))
  rw [ex_1] at H1
  rw [ex_2] at H2
  rw [ex_3] at H3
  rw [ex_4] at H4
  rw [ex_5] at H5
  rw [ex_6] at H6
  dsimp only at H1 H2 H3 H4
  have oA : Hid ((someH 100 30 true).op = true) := rfl
  have oB : Hid ((someH 100 100 false).op = false) := rfl
  have oC : Hid ((someH 0 0 false).op = false) := rfl
  generalize someH 100 0 true = S at *
  generalize someH 100 30 true = a at *
  generalize someH 100 100 false = b at *
  generalize someH 0 0 false = c at *
  generalize noH = d at *
  clear hE
  go_enter Tryd.func14, Tryd.ntmps14

  go_wp2_with fail
  refine (H0.out _ ).mono ?_
  rintro e w1 ⟨rfl, hb1⟩
  replace hb := Below.on hb hb1
  clear hb1
  go_wp2_with fail
  refine (H1.out _ hb).mono ?_
  rintro e w2 ⟨rfl, hb2⟩
  replace hb := Below.on hb hb2
  clear hb2
  go_upto_region 2 with fail
  obtain ⟨v2, hv2⟩ : ∃ V, V = w2.alloc (.cells #[.string a.r, .string a.a, .string a.p, .int .i64 a.ap, .int .i64 a.ca, .int .i64 a.un, .bool a.op] 23) := ⟨_, rfl⟩
  have ba : BoxH w2.heap.size a v2 := by rw [hv2]; exact BoxH.new _ _
  have hs2 := hb.size
  replace hb : Below w.heap.size w v2 := by rw [hv2]; exact hb.alloc hs2 _
  rw [← hv2]
  obtain ⟨bag, hbag⟩ : ∃ g, g = w2.heap.size := ⟨_, rfl⟩
  rw [← hbag] at ba hs2 ⊢
  clear hv2 hbag
  obtain ⟨c0, c1, c2, c3, c4, c5, c6, cf⟩ := ba.cells
  go_wp2_with fail
  refine (H2.out _ hb).mono ?_
  rintro e w3 ⟨rfl, hb3⟩
  clear c0 c1 c2 c3 c4 c5 c6 cf
  replace ba := ba.below hb3 ba.lt
  replace hb := Below.on hb hb3
  clear hb3
  obtain ⟨c0, c1, c2, c3, c4, c5, c6, cf⟩ := ba.cells
  go_upto_region 3 with fail
  obtain ⟨v3, hv3⟩ : ∃ V, V = w3.alloc (.cells #[.string b.r, .string b.a, .string b.p, .int .i64 b.ap, .int .i64 b.ca, .int .i64 b.un, .bool b.op] 23) := ⟨_, rfl⟩
  have bb : BoxH w3.heap.size b v3 := by rw [hv3]; exact BoxH.new _ _
  clear c0 c1 c2 c3 c4 c5 c6 cf
  replace ba : BoxH bag a v3 := by rw [hv3]; exact ba.alloc _
  have hs3 := hb.size
  replace hb : Below w.heap.size w v3 := by rw [hv3]; exact hb.alloc hs3 _
  rw [← hv3]
  obtain ⟨bbg, hbbg⟩ : ∃ g, g = w3.heap.size := ⟨_, rfl⟩
  rw [← hbbg] at bb hs3 ⊢
  clear hv3 hbbg
  obtain ⟨c0, c1, c2, c3, c4, c5, c6, cf⟩ := ba.cells
  obtain ⟨d0, d1, d2, d3, d4, d5, d6, df⟩ := bb.cells
  go_wp2_with fail
  refine (H0.out _ ).mono ?_
  rintro e w4 ⟨rfl, hb4⟩
  clear c0 c1 c2 c3 c4 c5 c6 cf d0 d1 d2 d3 d4 d5 d6 df
  replace ba := ba.below hb4 ba.lt
  replace bb := bb.below hb4 bb.lt
  replace hb := Below.on hb hb4
  clear hb4
  obtain ⟨c0, c1, c2, c3, c4, c5, c6, cf⟩ := ba.cells
  obtain ⟨d0, d1, d2, d3, d4, d5, d6, df⟩ := bb.cells
  go_wp2_with fail
  refine (H3.out _ hb).mono ?_
  rintro e w5 ⟨rfl, hb5⟩
  clear c0 c1 c2 c3 c4 c5 c6 cf d0 d1 d2 d3 d4 d5 d6 df
  replace ba := ba.below hb5 ba.lt
  replace bb := bb.below hb5 bb.lt
  replace hb := Below.on hb hb5
  clear hb5
  obtain ⟨c0, c1, c2, c3, c4, c5, c6, cf⟩ := ba.cells
  obtain ⟨d0, d1, d2, d3, d4, d5, d6, df⟩ := bb.cells
  go_upto_region 4 with fail
  obtain ⟨v5, hv5⟩ : ∃ V, V = w5.alloc (.cells #[.string c.r, .string c.a, .string c.p, .int .i64 c.ap, .int .i64 c.ca, .int .i64 c.un, .bool c.op] 23) := ⟨_, rfl⟩
  have bc : BoxH w5.heap.size c v5 := by rw [hv5]; exact BoxH.new _ _
  clear c0 c1 c2 c3 c4 c5 c6 cf d0 d1 d2 d3 d4 d5 d6 df
  replace ba : BoxH bag a v5 := by rw [hv5]; exact ba.alloc _
  replace bb : BoxH bbg b v5 := by rw [hv5]; exact bb.alloc _
  have hs5 := hb.size
  replace hb : Below w.heap.size w v5 := by rw [hv5]; exact hb.alloc hs5 _
  rw [← hv5]
  obtain ⟨bcg, hbcg⟩ : ∃ g, g = w5.heap.size := ⟨_, rfl⟩
  rw [← hbcg] at bc hs5 ⊢
  clear hv5 hbcg
  obtain ⟨c0, c1, c2, c3, c4, c5, c6, cf⟩ := ba.cells
  obtain ⟨d0, d1, d2, d3, d4, d5, d6, df⟩ := bb.cells
  obtain ⟨e0, e1, e2, e3, e4, e5, e6, ef⟩ := bc.cells
  go_wp2_with fail
  refine (H0.out _ ).mono ?_
  rintro e w6 ⟨rfl, hb6⟩
  clear c0 c1 c2 c3 c4 c5 c6 cf d0 d1 d2 d3 d4 d5 d6 df e0 e1 e2 e3 e4 e5 e6 ef
  replace ba := ba.below hb6 ba.lt
  replace bb := bb.below hb6 bb.lt
  replace bc := bc.below hb6 bc.lt
  replace hb := Below.on hb hb6
  clear hb6
  obtain ⟨c0, c1, c2, c3, c4, c5, c6, cf⟩ := ba.cells
  obtain ⟨d0, d1, d2, d3, d4, d5, d6, df⟩ := bb.cells
  obtain ⟨e0, e1, e2, e3, e4, e5, e6, ef⟩ := bc.cells
  go_wp2_with fail
  refine (H4.out _ hb).mono ?_
  rintro e w7 ⟨rfl, hb7⟩
  clear c0 c1 c2 c3 c4 c5 c6 cf d0 d1 d2 d3 d4 d5 d6 df e0 e1 e2 e3 e4 e5 e6 ef
  replace ba := ba.below hb7 ba.lt
  replace bb := bb.below hb7 bb.lt
  replace bc := bc.below hb7 bc.lt
  replace hb := Below.on hb hb7
  clear hb7
  obtain ⟨c0, c1, c2, c3, c4, c5, c6, cf⟩ := ba.cells
  obtain ⟨d0, d1, d2, d3, d4, d5, d6, df⟩ := bb.cells
  obtain ⟨e0, e1, e2, e3, e4, e5, e6, ef⟩ := bc.cells
  go_upto_region 5 with fail
  obtain ⟨v7, hv7⟩ : ∃ V, V = w7.alloc (.cells #[.string d.r, .string d.a, .string d.p, .int .i64 d.ap, .int .i64 d.ca, .int .i64 d.un, .bool d.op] 23) := ⟨_, rfl⟩
  have bd : BoxH w7.heap.size d v7 := by rw [hv7]; exact BoxH.new _ _
  clear c0 c1 c2 c3 c4 c5 c6 cf d0 d1 d2 d3 d4 d5 d6 df e0 e1 e2 e3 e4 e5 e6 ef
  replace ba : BoxH bag a v7 := by rw [hv7]; exact ba.alloc _
  replace bb : BoxH bbg b v7 := by rw [hv7]; exact bb.alloc _
  replace bc : BoxH bcg c v7 := by rw [hv7]; exact bc.alloc _
  have hs7 := hb.size
  replace hb : Below w.heap.size w v7 := by rw [hv7]; exact hb.alloc hs7 _
  rw [← hv7]
  obtain ⟨bdg, hbdg⟩ : ∃ g, g = w7.heap.size := ⟨_, rfl⟩
  rw [← hbdg] at bd hs7 ⊢
  clear hv7 hbdg
  obtain ⟨c0, c1, c2, c3, c4, c5, c6, cf⟩ := ba.cells
  obtain ⟨d0, d1, d2, d3, d4, d5, d6, df⟩ := bb.cells
  obtain ⟨e0, e1, e2, e3, e4, e5, e6, ef⟩ := bc.cells
  obtain ⟨f0, f1, f2, f3, f4, f5, f6, ff⟩ := bd.cells
  go_wp2_with fail
  refine (H5.out _ hb).mono ?_
  rintro e w8 ⟨rfl, hb8⟩
  clear c0 c1 c2 c3 c4 c5 c6 cf d0 d1 d2 d3 d4 d5 d6 df e0 e1 e2 e3 e4 e5 e6 ef f0 f1 f2 f3 f4 f5 f6 ff
  replace ba := ba.below hb8 ba.lt
  replace bb := bb.below hb8 bb.lt
  replace bc := bc.below hb8 bc.lt
  replace bd := bd.below hb8 bd.lt
  replace hb := Below.on hb hb8
  clear hb8
  obtain ⟨c0, c1, c2, c3, c4, c5, c6, cf⟩ := ba.cells
  obtain ⟨d0, d1, d2, d3, d4, d5, d6, df⟩ := bb.cells
  obtain ⟨e0, e1, e2, e3, e4, e5, e6, ef⟩ := bc.cells
  obtain ⟨f0, f1, f2, f3, f4, f5, f6, ff⟩ := bd.cells
  rw [oA.out] at c6
  rw [oC.out] at e6
  go_wp2_with fail
  refine (H6.out _ hb).mono ?_
  rintro e w9 ⟨rfl, hb9⟩
  clear c0 c1 c2 c3 c4 c5 c6 cf d0 d1 d2 d3 d4 d5 d6 df e0 e1 e2 e3 e4 e5 e6 ef f0 f1 f2 f3 f4 f5 f6 ff
  replace ba := ba.below hb9 ba.lt
  replace bb := bb.below hb9 bb.lt
  replace bc := bc.below hb9 bc.lt
  replace bd := bd.below hb9 bd.lt
  replace hb := Below.on hb hb9
  clear hb9
  obtain ⟨c0, c1, c2, c3, c4, c5, c6, cf⟩ := ba.cells
  obtain ⟨d0, d1, d2, d3, d4, d5, d6, df⟩ := bb.cells
  obtain ⟨e0, e1, e2, e3, e4, e5, e6, ef⟩ := bc.cells
  obtain ⟨f0, f1, f2, f3, f4, f5, f6, ff⟩ := bd.cells
  rw [oA.out] at c6
  rw [oB.out] at d6
  rw [oC.out] at e6
  go_wp2_with fail
  go_ret
  exact ⟨rfl, hb⟩
end Go.Proofs.YtkhkncgndllkjaaDoor.Hol
