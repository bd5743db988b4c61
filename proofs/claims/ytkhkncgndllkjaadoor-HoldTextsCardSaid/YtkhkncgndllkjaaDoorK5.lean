/- Contract: a hold once that was done to it which may be done to an open one alone. Conditions: the program's array of sizes holds what its initialiser lays. -/
import Derived.Test.YtkhkncgndllkjaaDoorKB
namespace Go.Proofs.YtkhkncgndllkjaaDoor.Hol
open Go.RowKit Cht

/-- What comes of a hold by what is done to it. -/
def chgH (x : Hd) (d : Hd × Int) : Hd × Int :=
  if mayH x = false then (noH, 1) else if x.op = false then (noH, 14) else if d.2 ≠ 0 then (noH, d.2) else (⟨d.1.r, d.1.a, d.1.p, d.1.ap, d.1.ca, d.1.un, d.1.op && decide (d.1.ca < d.1.ap)⟩, 0)
theorem chg_1 {x : Hd} {d : Hd × Int} (h : mayH x = false) : chgH x d = (noH, 1) := if_pos h
theorem chg_2 {x : Hd} {d : Hd × Int} (h : mayH x = true) (ho : x.op = false) : chgH x d = (noH, 14) := by unfold chgH; rw [if_neg (by rw [h]; decide), if_pos ho]
theorem chg_3 {x : Hd} {d : Hd × Int} (h : mayH x = true) (ho : x.op = true) (he : d.2 ≠ 0) : chgH x d = (noH, d.2) := by unfold chgH; rw [if_neg (by rw [h]; decide), if_neg (by rw [ho]; decide), if_pos he]
theorem chg_4 {x : Hd} {d : Hd × Int} (h : mayH x = true) (ho : x.op = true) (he : d.2 = 0) : chgH x d = (⟨d.1.r, d.1.a, d.1.p, d.1.ap, d.1.ca, d.1.un, d.1.op && decide (d.1.ca < d.1.ap)⟩, 0) := by
  unfold chgH; rw [if_neg (by rw [h]; decide), if_neg (by rw [ho]; decide), if_neg (not_not_intro he)]


set_option maxRecDepth 100000 in
set_option maxHeartbeats 3200000 in
theorem change61_any (p q : Value) (x : Hd) (d : Hd × Int) (w : World) (hE : Env w) (hf : FitH x)
    (hF : mayH x = true → x.op = true → ∀ W, Below w.heap.size w W → Calls Tryd.prog 61 #[hv x, p, q] W fun e w' => e = .returned (.tuple #[hv d.1, .int .i64 d.2]) ∧ Below W.heap.size W w') :
    Calls Tryd.prog 47 #[hv x, .func (.func 61) #[] #[p, q]] w fun e w' => e = .returned (.tuple #[hv (chgH x d).1, .int .i64 (chgH x d).2]) ∧ Below w.heap.size w w' := by
  have hw0 := Below.refl w.heap.size w
  obtain ⟨W, hW⟩ : ∃ W, W = (w.alloc (.cells (hcs x) 23)).alloc (.cells #[.string ⟨#[]⟩, .string ⟨#[]⟩, .string ⟨#[]⟩, .int .i64 0, .int .i64 0, .int .i64 0, .bool false] 23) := ⟨_, rfl⟩
  have hz1 : (w.alloc (.cells (hcs x) 23)).heap.size = w.heap.size + 1 := World.size_alloc _ _
  have b1 : BoxH (w.heap.size + 1) noH W := by rw [hW, ← hz1]; exact BoxH.new _ noH
  have b0 : BoxH w.heap.size x W := by
    rw [hW]
    exact (BoxH.new w x).below ((Below.refl _ _).alloc (Nat.le_refl _) _) (by rw [hz1]; omega)
  have hb : Below w.heap.size w W := by
    rw [hW]; exact (hw0.alloc (Nat.le_refl _) _).alloc (by rw [hz1]; omega) _
  obtain ⟨g, hg⟩ : ∃ g, g = w.heap.size + 1 := ⟨_, rfl⟩
  have hz : W.heap.size = w.heap.size + 1 + 1 := by rw [hW, World.size_alloc, hz1]
  have HX1 := Lib.hid (fun (W : World) (h : Below w.heap.size w W) => may_any x W (hE.below h) hf)
  have HW := Lib.hid hW
  rw [← hg] at b1 hz
  have HG := Lib.hid hg
  have hg1 : w.heap.size < g := by omega
  clear hE hf hW hz1 hw0 hg
  have HF := Lib.hid hF
  obtain ⟨⟨yr, ya, yp, yap, yca, yun, yop⟩, e⟩ := d
  clear hF
  cases hm : mayH x with
  | false =>
    have HR := Lib.hid (chg_1 (d := (⟨yr, ya, yp, yap, yca, yun, yop⟩, e)) hm)
    rw [hm] at HX1
    clear hm
    obtain ⟨c0, c1, c2, c3, c4, c5, c6, cf⟩ := b0.cells
    obtain ⟨d0, d1, d2, d3, d4, d5, d6, df⟩ := b1.cells
    go_enter Tryd.func47, Tryd.ntmps47
    go_upto_region 1 with fail
    rw [← HW.out, ← HG.out]
    clear HW HG
    go_wp2_with fail
    refine (HX1.out _ hb).mono ?_
    rintro e w1 ⟨rfl, hb1⟩
    have hs1 := hb1.size
    replace b0 := b0.below hb1 (by omega)
    replace b1 := b1.below hb1 (by omega)
    replace hb := Below.on hb hb1
    clear hb1 c0 c1 c2 c3 c4 c5 c6 cf d0 d1 d2 d3 d4 d5 d6 df
    obtain ⟨c0, c1, c2, c3, c4, c5, c6, cf⟩ := b0.cells
    obtain ⟨d0, d1, d2, d3, d4, d5, d6, df⟩ := b1.cells
    go_wp2_with fail
    refine bodyPost_ret (v := .tuple #[.agg #[.string ⟨#[]⟩, .string ⟨#[]⟩, .string ⟨#[]⟩, .int .i64 0, .int .i64 0, .int .i64 0, .bool false], .int .i64 1]) (by simp [results, Tryd.results47, go_sem, d0, d1, d2, d3, d4, d5, d6]) rfl ⟨by rw [HR.out]; try rfl, ?_⟩
    exact below_put7 (hb) (by omega) _ _ _ _ _ _ _
  | true =>
    rw [hm] at HX1
    obtain ⟨xr, xa, xp, xap, xca, xun, xop⟩ := x
    cases xop with
    | false =>
      have HR := Lib.hid (chg_2 (d := (⟨yr, ya, yp, yap, yca, yun, yop⟩, e)) hm rfl)
      clear hm
      obtain ⟨c0, c1, c2, c3, c4, c5, c6, cf⟩ := b0.cells
      obtain ⟨d0, d1, d2, d3, d4, d5, d6, df⟩ := b1.cells
      go_enter Tryd.func47, Tryd.ntmps47
      go_upto_region 1 with fail
      rw [← HW.out, ← HG.out]
      clear HW HG
      go_wp2_with fail
      refine (HX1.out _ hb).mono ?_
      rintro e w1 ⟨rfl, hb1⟩
      have hs1 := hb1.size
      replace b0 := b0.below hb1 (by omega)
      replace b1 := b1.below hb1 (by omega)
      replace hb := Below.on hb hb1
      clear hb1 c0 c1 c2 c3 c4 c5 c6 cf d0 d1 d2 d3 d4 d5 d6 df
      obtain ⟨c0, c1, c2, c3, c4, c5, c6, cf⟩ := b0.cells
      obtain ⟨d0, d1, d2, d3, d4, d5, d6, df⟩ := b1.cells
      go_wp2_with fail
      refine bodyPost_ret (v := .tuple #[.agg #[.string ⟨#[]⟩, .string ⟨#[]⟩, .string ⟨#[]⟩, .int .i64 0, .int .i64 0, .int .i64 0, .bool false], .int .i64 14]) (by simp [results, Tryd.results47, go_sem, d0, d1, d2, d3, d4, d5, d6]) rfl ⟨by rw [HR.out]; try rfl, ?_⟩
      exact below_put7 (hb) (by omega) _ _ _ _ _ _ _
    | true =>
      have HD := Lib.hid (HF.out hm rfl)
      clear HF
      by_cases he : e = 0
      case neg =>
        have HR := Lib.hid (chg_3 (d := (⟨yr, ya, yp, yap, yca, yun, yop⟩, e)) hm rfl he)
        have he' : (e != 0) = true := by simpa using he
        clear hm he
        obtain ⟨c0, c1, c2, c3, c4, c5, c6, cf⟩ := b0.cells
        obtain ⟨d0, d1, d2, d3, d4, d5, d6, df⟩ := b1.cells
        go_enter Tryd.func47, Tryd.ntmps47
        go_upto_region 1 with fail
        rw [← HW.out, ← HG.out]
        clear HW HG
        go_wp2_with fail
        refine (HX1.out _ hb).mono ?_
        rintro e w1 ⟨rfl, hb1⟩
        have hs1 := hb1.size
        replace b0 := b0.below hb1 (by omega)
        replace b1 := b1.below hb1 (by omega)
        replace hb := Below.on hb hb1
        clear hb1 c0 c1 c2 c3 c4 c5 c6 cf d0 d1 d2 d3 d4 d5 d6 df
        obtain ⟨c0, c1, c2, c3, c4, c5, c6, cf⟩ := b0.cells
        obtain ⟨d0, d1, d2, d3, d4, d5, d6, df⟩ := b1.cells
        go_wp2_with fail
        refine (HD.out _ hb).mono ?_
        rintro e w2 ⟨rfl, hb2⟩
        have hs2 := hb2.size
        replace b0 := b0.below hb2 (by omega)
        replace b1 := b1.below hb2 (by omega)
        replace hb := Below.on hb hb2
        clear hb2 c0 c1 c2 c3 c4 c5 c6 cf d0 d1 d2 d3 d4 d5 d6 df
        obtain ⟨c0, c1, c2, c3, c4, c5, c6, cf⟩ := b0.cells
        obtain ⟨d0, d1, d2, d3, d4, d5, d6, df⟩ := b1.cells
        dsimp only
        go_upto_region 6 with fail
        obtain ⟨w3, hw3⟩ : ∃ w3, w3 = w2.alloc (.cells #[.string yr, .string ya, .string yp, .int .i64 yap, .int .i64 yca, .int .i64 yun, .bool yop] 23) := ⟨_, rfl⟩
        have b2 : BoxH w2.heap.size ⟨yr, ya, yp, yap, yca, yun, yop⟩ w3 := by rw [hw3]; exact BoxH.new w2 ⟨yr, ya, yp, yap, yca, yun, yop⟩
        have hgl := b1.lt
        have b3 : BoxH g noH w3 := by rw [hw3]; exact b1.alloc _
        have hb4 : Below w.heap.size w w3 := by rw [hw3]; exact hb.alloc (by omega) _
        rw [← hw3]
        obtain ⟨g2, hg2⟩ : ∃ g2, g2 = w2.heap.size := ⟨_, rfl⟩
        rw [← hg2] at b2 ⊢
        have hg3 : w.heap.size < g2 := by omega
        have hg4 : g < g2 := by omega
        clear hw3 hg2 c0 c1 c2 c3 c4 c5 c6 cf d0 d1 d2 d3 d4 d5 d6 df b0 b1
        obtain ⟨d0, d1, d2, d3, d4, d5, d6, df⟩ := b3.cells
        obtain ⟨e0, e1, e2, e3, e4, e5, e6, ef⟩ := b2.cells
        go_wp2_with fail
        refine bodyPost_ret (v := .tuple #[.agg #[.string ⟨#[]⟩, .string ⟨#[]⟩, .string ⟨#[]⟩, .int .i64 0, .int .i64 0, .int .i64 0, .bool false], .int .i64 e]) (by simp [results, Tryd.results47, go_sem, d0, d1, d2, d3, d4, d5, d6]) rfl ⟨by rw [HR.out]; try rfl, ?_⟩
        exact below_put7 (hb4) (by omega) _ _ _ _ _ _ _
      subst he
      have HR := Lib.hid (chg_4 (d := (⟨yr, ya, yp, yap, yca, yun, yop⟩, 0)) hm rfl rfl)
      clear hm
      cases yop with
      | false =>
        obtain ⟨c0, c1, c2, c3, c4, c5, c6, cf⟩ := b0.cells
        obtain ⟨d0, d1, d2, d3, d4, d5, d6, df⟩ := b1.cells
        go_enter Tryd.func47, Tryd.ntmps47
        go_upto_region 1 with fail
        rw [← HW.out, ← HG.out]
        clear HW HG
        go_wp2_with fail
        refine (HX1.out _ hb).mono ?_
        rintro e w1 ⟨rfl, hb1⟩
        have hs1 := hb1.size
        replace b0 := b0.below hb1 (by omega)
        replace b1 := b1.below hb1 (by omega)
        replace hb := Below.on hb hb1
        clear hb1 c0 c1 c2 c3 c4 c5 c6 cf d0 d1 d2 d3 d4 d5 d6 df
        obtain ⟨c0, c1, c2, c3, c4, c5, c6, cf⟩ := b0.cells
        obtain ⟨d0, d1, d2, d3, d4, d5, d6, df⟩ := b1.cells
        go_wp2_with fail
        refine (HD.out _ hb).mono ?_
        rintro e w2 ⟨rfl, hb2⟩
        have hs2 := hb2.size
        replace b0 := b0.below hb2 (by omega)
        replace b1 := b1.below hb2 (by omega)
        replace hb := Below.on hb hb2
        clear hb2 c0 c1 c2 c3 c4 c5 c6 cf d0 d1 d2 d3 d4 d5 d6 df
        obtain ⟨c0, c1, c2, c3, c4, c5, c6, cf⟩ := b0.cells
        obtain ⟨d0, d1, d2, d3, d4, d5, d6, df⟩ := b1.cells
        dsimp only
        go_upto_region 6 with fail
        obtain ⟨w3, hw3⟩ : ∃ w3, w3 = w2.alloc (.cells #[.string yr, .string ya, .string yp, .int .i64 yap, .int .i64 yca, .int .i64 yun, .bool false] 23) := ⟨_, rfl⟩
        have b2 : BoxH w2.heap.size ⟨yr, ya, yp, yap, yca, yun, false⟩ w3 := by rw [hw3]; exact BoxH.new w2 ⟨yr, ya, yp, yap, yca, yun, false⟩
        have hgl := b1.lt
        have b3 : BoxH g noH w3 := by rw [hw3]; exact b1.alloc _
        have hb4 : Below w.heap.size w w3 := by rw [hw3]; exact hb.alloc (by omega) _
        rw [← hw3]
        obtain ⟨g2, hg2⟩ : ∃ g2, g2 = w2.heap.size := ⟨_, rfl⟩
        rw [← hg2] at b2 ⊢
        have hg3 : w.heap.size < g2 := by omega
        have hg4 : g < g2 := by omega
        clear hw3 hg2 c0 c1 c2 c3 c4 c5 c6 cf d0 d1 d2 d3 d4 d5 d6 df b0 b1
        obtain ⟨d0, d1, d2, d3, d4, d5, d6, df⟩ := b3.cells
        obtain ⟨e0, e1, e2, e3, e4, e5, e6, ef⟩ := b2.cells
        go_wp2_with fail
        refine bodyPost_ret (v := .tuple #[.agg #[.string yr, .string ya, .string yp, .int .i64 yap, .int .i64 yca, .int .i64 yun, .bool false], .int .i64 0]) (by simp [results, Tryd.results47, go_sem, d0, d1, d2, d3, d4, d5, d6]) rfl ⟨by rw [HR.out]; try rfl, ?_⟩
        exact below_put7 (hb4.setCell (p := ⟨g2, 6, none⟩) (by show _ ≤ g2; omega) _) (by omega) _ _ _ _ _ _ _
      | true =>
        obtain ⟨c0, c1, c2, c3, c4, c5, c6, cf⟩ := b0.cells
        obtain ⟨d0, d1, d2, d3, d4, d5, d6, df⟩ := b1.cells
        go_enter Tryd.func47, Tryd.ntmps47
        go_upto_region 1 with fail
        rw [← HW.out, ← HG.out]
        clear HW HG
        go_wp2_with fail
        refine (HX1.out _ hb).mono ?_
        rintro e w1 ⟨rfl, hb1⟩
        have hs1 := hb1.size
        replace b0 := b0.below hb1 (by omega)
        replace b1 := b1.below hb1 (by omega)
        replace hb := Below.on hb hb1
        clear hb1 c0 c1 c2 c3 c4 c5 c6 cf d0 d1 d2 d3 d4 d5 d6 df
        obtain ⟨c0, c1, c2, c3, c4, c5, c6, cf⟩ := b0.cells
        obtain ⟨d0, d1, d2, d3, d4, d5, d6, df⟩ := b1.cells
        go_wp2_with fail
        refine (HD.out _ hb).mono ?_
        rintro e w2 ⟨rfl, hb2⟩
        have hs2 := hb2.size
        replace b0 := b0.below hb2 (by omega)
        replace b1 := b1.below hb2 (by omega)
        replace hb := Below.on hb hb2
        clear hb2 c0 c1 c2 c3 c4 c5 c6 cf d0 d1 d2 d3 d4 d5 d6 df
        obtain ⟨c0, c1, c2, c3, c4, c5, c6, cf⟩ := b0.cells
        obtain ⟨d0, d1, d2, d3, d4, d5, d6, df⟩ := b1.cells
        dsimp only
        go_upto_region 6 with fail
        obtain ⟨w3, hw3⟩ : ∃ w3, w3 = w2.alloc (.cells #[.string yr, .string ya, .string yp, .int .i64 yap, .int .i64 yca, .int .i64 yun, .bool true] 23) := ⟨_, rfl⟩
        have b2 : BoxH w2.heap.size ⟨yr, ya, yp, yap, yca, yun, true⟩ w3 := by rw [hw3]; exact BoxH.new w2 ⟨yr, ya, yp, yap, yca, yun, true⟩
        have hgl := b1.lt
        have b3 : BoxH g noH w3 := by rw [hw3]; exact b1.alloc _
        have hb4 : Below w.heap.size w w3 := by rw [hw3]; exact hb.alloc (by omega) _
        rw [← hw3]
        obtain ⟨g2, hg2⟩ : ∃ g2, g2 = w2.heap.size := ⟨_, rfl⟩
        rw [← hg2] at b2 ⊢
        have hg3 : w.heap.size < g2 := by omega
        have hg4 : g < g2 := by omega
        clear hw3 hg2 c0 c1 c2 c3 c4 c5 c6 cf d0 d1 d2 d3 d4 d5 d6 df b0 b1
        obtain ⟨d0, d1, d2, d3, d4, d5, d6, df⟩ := b3.cells
        obtain ⟨e0, e1, e2, e3, e4, e5, e6, ef⟩ := b2.cells
        go_wp2_with fail
        refine bodyPost_ret (v := .tuple #[.agg #[.string yr, .string ya, .string yp, .int .i64 yap, .int .i64 yca, .int .i64 yun, .bool (decide (yca < yap))], .int .i64 0]) (by simp [results, Tryd.results47, go_sem, d0, d1, d2, d3, d4, d5, d6]) rfl ⟨by rw [HR.out]; try rfl, ?_⟩
        exact below_put7 (hb4.setCell (p := ⟨g2, 6, none⟩) (by show _ ≤ g2; omega) _) (by omega) _ _ _ _ _ _ _
set_option maxRecDepth 100000 in
set_option maxHeartbeats 3200000 in
theorem change48_any (x : Hd) (d : Hd × Int) (w : World) (hE : Env w) (hf : FitH x)
    (hF : mayH x = true → x.op = true → ∀ W, Below w.heap.size w W → Calls Tryd.prog 48 #[hv x] W fun e w' => e = .returned (.tuple #[hv d.1, .int .i64 d.2]) ∧ Below W.heap.size W w') :
    Calls Tryd.prog 47 #[hv x, .func (.func 48) #[] #[]] w fun e w' => e = .returned (.tuple #[hv (chgH x d).1, .int .i64 (chgH x d).2]) ∧ Below w.heap.size w w' := by
  have hw0 := Below.refl w.heap.size w
  obtain ⟨W, hW⟩ : ∃ W, W = (w.alloc (.cells (hcs x) 23)).alloc (.cells #[.string ⟨#[]⟩, .string ⟨#[]⟩, .string ⟨#[]⟩, .int .i64 0, .int .i64 0, .int .i64 0, .bool false] 23) := ⟨_, rfl⟩
  have hz1 : (w.alloc (.cells (hcs x) 23)).heap.size = w.heap.size + 1 := World.size_alloc _ _
  have b1 : BoxH (w.heap.size + 1) noH W := by rw [hW, ← hz1]; exact BoxH.new _ noH
  have b0 : BoxH w.heap.size x W := by
    rw [hW]
    exact (BoxH.new w x).below ((Below.refl _ _).alloc (Nat.le_refl _) _) (by rw [hz1]; omega)
  have hb : Below w.heap.size w W := by
    rw [hW]; exact (hw0.alloc (Nat.le_refl _) _).alloc (by rw [hz1]; omega) _
  obtain ⟨g, hg⟩ : ∃ g, g = w.heap.size + 1 := ⟨_, rfl⟩
  have hz : W.heap.size = w.heap.size + 1 + 1 := by rw [hW, World.size_alloc, hz1]
  have HX1 := Lib.hid (fun (W : World) (h : Below w.heap.size w W) => may_any x W (hE.below h) hf)
  have HW := Lib.hid hW
  rw [← hg] at b1 hz
  have HG := Lib.hid hg
  have hg1 : w.heap.size < g := by omega
  clear hE hf hW hz1 hw0 hg
  have HF := Lib.hid hF
  obtain ⟨⟨yr, ya, yp, yap, yca, yun, yop⟩, e⟩ := d
  clear hF
  cases hm : mayH x with
  | false =>
    have HR := Lib.hid (chg_1 (d := (⟨yr, ya, yp, yap, yca, yun, yop⟩, e)) hm)
    rw [hm] at HX1
    clear hm
    obtain ⟨c0, c1, c2, c3, c4, c5, c6, cf⟩ := b0.cells
    obtain ⟨d0, d1, d2, d3, d4, d5, d6, df⟩ := b1.cells
    go_enter Tryd.func47, Tryd.ntmps47
    go_upto_region 1 with fail
    rw [← HW.out, ← HG.out]
    clear HW HG
    go_wp2_with fail
    refine (HX1.out _ hb).mono ?_
    rintro e w1 ⟨rfl, hb1⟩
    have hs1 := hb1.size
    replace b0 := b0.below hb1 (by omega)
    replace b1 := b1.below hb1 (by omega)
    replace hb := Below.on hb hb1
    clear hb1 c0 c1 c2 c3 c4 c5 c6 cf d0 d1 d2 d3 d4 d5 d6 df
    obtain ⟨c0, c1, c2, c3, c4, c5, c6, cf⟩ := b0.cells
    obtain ⟨d0, d1, d2, d3, d4, d5, d6, df⟩ := b1.cells
    go_wp2_with fail
    refine bodyPost_ret (v := .tuple #[.agg #[.string ⟨#[]⟩, .string ⟨#[]⟩, .string ⟨#[]⟩, .int .i64 0, .int .i64 0, .int .i64 0, .bool false], .int .i64 1]) (by simp [results, Tryd.results47, go_sem, d0, d1, d2, d3, d4, d5, d6]) rfl ⟨by rw [HR.out]; try rfl, ?_⟩
    exact below_put7 (hb) (by omega) _ _ _ _ _ _ _
  | true =>
    rw [hm] at HX1
    obtain ⟨xr, xa, xp, xap, xca, xun, xop⟩ := x
    cases xop with
    | false =>
      have HR := Lib.hid (chg_2 (d := (⟨yr, ya, yp, yap, yca, yun, yop⟩, e)) hm rfl)
      clear hm
      obtain ⟨c0, c1, c2, c3, c4, c5, c6, cf⟩ := b0.cells
      obtain ⟨d0, d1, d2, d3, d4, d5, d6, df⟩ := b1.cells
      go_enter Tryd.func47, Tryd.ntmps47
      go_upto_region 1 with fail
      rw [← HW.out, ← HG.out]
      clear HW HG
      go_wp2_with fail
      refine (HX1.out _ hb).mono ?_
      rintro e w1 ⟨rfl, hb1⟩
      have hs1 := hb1.size
      replace b0 := b0.below hb1 (by omega)
      replace b1 := b1.below hb1 (by omega)
      replace hb := Below.on hb hb1
      clear hb1 c0 c1 c2 c3 c4 c5 c6 cf d0 d1 d2 d3 d4 d5 d6 df
      obtain ⟨c0, c1, c2, c3, c4, c5, c6, cf⟩ := b0.cells
      obtain ⟨d0, d1, d2, d3, d4, d5, d6, df⟩ := b1.cells
      go_wp2_with fail
      refine bodyPost_ret (v := .tuple #[.agg #[.string ⟨#[]⟩, .string ⟨#[]⟩, .string ⟨#[]⟩, .int .i64 0, .int .i64 0, .int .i64 0, .bool false], .int .i64 14]) (by simp [results, Tryd.results47, go_sem, d0, d1, d2, d3, d4, d5, d6]) rfl ⟨by rw [HR.out]; try rfl, ?_⟩
      exact below_put7 (hb) (by omega) _ _ _ _ _ _ _
    | true =>
      have HD := Lib.hid (HF.out hm rfl)
      clear HF
      by_cases he : e = 0
      case neg =>
        have HR := Lib.hid (chg_3 (d := (⟨yr, ya, yp, yap, yca, yun, yop⟩, e)) hm rfl he)
        have he' : (e != 0) = true := by simpa using he
        clear hm he
        obtain ⟨c0, c1, c2, c3, c4, c5, c6, cf⟩ := b0.cells
        obtain ⟨d0, d1, d2, d3, d4, d5, d6, df⟩ := b1.cells
        go_enter Tryd.func47, Tryd.ntmps47
        go_upto_region 1 with fail
        rw [← HW.out, ← HG.out]
        clear HW HG
        go_wp2_with fail
        refine (HX1.out _ hb).mono ?_
        rintro e w1 ⟨rfl, hb1⟩
        have hs1 := hb1.size
        replace b0 := b0.below hb1 (by omega)
        replace b1 := b1.below hb1 (by omega)
        replace hb := Below.on hb hb1
        clear hb1 c0 c1 c2 c3 c4 c5 c6 cf d0 d1 d2 d3 d4 d5 d6 df
        obtain ⟨c0, c1, c2, c3, c4, c5, c6, cf⟩ := b0.cells
        obtain ⟨d0, d1, d2, d3, d4, d5, d6, df⟩ := b1.cells
        go_wp2_with fail
        refine (HD.out _ hb).mono ?_
        rintro e w2 ⟨rfl, hb2⟩
        have hs2 := hb2.size
        replace b0 := b0.below hb2 (by omega)
        replace b1 := b1.below hb2 (by omega)
        replace hb := Below.on hb hb2
        clear hb2 c0 c1 c2 c3 c4 c5 c6 cf d0 d1 d2 d3 d4 d5 d6 df
        obtain ⟨c0, c1, c2, c3, c4, c5, c6, cf⟩ := b0.cells
        obtain ⟨d0, d1, d2, d3, d4, d5, d6, df⟩ := b1.cells
        dsimp only
        go_upto_region 6 with fail
        obtain ⟨w3, hw3⟩ : ∃ w3, w3 = w2.alloc (.cells #[.string yr, .string ya, .string yp, .int .i64 yap, .int .i64 yca, .int .i64 yun, .bool yop] 23) := ⟨_, rfl⟩
        have b2 : BoxH w2.heap.size ⟨yr, ya, yp, yap, yca, yun, yop⟩ w3 := by rw [hw3]; exact BoxH.new w2 ⟨yr, ya, yp, yap, yca, yun, yop⟩
        have hgl := b1.lt
        have b3 : BoxH g noH w3 := by rw [hw3]; exact b1.alloc _
        have hb4 : Below w.heap.size w w3 := by rw [hw3]; exact hb.alloc (by omega) _
        rw [← hw3]
        obtain ⟨g2, hg2⟩ : ∃ g2, g2 = w2.heap.size := ⟨_, rfl⟩
        rw [← hg2] at b2 ⊢
        have hg3 : w.heap.size < g2 := by omega
        have hg4 : g < g2 := by omega
        clear hw3 hg2 c0 c1 c2 c3 c4 c5 c6 cf d0 d1 d2 d3 d4 d5 d6 df b0 b1
        obtain ⟨d0, d1, d2, d3, d4, d5, d6, df⟩ := b3.cells
        obtain ⟨e0, e1, e2, e3, e4, e5, e6, ef⟩ := b2.cells
        go_wp2_with fail
        refine bodyPost_ret (v := .tuple #[.agg #[.string ⟨#[]⟩, .string ⟨#[]⟩, .string ⟨#[]⟩, .int .i64 0, .int .i64 0, .int .i64 0, .bool false], .int .i64 e]) (by simp [results, Tryd.results47, go_sem, d0, d1, d2, d3, d4, d5, d6]) rfl ⟨by rw [HR.out]; try rfl, ?_⟩
        exact below_put7 (hb4) (by omega) _ _ _ _ _ _ _
      subst he
      have HR := Lib.hid (chg_4 (d := (⟨yr, ya, yp, yap, yca, yun, yop⟩, 0)) hm rfl rfl)
      clear hm
      cases yop with
      | false =>
        obtain ⟨c0, c1, c2, c3, c4, c5, c6, cf⟩ := b0.cells
        obtain ⟨d0, d1, d2, d3, d4, d5, d6, df⟩ := b1.cells
        go_enter Tryd.func47, Tryd.ntmps47
        go_upto_region 1 with fail
        rw [← HW.out, ← HG.out]
        clear HW HG
        go_wp2_with fail
        refine (HX1.out _ hb).mono ?_
        rintro e w1 ⟨rfl, hb1⟩
        have hs1 := hb1.size
        replace b0 := b0.below hb1 (by omega)
        replace b1 := b1.below hb1 (by omega)
        replace hb := Below.on hb hb1
        clear hb1 c0 c1 c2 c3 c4 c5 c6 cf d0 d1 d2 d3 d4 d5 d6 df
        obtain ⟨c0, c1, c2, c3, c4, c5, c6, cf⟩ := b0.cells
        obtain ⟨d0, d1, d2, d3, d4, d5, d6, df⟩ := b1.cells
        go_wp2_with fail
        refine (HD.out _ hb).mono ?_
        rintro e w2 ⟨rfl, hb2⟩
        have hs2 := hb2.size
        replace b0 := b0.below hb2 (by omega)
        replace b1 := b1.below hb2 (by omega)
        replace hb := Below.on hb hb2
        clear hb2 c0 c1 c2 c3 c4 c5 c6 cf d0 d1 d2 d3 d4 d5 d6 df
        obtain ⟨c0, c1, c2, c3, c4, c5, c6, cf⟩ := b0.cells
        obtain ⟨d0, d1, d2, d3, d4, d5, d6, df⟩ := b1.cells
        dsimp only
        go_upto_region 6 with fail
        obtain ⟨w3, hw3⟩ : ∃ w3, w3 = w2.alloc (.cells #[.string yr, .string ya, .string yp, .int .i64 yap, .int .i64 yca, .int .i64 yun, .bool false] 23) := ⟨_, rfl⟩
        have b2 : BoxH w2.heap.size ⟨yr, ya, yp, yap, yca, yun, false⟩ w3 := by rw [hw3]; exact BoxH.new w2 ⟨yr, ya, yp, yap, yca, yun, false⟩
        have hgl := b1.lt
        have b3 : BoxH g noH w3 := by rw [hw3]; exact b1.alloc _
        have hb4 : Below w.heap.size w w3 := by rw [hw3]; exact hb.alloc (by omega) _
        rw [← hw3]
        obtain ⟨g2, hg2⟩ : ∃ g2, g2 = w2.heap.size := ⟨_, rfl⟩
        rw [← hg2] at b2 ⊢
        have hg3 : w.heap.size < g2 := by omega
        have hg4 : g < g2 := by omega
        clear hw3 hg2 c0 c1 c2 c3 c4 c5 c6 cf d0 d1 d2 d3 d4 d5 d6 df b0 b1
        obtain ⟨d0, d1, d2, d3, d4, d5, d6, df⟩ := b3.cells
        obtain ⟨e0, e1, e2, e3, e4, e5, e6, ef⟩ := b2.cells
        go_wp2_with fail
        refine bodyPost_ret (v := .tuple #[.agg #[.string yr, .string ya, .string yp, .int .i64 yap, .int .i64 yca, .int .i64 yun, .bool false], .int .i64 0]) (by simp [results, Tryd.results47, go_sem, d0, d1, d2, d3, d4, d5, d6]) rfl ⟨by rw [HR.out]; try rfl, ?_⟩
        exact below_put7 (hb4.setCell (p := ⟨g2, 6, none⟩) (by show _ ≤ g2; omega) _) (by omega) _ _ _ _ _ _ _
      | true =>
        obtain ⟨c0, c1, c2, c3, c4, c5, c6, cf⟩ := b0.cells
        obtain ⟨d0, d1, d2, d3, d4, d5, d6, df⟩ := b1.cells
        go_enter Tryd.func47, Tryd.ntmps47
        go_upto_region 1 with fail
        rw [← HW.out, ← HG.out]
        clear HW HG
        go_wp2_with fail
        refine (HX1.out _ hb).mono ?_
        rintro e w1 ⟨rfl, hb1⟩
        have hs1 := hb1.size
        replace b0 := b0.below hb1 (by omega)
        replace b1 := b1.below hb1 (by omega)
        replace hb := Below.on hb hb1
        clear hb1 c0 c1 c2 c3 c4 c5 c6 cf d0 d1 d2 d3 d4 d5 d6 df
        obtain ⟨c0, c1, c2, c3, c4, c5, c6, cf⟩ := b0.cells
        obtain ⟨d0, d1, d2, d3, d4, d5, d6, df⟩ := b1.cells
        go_wp2_with fail
        refine (HD.out _ hb).mono ?_
        rintro e w2 ⟨rfl, hb2⟩
        have hs2 := hb2.size
        replace b0 := b0.below hb2 (by omega)
        replace b1 := b1.below hb2 (by omega)
        replace hb := Below.on hb hb2
        clear hb2 c0 c1 c2 c3 c4 c5 c6 cf d0 d1 d2 d3 d4 d5 d6 df
        obtain ⟨c0, c1, c2, c3, c4, c5, c6, cf⟩ := b0.cells
        obtain ⟨d0, d1, d2, d3, d4, d5, d6, df⟩ := b1.cells
        dsimp only
        go_upto_region 6 with fail
        obtain ⟨w3, hw3⟩ : ∃ w3, w3 = w2.alloc (.cells #[.string yr, .string ya, .string yp, .int .i64 yap, .int .i64 yca, .int .i64 yun, .bool true] 23) := ⟨_, rfl⟩
        have b2 : BoxH w2.heap.size ⟨yr, ya, yp, yap, yca, yun, true⟩ w3 := by rw [hw3]; exact BoxH.new w2 ⟨yr, ya, yp, yap, yca, yun, true⟩
        have hgl := b1.lt
        have b3 : BoxH g noH w3 := by rw [hw3]; exact b1.alloc _
        have hb4 : Below w.heap.size w w3 := by rw [hw3]; exact hb.alloc (by omega) _
        rw [← hw3]
        obtain ⟨g2, hg2⟩ : ∃ g2, g2 = w2.heap.size := ⟨_, rfl⟩
        rw [← hg2] at b2 ⊢
        have hg3 : w.heap.size < g2 := by omega
        have hg4 : g < g2 := by omega
        clear hw3 hg2 c0 c1 c2 c3 c4 c5 c6 cf d0 d1 d2 d3 d4 d5 d6 df b0 b1
        obtain ⟨d0, d1, d2, d3, d4, d5, d6, df⟩ := b3.cells
        obtain ⟨e0, e1, e2, e3, e4, e5, e6, ef⟩ := b2.cells
        go_wp2_with fail
        refine bodyPost_ret (v := .tuple #[.agg #[.string yr, .string ya, .string yp, .int .i64 yap, .int .i64 yca, .int .i64 yun, .bool (decide (yca < yap))], .int .i64 0]) (by simp [results, Tryd.results47, go_sem, d0, d1, d2, d3, d4, d5, d6]) rfl ⟨by rw [HR.out]; try rfl, ?_⟩
        exact below_put7 (hb4.setCell (p := ⟨g2, 6, none⟩) (by show _ ≤ g2; omega) _) (by omega) _ _ _ _ _ _ _
end Go.Proofs.YtkhkncgndllkjaaDoor.Hol
