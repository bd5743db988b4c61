/- The walk of HoldTexts. Conditions: the listed variables of the program hold what their initialisers lay. -/
import Derived.Test.YtkhkncgndllkjaaDoorG7
import Derived.Test.YtkhkncgndllkjaaDoorK10
namespace Go.Proofs.YtkhkncgndllkjaaDoor.Hol
open Go.RowKit Cht
open Go.Proofs.YtkhkncgndllkjaaDoor.Any
open Mny (Fits EnvP)
open Mny.Txt (txt rd)

theorem IsH.short {s : ByteArray} {x : Hd} (h : IsH s x) : s.size ≤ 200 := by
  have e := congrArg List.length h.list
  have z := h.sizes.2.2.2.2
  have h1 := txt_len (show Fits x.ap from h.f.ap)
  have h2 := txt_len (show Fits x.ca from h.f.ca)
  rw [len_size] at e
  simp only [List.length_append, List.length_cons] at e
  omega
theorem PR.good {s : ByteArray} {x r : Hd} {b : Bool} (h : IsH s x) (k : PR s r b) : x = r ∧ b = true := by
  rcases k with ⟨rfl, k⟩ | ⟨rfl, rfl, k⟩
  · exact ⟨h.one k, rfl⟩
  · exact absurd h (k x)
/-- The number told beside a hold. -/
def eC (b : Bool) : Int := if b then 0 else 4
theorem eC_t : eC true = 0 := rfl
theorem eC_f : eC false = 4 := rfl
theorem parse8e (s : ByteArray) (w : World) (hE : Env w) (hP : EnvP w) (hs : s.size ≤ 200) :
    Calls Tryd.prog 8 #[.string s] w fun e w' => (∃ (r : Hd) (b : Bool), PR s r b ∧ e = .returned (.tuple #[hv r, .int .i64 (eC b)])) ∧ Below w.heap.size w w' := parse8_any s w hE hP hs

set_option maxRecDepth 100000 in
set_option maxHeartbeats 3200000 in
theorem texts_long (x : Hd) (s : ByteArray) (w : World) (hE : Env w) (hP : EnvP w) (h1 : x.r.size ≤ 9223372036854775807) (h2 : x.a.size ≤ 9223372036854775807) (h3 : x.p.size ≤ 9223372036854775807) (hs : s.size ≤ 9223372036854775807) (hf : FitH (fewH x)) (h120 : 120 < s.size) :
    Calls Tryd.prog 3 #[hv x, .string s] w fun e w' => e = .returned (.bool true) ∧ Below w.heap.size w w' := by
  have hw0 := Below.refl w.heap.size w
  obtain ⟨W, hW⟩ : ∃ W, W = (w.alloc (.cells (hcs x) 23)) := ⟨_, rfl⟩
  have hz0 : w.heap.size = w.heap.size := rfl
  have hz1 : (w.alloc (.cells (hcs x) 23)).heap.size = w.heap.size + 1 := by rw [World.size_alloc]
  have q0 : BoxH w.heap.size x W := by rw [hW]; exact (BoxH.new w x)
  have hb : Below w.heap.size w W := by rw [hW]; exact (hw0.alloc (Nat.le_refl _) _)
  have hz : W.heap.size = w.heap.size + 1 := by rw [hW]; exact hz1
  have HW := Lib.hid hW
  clear hW hw0 hz0 hz1 
  have hE' := Lib.hid (fun (V : World) (h : Below w.heap.size w V) => hE.below h)
  have hP' := Lib.hid (fun (V : World) (h : Below w.heap.size w V) => hP.below h)
  have HF := Lib.hid (fun V => few_any x V h1 h2 h3)
  obtain ⟨y, hy⟩ : ∃ y, y = fewH x := ⟨_, rfl⟩
  rw [← hy] at HF hf
  clear h1 h2 h3 hE hP hy
  have HA := Lib.hid (fun (V : World) (h : Below w.heap.size w V) => awake_any V (hE'.out V h))
  have T12 := Lib.hid (fun (V : World) (h : Below w.heap.size w V) => text12_any y V (hE'.out V h) (hP'.out V h).t hf)
  have RM := Lib.hid (fun V => rmay_any y V hf)
  have hs0 : (s.size : Int) ≤ 9223372036854775807 := by omega
  have h120' : (120 : Int) < s.size := by omega
  have h120'' : (120 : Int) ≤ s.size := by omega
  obtain ⟨t, ht⟩ : ∃ t, t = s.extract 0 120 := ⟨_, rfl⟩
  have hts : t.size ≤ 200 := by rw [ht, ByteArray.size_extract]; omega
  have HTS := Lib.hid ht
  clear ht
  have P8 := Lib.hid (fun (V : World) (h : Below w.heap.size w V) => parse8e t V (hE'.out V h) (hP'.out V h) hts)
  have P9 := Lib.hid (fun V => parse9_any t V hts)
  have R10 := Lib.hid (ref_any t)
  have R11 := Lib.hid (rref_any t)
  obtain ⟨c0, c1, c2, c3, c4, c5, c6, cf⟩ := q0.cells
  go_enter Tryd.func3, Tryd.ntmps3
  go_upto_region 1 with fail
  rw [← HW.out, ]
  clear HW 
  go_wp2_with fail
  refine (HF.out _ ).mono ?_
  rintro e w1 ⟨rfl, hb1⟩
  clear c0 c1 c2 c3 c4 c5 c6 cf
  replace q0 := q0.below hb1 q0.lt
  replace hb := Below.on hb hb1
  clear hb1
  obtain ⟨c0, c1, c2, c3, c4, c5, c6, cf⟩ := q0.cells
  go_upto_region 2 with fail
  obtain ⟨v1, hv1⟩ : ∃ V, V = (((((((w1.setCell ⟨w.heap.size, 0, none⟩ (.string y.r)).setCell ⟨w.heap.size, 1, none⟩ (.string y.a)).setCell ⟨w.heap.size, 2, none⟩ (.string y.p)).setCell ⟨w.heap.size, 3, none⟩ (.int .i64 y.ap)).setCell ⟨w.heap.size, 4, none⟩ (.int .i64 y.ca)).setCell ⟨w.heap.size, 5, none⟩ (.int .i64 y.un)).setCell ⟨w.heap.size, 6, none⟩ (.bool y.op)) := ⟨_, rfl⟩
  clear c0 c1 c2 c3 c4 c5 c6 cf
  replace q0 : BoxH w.heap.size y v1 := by rw [hv1]; exact box_put q0 y
  replace hb : Below w.heap.size w v1 := by rw [hv1]; exact below_put7 hb (by omega) _ _ _ _ _ _ _
  rw [← hv1]
  clear hv1
  obtain ⟨c0, c1, c2, c3, c4, c5, c6, cf⟩ := q0.cells
  go_wp2_with fail
  rw [← HTS.out]
  refine (P8.out _ hb).mono ?_
  rintro e w2 ⟨⟨r1, b1, hpr, rfl⟩, hb2⟩
  clear c0 c1 c2 c3 c4 c5 c6 cf
  replace q0 := q0.below hb2 q0.lt
  replace hb := Below.on hb hb2
  clear hb2
  obtain ⟨c0, c1, c2, c3, c4, c5, c6, cf⟩ := q0.cells
  go_upto_region 5 with fail
  have lq0q1 := q0.lt
  obtain ⟨v2, hv2⟩ : ∃ V, V = w2.alloc (.cells #[.string r1.r, .string r1.a, .string r1.p, .int .i64 r1.ap, .int .i64 r1.ca, .int .i64 r1.un, .bool r1.op] 23) := ⟨_, rfl⟩
  have q1 : BoxH w2.heap.size r1 v2 := by rw [hv2]; exact BoxH.new _ _
  clear c0 c1 c2 c3 c4 c5 c6 cf
  replace q0 : BoxH w.heap.size y v2 := by rw [hv2]; exact q0.alloc _
  have hs2 := hb.size
  replace hb : Below w.heap.size w v2 := by rw [hv2]; exact hb.alloc hs2 _
  rw [← hv2]
  obtain ⟨q1g, hq1g⟩ : ∃ g, g = w2.heap.size := ⟨_, rfl⟩
  rw [← hq1g] at q1 hs2 lq0q1 ⊢
  clear hv2 hq1g
  obtain ⟨c0, c1, c2, c3, c4, c5, c6, cf⟩ := q0.cells
  obtain ⟨d0, d1, d2, d3, d4, d5, d6, df⟩ := q1.cells
  go_wp2_with fail
  try rw [← HTS.out]
  refine (P9.out _).mono ?_
  rintro e w3 ⟨⟨r2, b2, hpr2, rfl⟩, hb3⟩
  clear c0 c1 c2 c3 c4 c5 c6 cf d0 d1 d2 d3 d4 d5 d6 df
  replace q0 := q0.below hb3 q0.lt
  replace q1 := q1.below hb3 q1.lt
  replace hb := Below.on hb hb3
  clear hb3
  obtain ⟨c0, c1, c2, c3, c4, c5, c6, cf⟩ := q0.cells
  obtain ⟨d0, d1, d2, d3, d4, d5, d6, df⟩ := q1.cells
  obtain ⟨rfl, rfl⟩ := hpr.eq hpr2
  clear hpr hpr2
  go_upto_region 6 with fail
  have lq0q2 := q0.lt
  have lq1q2 := q1.lt
  obtain ⟨v3, hv3⟩ : ∃ V, V = w3.alloc (.cells #[.string r1.r, .string r1.a, .string r1.p, .int .i64 r1.ap, .int .i64 r1.ca, .int .i64 r1.un, .bool r1.op] 23) := ⟨_, rfl⟩
  have q2 : BoxH w3.heap.size r1 v3 := by rw [hv3]; exact BoxH.new _ _
  clear c0 c1 c2 c3 c4 c5 c6 cf d0 d1 d2 d3 d4 d5 d6 df
  replace q0 : BoxH w.heap.size y v3 := by rw [hv3]; exact q0.alloc _
  replace q1 : BoxH q1g r1 v3 := by rw [hv3]; exact q1.alloc _
  have hs3 := hb.size
  replace hb : Below w.heap.size w v3 := by rw [hv3]; exact hb.alloc hs3 _
  rw [← hv3]
  obtain ⟨q2g, hq2g⟩ : ∃ g, g = w3.heap.size := ⟨_, rfl⟩
  rw [← hq2g] at q2 hs3 lq0q2 lq1q2 ⊢
  clear hv3 hq2g
  obtain ⟨c0, c1, c2, c3, c4, c5, c6, cf⟩ := q0.cells
  obtain ⟨d0, d1, d2, d3, d4, d5, d6, df⟩ := q1.cells
  obtain ⟨e0, e1, e2, e3, e4, e5, e6, ef⟩ := q2.cells
  obtain ⟨rb, hrb⟩ : ∃ b, b = refB t := ⟨_, rfl⟩
  rw [← hrb] at R10 R11
  clear hrb
  go_cut [53] from 30 to 53 (fun s53 wx => s53 = .bool false ∧ v3 = wx)
  case first =>
    cases b1 <;> cases rb
    all_goals
      first | rw [eC_t] | rw [eC_f]
      go_wp2_with fail
      try rw [← HTS.out]
      refine (R10.out _).mono ?_
      rintro e w' ⟨rfl, rfl⟩
      go_wp2_with fail
      try rw [← HTS.out]
      refine (R11.out _).mono ?_
      rintro e w' ⟨rfl, rfl⟩
      go_wp2_with fail
      go_meet
      exact ⟨rfl, rfl⟩
  obtain ⟨rfl, rfl⟩ := hcut
  clear c0 c1 c2 c3 c4 c5 c6 cf d0 d1 d2 d3 d4 d5 d6 df e0 e1 e2 e3 e4 e5 e6 ef
  clear q1 q2 P8 P9 R10 R11
  obtain ⟨c0, c1, c2, c3, c4, c5, c6, cf⟩ := q0.cells
  go_wp2_with fail
  refine (T12.out _ hb).mono ?_
  rintro e w4 ⟨rfl, hb4⟩
  clear c0 c1 c2 c3 c4 c5 c6 cf
  replace q0 := q0.below hb4 q0.lt
  replace hb := Below.on hb hb4
  clear hb4
  obtain ⟨c0, c1, c2, c3, c4, c5, c6, cf⟩ := q0.cells
  cases hm : mayH y with
  | false =>
    rw [hm] at RM
    rw [show textR y = ⟨#[]⟩ from if_neg (by rw [hm]; decide), show textE y = 1 from if_neg (by rw [hm]; decide)]
    clear hm
    go_wp2_with fail
    refine (RM.out _ ).mono ?_
    rintro e w5 ⟨rfl, hb5⟩
    clear c0 c1 c2 c3 c4 c5 c6 cf
    replace q0 := q0.below hb5 q0.lt
    replace hb := Below.on hb hb5
    clear hb5
    obtain ⟨c0, c1, c2, c3, c4, c5, c6, cf⟩ := q0.cells
    go_wp2_with fail
    refine (HA.out _ hb).mono ?_
    rintro e w6 ⟨rfl, hb6⟩
    clear c0 c1 c2 c3 c4 c5 c6 cf
    replace q0 := q0.below hb6 q0.lt
    replace hb := Below.on hb hb6
    clear hb6
    obtain ⟨c0, c1, c2, c3, c4, c5, c6, cf⟩ := q0.cells
    go_wp2_with fail
    go_ret
    exact ⟨rfl, hb⟩
  | true =>
    have hi : IsH (textH y) y := ⟨hm, hf, rfl⟩
    have P8 := Lib.hid (fun (V : World) (h : Below w.heap.size w V) => parse8e (textH y) V (hE'.out V h) (hP'.out V h) hi.short)
    have R15 := Lib.hid (fun V => rtext15_any y V hf hm)
    rw [hm] at RM
    rw [show textR y = textH y from if_pos hm, show textE y = 0 from if_pos hm]
    clear hm
    go_wp2_with fail
    refine (RM.out _ ).mono ?_
    rintro e w5 ⟨rfl, hb5⟩
    clear c0 c1 c2 c3 c4 c5 c6 cf
    replace q0 := q0.below hb5 q0.lt
    replace hb := Below.on hb hb5
    clear hb5
    obtain ⟨c0, c1, c2, c3, c4, c5, c6, cf⟩ := q0.cells
    go_wp2_with fail
    refine (P8.out _ hb).mono ?_
    rintro e w8 ⟨⟨r3, b3, hpr, rfl⟩, hb8⟩
    clear c0 c1 c2 c3 c4 c5 c6 cf
    replace q0 := q0.below hb8 q0.lt
    replace hb := Below.on hb hb8
    clear hb8
    obtain ⟨c0, c1, c2, c3, c4, c5, c6, cf⟩ := q0.cells
    obtain ⟨rfl, rfl⟩ := hpr.good hi
    clear hpr
    rw [eC_t]
    go_upto_region 12 with fail
    have lq0q3 := q0.lt
    obtain ⟨v8, hv8⟩ : ∃ V, V = w8.alloc (.cells #[.string y.r, .string y.a, .string y.p, .int .i64 y.ap, .int .i64 y.ca, .int .i64 y.un, .bool y.op] 23) := ⟨_, rfl⟩
    have q3 : BoxH w8.heap.size y v8 := by rw [hv8]; exact BoxH.new _ _
    clear c0 c1 c2 c3 c4 c5 c6 cf
    replace q0 : BoxH w.heap.size y v8 := by rw [hv8]; exact q0.alloc _
    have hs8 := hb.size
    replace hb : Below w.heap.size w v8 := by rw [hv8]; exact hb.alloc hs8 _
    rw [← hv8]
    obtain ⟨q3g, hq3g⟩ : ∃ g, g = w8.heap.size := ⟨_, rfl⟩
    rw [← hq3g] at q3 hs8 lq0q3 ⊢
    clear hv8 hq3g
    obtain ⟨c0, c1, c2, c3, c4, c5, c6, cf⟩ := q0.cells
    obtain ⟨d0, d1, d2, d3, d4, d5, d6, df⟩ := q3.cells
    go_wp2_with fail
    refine (R15.out _ ).mono ?_
    rintro e w9 ⟨rfl, hb9⟩
    clear c0 c1 c2 c3 c4 c5 c6 cf d0 d1 d2 d3 d4 d5 d6 df
    replace q0 := q0.below hb9 q0.lt
    replace q3 := q3.below hb9 q3.lt
    replace hb := Below.on hb hb9
    clear hb9
    obtain ⟨c0, c1, c2, c3, c4, c5, c6, cf⟩ := q0.cells
    obtain ⟨d0, d1, d2, d3, d4, d5, d6, df⟩ := q3.cells
    go_wp2_with fail
    refine (HA.out _ hb).mono ?_
    rintro e w10 ⟨rfl, hb10⟩
    clear c0 c1 c2 c3 c4 c5 c6 cf d0 d1 d2 d3 d4 d5 d6 df
    replace q0 := q0.below hb10 q0.lt
    replace q3 := q3.below hb10 q3.lt
    replace hb := Below.on hb hb10
    clear hb10
    obtain ⟨c0, c1, c2, c3, c4, c5, c6, cf⟩ := q0.cells
    obtain ⟨d0, d1, d2, d3, d4, d5, d6, df⟩ := q3.cells
    go_wp2_with fail
    go_ret
    exact ⟨rfl, hb⟩
set_option maxRecDepth 100000 in
set_option maxHeartbeats 3200000 in
theorem texts_short (x : Hd) (s : ByteArray) (w : World) (hE : Env w) (hP : EnvP w) (h1 : x.r.size ≤ 9223372036854775807) (h2 : x.a.size ≤ 9223372036854775807) (h3 : x.p.size ≤ 9223372036854775807) (hs : s.size ≤ 9223372036854775807) (hf : FitH (fewH x)) (h120 : ¬ 120 < s.size) :
    Calls Tryd.prog 3 #[hv x, .string s] w fun e w' => e = .returned (.bool true) ∧ Below w.heap.size w w' := by
  have hw0 := Below.refl w.heap.size w
  obtain ⟨W, hW⟩ : ∃ W, W = (w.alloc (.cells (hcs x) 23)) := ⟨_, rfl⟩
  have hz0 : w.heap.size = w.heap.size := rfl
  have hz1 : (w.alloc (.cells (hcs x) 23)).heap.size = w.heap.size + 1 := by rw [World.size_alloc]
  have q0 : BoxH w.heap.size x W := by rw [hW]; exact (BoxH.new w x)
  have hb : Below w.heap.size w W := by rw [hW]; exact (hw0.alloc (Nat.le_refl _) _)
  have hz : W.heap.size = w.heap.size + 1 := by rw [hW]; exact hz1
  have HW := Lib.hid hW
  clear hW hw0 hz0 hz1 
  have hE' := Lib.hid (fun (V : World) (h : Below w.heap.size w V) => hE.below h)
  have hP' := Lib.hid (fun (V : World) (h : Below w.heap.size w V) => hP.below h)
  have HF := Lib.hid (fun V => few_any x V h1 h2 h3)
  obtain ⟨y, hy⟩ : ∃ y, y = fewH x := ⟨_, rfl⟩
  rw [← hy] at HF hf
  clear h1 h2 h3 hE hP hy
  have HA := Lib.hid (fun (V : World) (h : Below w.heap.size w V) => awake_any V (hE'.out V h))
  have T12 := Lib.hid (fun (V : World) (h : Below w.heap.size w V) => text12_any y V (hE'.out V h) (hP'.out V h).t hf)
  have RM := Lib.hid (fun V => rmay_any y V hf)
  have hs0 : (s.size : Int) ≤ 9223372036854775807 := by omega
  have h120' : ¬ (120 : Int) < s.size := by omega
  obtain ⟨t, ht⟩ : ∃ t, t = s := ⟨_, rfl⟩
  have hts : t.size ≤ 200 := by rw [ht]; omega
  have HTS := Lib.hid ht
  clear ht
  have P8 := Lib.hid (fun (V : World) (h : Below w.heap.size w V) => parse8e t V (hE'.out V h) (hP'.out V h) hts)
  have P9 := Lib.hid (fun V => parse9_any t V hts)
  have R10 := Lib.hid (ref_any t)
  have R11 := Lib.hid (rref_any t)
  obtain ⟨c0, c1, c2, c3, c4, c5, c6, cf⟩ := q0.cells
  go_enter Tryd.func3, Tryd.ntmps3
  go_upto_region 1 with fail
  rw [← HW.out, ]
  clear HW 
  go_wp2_with fail
  refine (HF.out _ ).mono ?_
  rintro e w1 ⟨rfl, hb1⟩
  clear c0 c1 c2 c3 c4 c5 c6 cf
  replace q0 := q0.below hb1 q0.lt
  replace hb := Below.on hb hb1
  clear hb1
  obtain ⟨c0, c1, c2, c3, c4, c5, c6, cf⟩ := q0.cells
  go_upto_region 2 with fail
  obtain ⟨v1, hv1⟩ : ∃ V, V = (((((((w1.setCell ⟨w.heap.size, 0, none⟩ (.string y.r)).setCell ⟨w.heap.size, 1, none⟩ (.string y.a)).setCell ⟨w.heap.size, 2, none⟩ (.string y.p)).setCell ⟨w.heap.size, 3, none⟩ (.int .i64 y.ap)).setCell ⟨w.heap.size, 4, none⟩ (.int .i64 y.ca)).setCell ⟨w.heap.size, 5, none⟩ (.int .i64 y.un)).setCell ⟨w.heap.size, 6, none⟩ (.bool y.op)) := ⟨_, rfl⟩
  clear c0 c1 c2 c3 c4 c5 c6 cf
  replace q0 : BoxH w.heap.size y v1 := by rw [hv1]; exact box_put q0 y
  replace hb : Below w.heap.size w v1 := by rw [hv1]; exact below_put7 hb (by omega) _ _ _ _ _ _ _
  rw [← hv1]
  clear hv1
  obtain ⟨c0, c1, c2, c3, c4, c5, c6, cf⟩ := q0.cells
  go_wp2_with fail
  rw [← HTS.out]
  refine (P8.out _ hb).mono ?_
  rintro e w2 ⟨⟨r1, b1, hpr, rfl⟩, hb2⟩
  clear c0 c1 c2 c3 c4 c5 c6 cf
  replace q0 := q0.below hb2 q0.lt
  replace hb := Below.on hb hb2
  clear hb2
  obtain ⟨c0, c1, c2, c3, c4, c5, c6, cf⟩ := q0.cells
  go_upto_region 5 with fail
  have lq0q1 := q0.lt
  obtain ⟨v2, hv2⟩ : ∃ V, V = w2.alloc (.cells #[.string r1.r, .string r1.a, .string r1.p, .int .i64 r1.ap, .int .i64 r1.ca, .int .i64 r1.un, .bool r1.op] 23) := ⟨_, rfl⟩
  have q1 : BoxH w2.heap.size r1 v2 := by rw [hv2]; exact BoxH.new _ _
  clear c0 c1 c2 c3 c4 c5 c6 cf
  replace q0 : BoxH w.heap.size y v2 := by rw [hv2]; exact q0.alloc _
  have hs2 := hb.size
  replace hb : Below w.heap.size w v2 := by rw [hv2]; exact hb.alloc hs2 _
  rw [← hv2]
  obtain ⟨q1g, hq1g⟩ : ∃ g, g = w2.heap.size := ⟨_, rfl⟩
  rw [← hq1g] at q1 hs2 lq0q1 ⊢
  clear hv2 hq1g
  obtain ⟨c0, c1, c2, c3, c4, c5, c6, cf⟩ := q0.cells
  obtain ⟨d0, d1, d2, d3, d4, d5, d6, df⟩ := q1.cells
  go_wp2_with fail
  try rw [← HTS.out]
  refine (P9.out _).mono ?_
  rintro e w3 ⟨⟨r2, b2, hpr2, rfl⟩, hb3⟩
  clear c0 c1 c2 c3 c4 c5 c6 cf d0 d1 d2 d3 d4 d5 d6 df
  replace q0 := q0.below hb3 q0.lt
  replace q1 := q1.below hb3 q1.lt
  replace hb := Below.on hb hb3
  clear hb3
  obtain ⟨c0, c1, c2, c3, c4, c5, c6, cf⟩ := q0.cells
  obtain ⟨d0, d1, d2, d3, d4, d5, d6, df⟩ := q1.cells
  obtain ⟨rfl, rfl⟩ := hpr.eq hpr2
  clear hpr hpr2
  go_upto_region 6 with fail
  have lq0q2 := q0.lt
  have lq1q2 := q1.lt
  obtain ⟨v3, hv3⟩ : ∃ V, V = w3.alloc (.cells #[.string r1.r, .string r1.a, .string r1.p, .int .i64 r1.ap, .int .i64 r1.ca, .int .i64 r1.un, .bool r1.op] 23) := ⟨_, rfl⟩
  have q2 : BoxH w3.heap.size r1 v3 := by rw [hv3]; exact BoxH.new _ _
  clear c0 c1 c2 c3 c4 c5 c6 cf d0 d1 d2 d3 d4 d5 d6 df
  replace q0 : BoxH w.heap.size y v3 := by rw [hv3]; exact q0.alloc _
  replace q1 : BoxH q1g r1 v3 := by rw [hv3]; exact q1.alloc _
  have hs3 := hb.size
  replace hb : Below w.heap.size w v3 := by rw [hv3]; exact hb.alloc hs3 _
  rw [← hv3]
  obtain ⟨q2g, hq2g⟩ : ∃ g, g = w3.heap.size := ⟨_, rfl⟩
  rw [← hq2g] at q2 hs3 lq0q2 lq1q2 ⊢
  clear hv3 hq2g
  obtain ⟨c0, c1, c2, c3, c4, c5, c6, cf⟩ := q0.cells
  obtain ⟨d0, d1, d2, d3, d4, d5, d6, df⟩ := q1.cells
  obtain ⟨e0, e1, e2, e3, e4, e5, e6, ef⟩ := q2.cells
  obtain ⟨rb, hrb⟩ : ∃ b, b = refB t := ⟨_, rfl⟩
  rw [← hrb] at R10 R11
  clear hrb
  go_cut [53] from 30 to 53 (fun s53 wx => s53 = .bool false ∧ v3 = wx)
  case first =>
    cases b1 <;> cases rb
    all_goals
      first | rw [eC_t] | rw [eC_f]
      go_wp2_with fail
      try rw [← HTS.out]
      refine (R10.out _).mono ?_
      rintro e w' ⟨rfl, rfl⟩
      go_wp2_with fail
      try rw [← HTS.out]
      refine (R11.out _).mono ?_
      rintro e w' ⟨rfl, rfl⟩
      go_wp2_with fail
      go_meet
      exact ⟨rfl, rfl⟩
  obtain ⟨rfl, rfl⟩ := hcut
  clear c0 c1 c2 c3 c4 c5 c6 cf d0 d1 d2 d3 d4 d5 d6 df e0 e1 e2 e3 e4 e5 e6 ef
  clear q1 q2 P8 P9 R10 R11
  obtain ⟨c0, c1, c2, c3, c4, c5, c6, cf⟩ := q0.cells
  go_wp2_with fail
  refine (T12.out _ hb).mono ?_
  rintro e w4 ⟨rfl, hb4⟩
  clear c0 c1 c2 c3 c4 c5 c6 cf
  replace q0 := q0.below hb4 q0.lt
  replace hb := Below.on hb hb4
  clear hb4
  obtain ⟨c0, c1, c2, c3, c4, c5, c6, cf⟩ := q0.cells
  cases hm : mayH y with
  | false =>
    rw [hm] at RM
    rw [show textR y = ⟨#[]⟩ from if_neg (by rw [hm]; decide), show textE y = 1 from if_neg (by rw [hm]; decide)]
    clear hm
    go_wp2_with fail
    refine (RM.out _ ).mono ?_
    rintro e w5 ⟨rfl, hb5⟩
    clear c0 c1 c2 c3 c4 c5 c6 cf
    replace q0 := q0.below hb5 q0.lt
    replace hb := Below.on hb hb5
    clear hb5
    obtain ⟨c0, c1, c2, c3, c4, c5, c6, cf⟩ := q0.cells
    go_wp2_with fail
    refine (HA.out _ hb).mono ?_
    rintro e w6 ⟨rfl, hb6⟩
    clear c0 c1 c2 c3 c4 c5 c6 cf
    replace q0 := q0.below hb6 q0.lt
    replace hb := Below.on hb hb6
    clear hb6
    obtain ⟨c0, c1, c2, c3, c4, c5, c6, cf⟩ := q0.cells
    go_wp2_with fail
    go_ret
    exact ⟨rfl, hb⟩
  | true =>
    have hi : IsH (textH y) y := ⟨hm, hf, rfl⟩
    have P8 := Lib.hid (fun (V : World) (h : Below w.heap.size w V) => parse8e (textH y) V (hE'.out V h) (hP'.out V h) hi.short)
    have R15 := Lib.hid (fun V => rtext15_any y V hf hm)
    rw [hm] at RM
    rw [show textR y = textH y from if_pos hm, show textE y = 0 from if_pos hm]
    clear hm
    go_wp2_with fail
    refine (RM.out _ ).mono ?_
    rintro e w5 ⟨rfl, hb5⟩
    clear c0 c1 c2 c3 c4 c5 c6 cf
    replace q0 := q0.below hb5 q0.lt
    replace hb := Below.on hb hb5
    clear hb5
    obtain ⟨c0, c1, c2, c3, c4, c5, c6, cf⟩ := q0.cells
    go_wp2_with fail
    refine (P8.out _ hb).mono ?_
    rintro e w8 ⟨⟨r3, b3, hpr, rfl⟩, hb8⟩
    clear c0 c1 c2 c3 c4 c5 c6 cf
    replace q0 := q0.below hb8 q0.lt
    replace hb := Below.on hb hb8
    clear hb8
    obtain ⟨c0, c1, c2, c3, c4, c5, c6, cf⟩ := q0.cells
    obtain ⟨rfl, rfl⟩ := hpr.good hi
    clear hpr
    rw [eC_t]
    go_upto_region 12 with fail
    have lq0q3 := q0.lt
    obtain ⟨v8, hv8⟩ : ∃ V, V = w8.alloc (.cells #[.string y.r, .string y.a, .string y.p, .int .i64 y.ap, .int .i64 y.ca, .int .i64 y.un, .bool y.op] 23) := ⟨_, rfl⟩
    have q3 : BoxH w8.heap.size y v8 := by rw [hv8]; exact BoxH.new _ _
    clear c0 c1 c2 c3 c4 c5 c6 cf
    replace q0 : BoxH w.heap.size y v8 := by rw [hv8]; exact q0.alloc _
    have hs8 := hb.size
    replace hb : Below w.heap.size w v8 := by rw [hv8]; exact hb.alloc hs8 _
    rw [← hv8]
    obtain ⟨q3g, hq3g⟩ : ∃ g, g = w8.heap.size := ⟨_, rfl⟩
    rw [← hq3g] at q3 hs8 lq0q3 ⊢
    clear hv8 hq3g
    obtain ⟨c0, c1, c2, c3, c4, c5, c6, cf⟩ := q0.cells
    obtain ⟨d0, d1, d2, d3, d4, d5, d6, df⟩ := q3.cells
    go_wp2_with fail
    refine (R15.out _ ).mono ?_
    rintro e w9 ⟨rfl, hb9⟩
    clear c0 c1 c2 c3 c4 c5 c6 cf d0 d1 d2 d3 d4 d5 d6 df
    replace q0 := q0.below hb9 q0.lt
    replace q3 := q3.below hb9 q3.lt
    replace hb := Below.on hb hb9
    clear hb9
    obtain ⟨c0, c1, c2, c3, c4, c5, c6, cf⟩ := q0.cells
    obtain ⟨d0, d1, d2, d3, d4, d5, d6, df⟩ := q3.cells
    go_wp2_with fail
    refine (HA.out _ hb).mono ?_
    rintro e w10 ⟨rfl, hb10⟩
    clear c0 c1 c2 c3 c4 c5 c6 cf d0 d1 d2 d3 d4 d5 d6 df
    replace q0 := q0.below hb10 q0.lt
    replace q3 := q3.below hb10 q3.lt
    replace hb := Below.on hb hb10
    clear hb10
    obtain ⟨c0, c1, c2, c3, c4, c5, c6, cf⟩ := q0.cells
    obtain ⟨d0, d1, d2, d3, d4, d5, d6, df⟩ := q3.cells
    go_wp2_with fail
    go_ret
    exact ⟨rfl, hb⟩
theorem texts_any (x : Hd) (s : ByteArray) (w : World) (hE : Env w) (hP : EnvP w) (h1 : x.r.size ≤ 9223372036854775807) (h2 : x.a.size ≤ 9223372036854775807) (h3 : x.p.size ≤ 9223372036854775807) (hs : s.size ≤ 9223372036854775807) (hf : FitH (fewH x)) :
    Calls Tryd.prog 3 #[hv x, .string s] w fun e w' => e = .returned (.bool true) ∧ Below w.heap.size w w' := by
  by_cases h : 120 < s.size
  · exact texts_long x s w hE hP h1 h2 h3 hs hf h
  · exact texts_short x s w hE hP h1 h2 h3 hs hf h
end Go.Proofs.YtkhkncgndllkjaaDoor.Hol
