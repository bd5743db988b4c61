/- The chapter's examples. -/
import Derived.Test.YteeeomcdknjolaaTY
namespace Go.Proofs.Yteeeomcdknjolaa.Tre
open Go.RowKit Crc Chk Frm Fra Nod

theorem many_may : mayP (manyL 6) = true := by decide
theorem many_len : (manyL 6).length = 6 := rfl
theorem many_tree : resE (manyL 6) = 0 ∧ resL (manyL 6) = tree (manyL 6) ∧ (tree (manyL 6)).length = 3 := by
  have h3 : (tree (manyL 6)).length = 3 := by rw [tree_six many_len]; rfl
  have hp : pagesN (manyL 6).length ≤ 200 := by rw [← tree_len, h3]; decide
  obtain ⟨h1, h2⟩ := res_ok many_may hp
  exact ⟨h1, h2, h3⟩
theorem none_tree : resE [] = 0 ∧ resL [] = [⟨[], [], []⟩] := by
  have hp : pagesN ([] : List P).length ≤ 200 := by rw [← tree_len, tree_none]; decide
  obtain ⟨h1, h2⟩ := res_ok (l := []) rfl hp
  exact ⟨h1, by rw [h2, tree_none]⟩
set_option maxRecDepth 20000 in
set_option maxHeartbeats 3200000 in
theorem awake_any (w : World) : Calls Try.prog 16 #[] w fun e w' => e = .returned (.bool true) ∧ Below w.heap.size w w' := by
  have HB1 := Lib.hid (build_any none [] 0 0 w (fun i hi => by cases hi) rfl (Nat.le_refl _) (by decide))
  rw [none_tree.1, none_tree.2] at HB1
  have HM := Lib.hid many_any
  have HD : Hid (∀ W, Calls Try.prog 14 #[.int .i64 41] W fun e w' => e = .returned (.int .i64 3) ∧ Below W.heap.size W w') := fun W => by
    have := depth_any 41 W (by decide) (by decide)
    rwa [show (41 : Int).toNat = 41 from rfl, pages_41.2] at this
  have HP : Hid (∀ W, Calls Try.prog 12 #[.int .i64 41] W fun e w' => e = .returned (.int .i64 12) ∧ Below W.heap.size W w') := fun W => by
    have := pages_any 41 W (by decide) (by decide)
    rwa [show (41 : Int).toNat = 41 from rfl, pages_41.1] at this
  go_enter Try.func16, Try.ntmps16
  go_wp2_with fail
  refine HB1.out.mono ?_
  rintro e w1 ⟨A1, c1, rfl, hn1, -, hb1⟩
  obtain ⟨b0, o0, B1, m1, g1, B2, m2, g2, B3, m3, g3, hA, hb, z1, -, -, hi⟩ := hn1 0 (by decide)
  subst hA
  rw [Nat.zero_mul, Nat.add_zero] at z1
  have hm1 : m1 = 0 := hi.l1.symm
  subst hm1
  have HBa := Lib.hid hb1
  clear hn1 hb1 hi
  go_wp2_with fail
  refine (HM.out _).mono ?_
  rintro e w2 ⟨v, rfl, ho, hb2⟩
  obtain ⟨A2, c2, rfl, hle⟩ := row_sl ho
  rw [many_len] at hle ⊢
  have hbu := build_any A2 (manyL 6) 6 c2 w2 (prs_of ho rfl) rfl hle (by decide)
  rw [many_tree.1, many_tree.2.1] at hbu
  have HBu := Lib.hid hbu
  have z2 := (hb2.cell (p := ⟨b0, o0, none⟩) hb).trans z1
  have HB2 := Lib.hid (step' HBa.out hb2 HBa.out.size)
  have hbw2 : b0 < w2.heap.size := Nat.lt_of_lt_of_le hb hb2.size
  clear ho hb2 hbu z1
  go_wp2_with fail
  refine HBu.out.mono ?_
  rintro e w3 ⟨A3, c3, rfl, hn3, -, hb3⟩
  rw [many_tree.2.2]
  obtain ⟨p0, p1, D1, q1, h1, D2, q2, h2, D3, q3, h3, hA, -, -, -, y3, hj⟩ := hn3 2 (by rw [many_tree.2.2]; decide)
  subst hA
  have hq3 : q3 = 2 := by
    have e1 := hj.l3
    have e2 : (tree (manyL 6))[2]'(by rw [many_tree.2.2]; decide) = mkN [lst (manyL 6) 0, lst (manyL 6) 1] (0, 2) := by
      have := tree_six many_len
      simp only [this]; rfl
    rw [e2] at e1
    exact e1.symm
  subst hq3
  have z3 := (hb3.cell (p := ⟨b0, o0, none⟩) hbw2).trans z2
  have HB3 := Lib.hid (step' HB2.out hb3 HB2.out.size)
  clear z2 hn3 hb3 hj
  go_wp2_with fail
  refine (HD.out _).mono ?_
  rintro e w4 ⟨rfl, hb4⟩
  have HB4 := Lib.hid (step' HB3.out hb4 HB3.out.size)
  clear hb4 z3 y3
  go_wp2_with fail
  refine (HP.out _).mono ?_
  rintro e w5 ⟨rfl, hb5⟩
  have HB5 := Lib.hid (step' HB4.out hb5 HB4.out.size)
  clear hb5
  go_wp2_with fail
  go_ret
  exact ⟨rfl, HB5.out⟩
end Go.Proofs.Yteeeomcdknjolaa.Tre
