/- Contract: the document's May; what is left of a hold. Conditions: the program's array of sizes holds what its initialiser lays. -/
import Derived.Test.YtkhkncgndllkjaaDoorK2
namespace Go.Proofs.YtkhkncgndllkjaaDoor.Hol
open Go.RowKit Cht

theorem BoxH.to {w W : World} {x : Hd} (h : W = w.alloc (.cells (hcs x) 23)) : BoxH w.heap.size x W := by rw [h]; exact BoxH.new _ _
set_option maxHeartbeats 1600000 in
theorem rname_any (k : Int) (s : ByteArray) (w : World) (hs : s.size ≤ 1000) : Calls Tryd.prog 33 #[acc k s] w fun e w' => (∃ t, e = .returned (.tuple #[.string t, .bool (mayA k s)])) ∧ Below w.heap.size w w' := by
  cases h : mayA k s with
  | true => exact (rname_ok k s w hs h).mono fun e w' ⟨he, hb⟩ => ⟨⟨_, he⟩, hb⟩
  | false => exact (rname_no k s w hs h).mono fun e w' ⟨he, hb⟩ => ⟨⟨_, he⟩, hb⟩
set_option maxHeartbeats 1600000 in
theorem rmay_any (x : Hd) (w : World) (hf : FitH x) :
    Calls Tryd.prog 13 #[hv x] w fun e w' => e = .returned (.bool (mayH x)) ∧ Below w.heap.size w w' := by
  obtain ⟨f1, f2, f3, f4, f5, f6⟩ := hf
  have hw0 := Below.refl w.heap.size w
  obtain ⟨W, hW⟩ : ∃ W, W = w.alloc (.cells (hcs x) 23) := ⟨_, rfl⟩
  have b0 := BoxH.to hW
  have hb : Below w.heap.size w W := by rw [hW]; exact hw0.alloc (Nat.le_refl _) _
  have hz : W.heap.size = w.heap.size + 1 := by rw [hW]; exact World.size_alloc _ _
  have HW := Lib.hid hW
  clear hW hw0
  obtain ⟨c0, c1, c2, c3, c4, c5, c6, cf⟩ := b0.cells
  have HM : Hid (mayH x = (refB x.r && (mayA 1 x.p && (mayA 2 x.a && (decide (0 ≤ x.ca) && (decide (x.ca ≤ x.ap) && (decide (0 ≤ x.un) && (decide (x.un ≤ 2147483647) && (!x.op || decide (x.ca < x.ap)))))))))) := by
    show _ = _
    unfold mayH
    rw [Bool.decide_and, Bool.decide_and]
    generalize refB x.r = a1
    generalize mayA 2 x.a = a2
    generalize mayA 1 x.p = a3
    generalize decide (0 ≤ x.ca) = a4
    generalize decide (x.ca ≤ x.ap) = a5
    generalize decide (0 ≤ x.un) = a6
    generalize decide (x.un ≤ 2147483647) = a7
    generalize (!x.op || decide (x.ca < x.ap)) = a8
    revert a1 a2 a3 a4 a5 a6 a7 a8
    decide
  have HX1 := Lib.hid (fun W => rname_any 1 x.p W f3)
  have HX2 := Lib.hid (fun W => rname_any 2 x.a W f2)
  have HX3 := Lib.hid (rref_any x.r)
  generalize mayA 1 x.p = q1 at *
  generalize mayA 2 x.a = q2 at *
  generalize refB x.r = q3 at *
  go_enter Tryd.func13, Tryd.ntmps13
  go_upto_region 1 with fail
  rw [← HW.out]
  go_wp2_with fail
  refine (HX1.out _).mono ?_
  rintro e w1 ⟨⟨t1, rfl⟩, hb1⟩
  have hz1 := hb1.size
  replace b0 := b0.below hb1 (by omega)
  replace hb := Below.on hb hb1
  clear hb1 c0 c1 c2 c3 c4 c5 c6 cf
  obtain ⟨c0, c1, c2, c3, c4, c5, c6, cf⟩ := b0.cells
  go_wp2_with fail
  refine (HX2.out _).mono ?_
  rintro e w2 ⟨⟨t2, rfl⟩, hb2⟩
  have hz2 := hb2.size
  replace b0 := b0.below hb2 (by omega)
  replace hb := Below.on hb hb2
  clear hb2 c0 c1 c2 c3 c4 c5 c6 cf
  obtain ⟨c0, c1, c2, c3, c4, c5, c6, cf⟩ := b0.cells
  go_wp2_with fail
  refine (HX3.out _).mono ?_
  rintro e w' ⟨rfl, rfl⟩
  go_wp2_with fail
  all_goals
    go_ret
    refine ⟨retb ?_, hb⟩
    clear HX1 HX2 HX3 hb b0 c0 c1 c2 c3 c4 c5 c6 cf HW hz hz1 hz2
    rw [HM.out]
    simp_all
    try (intros; omega)
end Go.Proofs.YtkhkncgndllkjaaDoor.Hol
