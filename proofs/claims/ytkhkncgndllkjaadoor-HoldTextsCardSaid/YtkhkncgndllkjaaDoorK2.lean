/- Contract: which holds may be. Conditions: the program's array of sizes holds what its initialiser lays. -/
import Derived.Test.YtkhkncgndllkjaaDoorK1
import Derived.OwnWalk
import Derived.LoopTactic
import Derived.Outline
import Derived.Maps.AppendAt
import Derived.Laws.OwnMore
import Derived.Laws.ResultCell
import Derived.Deep.DeepCutAuto
import Derived.Deep.OwnRows
namespace Go.Proofs.YtkhkncgndllkjaaDoor.Hol
open Go.RowKit Cht

theorem alloc_new (w : World) (o : Obj) : (w.alloc o).heap[w.heap.size]? = some o := by
  show (w.heap.push o)[w.heap.size]? = some o
  simp
/-- A hold. -/
structure Hd where
  r : ByteArray
  a : ByteArray
  p : ByteArray
  ap : Int
  ca : Int
  un : Int
  op : Bool
abbrev hcs (x : Hd) : Array Value := #[.string x.r, .string x.a, .string x.p, .int .i64 x.ap, .int .i64 x.ca, .int .i64 x.un, .bool x.op]
abbrev hv (x : Hd) : Value := .agg (hcs x)
/-- A hold as a machine has it. -/
structure FitH (x : Hd) : Prop where
  r : x.r.size ≤ 1000
  a : x.a.size ≤ 1000
  p : x.p.size ≤ 1000
  ap : -9223372036854775808 ≤ x.ap ∧ x.ap ≤ 9223372036854775807
  ca : -9223372036854775808 ≤ x.ca ∧ x.ca ≤ 9223372036854775807
  un : -9223372036854775808 ≤ x.un ∧ x.un ≤ 9223372036854775807
/-- May it be? -/
def mayH (x : Hd) : Bool := refB x.r && (mayA 2 x.a && (mayA 1 x.p && (decide (0 ≤ x.un ∧ x.un ≤ 2147483647) && (decide (0 ≤ x.ca ∧ x.ca ≤ x.ap) && (!x.op || decide (x.ca < x.ap))))))

/-- A box with a hold. -/
def BoxH (g : Nat) (x : Hd) (w : World) : Prop := w.heap[g]? = some (.cells (hcs x) 23 (0, 0))
theorem BoxH.cells {g : Nat} {x : Hd} {w : World} (h : BoxH g x w) :
    w.cell? ⟨g, 0, none⟩ = some (.string x.r) ∧ w.cell? ⟨g, 1, none⟩ = some (.string x.a) ∧ w.cell? ⟨g, 2, none⟩ = some (.string x.p) ∧ w.cell? ⟨g, 3, none⟩ = some (.int .i64 x.ap) ∧ w.cell? ⟨g, 4, none⟩ = some (.int .i64 x.ca) ∧ w.cell? ⟨g, 5, none⟩ = some (.int .i64 x.un) ∧ w.cell? ⟨g, 6, none⟩ = some (.bool x.op) ∧ ∀ j, w.frozen? ⟨g, j, none⟩ = false := by
  unfold BoxH at h
  refine ⟨?_, ?_, ?_, ?_, ?_, ?_, ?_, fun j => ?_⟩ <;> simp [World.cell?, World.frozen?, h]
theorem BoxH.below {g B : Nat} {x : Hd} {w w' : World} (h : BoxH g x w) (hb : Below B w w') (hr : g < B) : BoxH g x w' := (hb.block g hr).trans h
theorem BoxH.new (w : World) (x : Hd) : BoxH w.heap.size x (w.alloc (.cells (hcs x) 23)) := alloc_new w _
theorem BoxH.lt {g : Nat} {x : Hd} {w : World} (h : BoxH g x w) : g < w.heap.size := (Array.getElem?_eq_some_iff.1 h).1
/-- A box with an account. -/
def BoxA (g : Nat) (k : Int) (s : ByteArray) (w : World) : Prop := w.heap[g]? = some (.cells #[.int .i64 k, .string s] 71 (0, 0))
theorem BoxA.cells {g : Nat} {k : Int} {s : ByteArray} {w : World} (h : BoxA g k s w) : w.cell? ⟨g, 0, none⟩ = some (.int .i64 k) ∧ w.cell? ⟨g, 1, none⟩ = some (.string s) := by
  unfold BoxA at h
  refine ⟨?_, ?_⟩ <;> simp [World.cell?, h]
theorem BoxA.below {g B : Nat} {k : Int} {s : ByteArray} {w w' : World} (h : BoxA g k s w) (hb : Below B w w') (hr : g < B) : BoxA g k s w' := (hb.block g hr).trans h
theorem BoxA.new (w : World) (k : Int) (s : ByteArray) : BoxA w.heap.size k s (w.alloc (.cells #[.int .i64 k, .string s] 71)) := alloc_new w _

theorem mayH_1 {x : Hd} (h : refB x.r = false) : mayH x = false := by unfold mayH; rw [h]; rfl
theorem mayH_2 {x : Hd} (h : mayA 2 x.a = false) : mayH x = false := by unfold mayH; rw [h]; simp
theorem mayH_3 {x : Hd} (h : mayA 1 x.p = false) : mayH x = false := by unfold mayH; rw [h]; simp
theorem mayH_4 {x : Hd} (h : ¬ (0 ≤ x.un ∧ x.un ≤ 2147483647)) : mayH x = false := by unfold mayH; rw [decide_eq_false h]; simp
theorem mayH_5 {x : Hd} (h : ¬ (0 ≤ x.ca ∧ x.ca ≤ x.ap)) : mayH x = false := by unfold mayH; rw [decide_eq_false h]; simp
theorem mayH_6 {x : Hd} (h1 : refB x.r = true) (h2 : mayA 2 x.a = true) (h3 : mayA 1 x.p = true) (h4 : 0 ≤ x.un ∧ x.un ≤ 2147483647) (h5 : 0 ≤ x.ca ∧ x.ca ≤ x.ap) : mayH x = (!x.op || decide (x.ca < x.ap)) := by
  unfold mayH; rw [h1, h2, h3, decide_eq_true h4, decide_eq_true h5]; rfl
theorem mayH_t {x : Hd} (h : mayH x = true) : refB x.r = true ∧ mayA 2 x.a = true ∧ mayA 1 x.p = true ∧ (0 ≤ x.un ∧ x.un ≤ 2147483647) ∧ (0 ≤ x.ca ∧ x.ca ≤ x.ap) ∧ (x.op = true → x.ca < x.ap) := by
  unfold mayH at h
  simp only [Bool.and_eq_true, decide_eq_true_eq, Bool.or_eq_true, Bool.not_eq_true'] at h
  obtain ⟨h1, h2, h3, h4, h5, h6⟩ := h
  exact ⟨h1, h2, h3, h4, h5, fun ho => by rcases h6 with h6 | h6; rw [ho] at h6; cases h6; exact h6⟩

set_option maxHeartbeats 3200000 in
theorem may_any (x : Hd) (w : World) (hE : Env w) (hf : FitH x) :
    Calls Tryd.prog 19 #[hv x] w fun e w' => e = .returned (.bool (mayH x)) ∧ Below w.heap.size w w' := by
  have HE := Lib.hid hE
  obtain ⟨f1, f2, f3, f4, f5, f6⟩ := hf
  have hw0 := Below.refl w.heap.size w
  obtain ⟨W, hW⟩ : ∃ W, W = (((w.alloc (.cells (hcs x) 23)).alloc (.cells #[.int .i64 2, .string x.a] 71)).alloc (.cells #[.int .i64 1, .string x.p] 71)) := ⟨_, rfl⟩
  have hz1 : (w.alloc (.cells (hcs x) 23)).heap.size = w.heap.size + 1 := World.size_alloc _ _
  have hz2 : ((w.alloc (.cells (hcs x) 23)).alloc (.cells #[.int .i64 2, .string x.a] 71)).heap.size = w.heap.size + 1 + 1 := by rw [World.size_alloc, hz1]
  have b2 : BoxA (w.heap.size + 1 + 1) 1 x.p W := by rw [hW, ← hz2]; exact BoxA.new _ _ _
  have b1 : BoxA (w.heap.size + 1) 2 x.a W := by
    rw [hW, ← hz1]
    exact (BoxA.new (w.alloc (.cells (hcs x) 23)) 2 x.a).below ((Below.refl _ _).alloc (Nat.le_refl _) _) (by rw [hz2, hz1]; omega)
  have b0 : BoxH w.heap.size x W := by
    rw [hW]
    exact ((BoxH.new w x).below ((Below.refl _ _).alloc (Nat.le_refl _) _) (by rw [hz1]; omega)).below ((Below.refl _ _).alloc (Nat.le_refl _) _) (by rw [hz2]; omega)
  have hb : Below w.heap.size w W := by
    rw [hW]; exact ((hw0.alloc (Nat.le_refl _) _).alloc (by rw [hz1]; omega) _).alloc (by rw [hz2]; omega) _
  have hz : W.heap.size = w.heap.size + 1 + 1 + 1 := by rw [hW, World.size_alloc, hz2]
  have HW := Lib.hid hW
  have HX1 := Lib.hid (ref_any x.r)
  have HX2 := Lib.hid (fun (W : World) (h : Below w.heap.size w W) => mayP_any 2 x.a W (HE.out.below h) f2 (by decide) (by decide))
  have HX3 := Lib.hid (fun (W : World) (h : Below w.heap.size w W) => mayP_any 1 x.p W (HE.out.below h) f3 (by decide) (by decide))
  have HX4 := Lib.hid (until_any x.un)
  clear hE hW hz1 hz2 hw0
  cases h1 : refB x.r with
  | false =>
    have HR := Lib.hid (mayH_1 h1)
    rw [h1] at HX1
    clear h1
    go_enter Tryd.func19, Tryd.ntmps19
    go_upto_region 3 with fail
    rw [← HW.out]
    clear HW
    obtain ⟨c0, c1, c2, c3, c4, c5, c6, cf⟩ := b0.cells
    obtain ⟨d0, d1⟩ := b1.cells
    obtain ⟨e0, e1⟩ := b2.cells
    go_wp2_with fail
    refine (HX1.out _).mono ?_
    rintro e w' ⟨rfl, rfl⟩
    go_wp2_with fail
    go_ret
    exact ⟨retb HR.out.symm, hb⟩
  | true =>
    rw [h1] at HX1
    cases h2 : mayA 2 x.a with
    | false =>
      have HR := Lib.hid (mayH_2 h2)
      rw [h2] at HX2
      clear h1
      clear h2
      go_enter Tryd.func19, Tryd.ntmps19
      go_upto_region 3 with fail
      rw [← HW.out]
      clear HW
      obtain ⟨c0, c1, c2, c3, c4, c5, c6, cf⟩ := b0.cells
      obtain ⟨d0, d1⟩ := b1.cells
      obtain ⟨e0, e1⟩ := b2.cells
      go_wp2_with fail
      refine (HX1.out _).mono ?_
      rintro e w' ⟨rfl, rfl⟩
      go_wp2_with fail
      clear d0 d1 b1
      refine (HX2.out _ hb).mono ?_
      rintro e w2 ⟨rfl, hb2⟩
      have hz2 := hb2.size
      replace b0 := b0.below hb2 (by omega)
      replace b2 := b2.below hb2 (by omega)
      replace hb := Below.on hb hb2
      clear hb2 c0 c1 c2 c3 c4 c5 c6 cf e0 e1
      obtain ⟨c0, c1, c2, c3, c4, c5, c6, cf⟩ := b0.cells
      obtain ⟨e0, e1⟩ := b2.cells
      go_wp2_with fail
      go_ret
      exact ⟨retb HR.out.symm, hb⟩
    | true =>
      rw [h2] at HX2
      cases h3 : mayA 1 x.p with
      | false =>
        have HR := Lib.hid (mayH_3 h3)
        rw [h3] at HX3
        clear h1
        clear h2
        clear h3
        go_enter Tryd.func19, Tryd.ntmps19
        go_upto_region 3 with fail
        rw [← HW.out]
        clear HW
        obtain ⟨c0, c1, c2, c3, c4, c5, c6, cf⟩ := b0.cells
        obtain ⟨d0, d1⟩ := b1.cells
        obtain ⟨e0, e1⟩ := b2.cells
        go_wp2_with fail
        refine (HX1.out _).mono ?_
        rintro e w' ⟨rfl, rfl⟩
        go_wp2_with fail
        clear d0 d1 b1
        refine (HX2.out _ hb).mono ?_
        rintro e w2 ⟨rfl, hb2⟩
        have hz2 := hb2.size
        replace b0 := b0.below hb2 (by omega)
        replace b2 := b2.below hb2 (by omega)
        replace hb := Below.on hb hb2
        clear hb2 c0 c1 c2 c3 c4 c5 c6 cf e0 e1
        obtain ⟨c0, c1, c2, c3, c4, c5, c6, cf⟩ := b0.cells
        obtain ⟨e0, e1⟩ := b2.cells
        go_wp2_with fail
        refine (HX3.out _ hb).mono ?_
        rintro e w3 ⟨rfl, hb3⟩
        have hz3 := hb3.size
        replace b0 := b0.below hb3 (by omega)
        replace b2 := b2.below hb3 (by omega)
        replace hb := Below.on hb hb3
        clear hb3 c0 c1 c2 c3 c4 c5 c6 cf e0 e1
        obtain ⟨c0, c1, c2, c3, c4, c5, c6, cf⟩ := b0.cells
        obtain ⟨e0, e1⟩ := b2.cells
        go_wp2_with fail
        go_ret
        exact ⟨retb HR.out.symm, hb⟩
      | true =>
        rw [h3] at HX3
        by_cases h4 : 0 ≤ x.un ∧ x.un ≤ 2147483647
        case neg =>
          have HR := Lib.hid (mayH_4 h4)
          have HU : Hid (decide (0 ≤ x.un ∧ x.un ≤ 2147483647) = false) := decide_eq_false h4
          clear h4
          clear h1
          clear h2
          clear h3
          go_enter Tryd.func19, Tryd.ntmps19
          go_upto_region 3 with fail
          rw [← HW.out]
          clear HW
          obtain ⟨c0, c1, c2, c3, c4, c5, c6, cf⟩ := b0.cells
          obtain ⟨d0, d1⟩ := b1.cells
          obtain ⟨e0, e1⟩ := b2.cells
          go_wp2_with fail
          refine (HX1.out _).mono ?_
          rintro e w' ⟨rfl, rfl⟩
          go_wp2_with fail
          clear d0 d1 b1
          refine (HX2.out _ hb).mono ?_
          rintro e w2 ⟨rfl, hb2⟩
          have hz2 := hb2.size
          replace b0 := b0.below hb2 (by omega)
          replace b2 := b2.below hb2 (by omega)
          replace hb := Below.on hb hb2
          clear hb2 c0 c1 c2 c3 c4 c5 c6 cf e0 e1
          obtain ⟨c0, c1, c2, c3, c4, c5, c6, cf⟩ := b0.cells
          obtain ⟨e0, e1⟩ := b2.cells
          go_wp2_with fail
          refine (HX3.out _ hb).mono ?_
          rintro e w3 ⟨rfl, hb3⟩
          have hz3 := hb3.size
          replace b0 := b0.below hb3 (by omega)
          replace b2 := b2.below hb3 (by omega)
          replace hb := Below.on hb hb3
          clear hb3 c0 c1 c2 c3 c4 c5 c6 cf e0 e1
          obtain ⟨c0, c1, c2, c3, c4, c5, c6, cf⟩ := b0.cells
          obtain ⟨e0, e1⟩ := b2.cells
          go_wp2_with fail
          refine (HX4.out _).mono ?_
          rintro e w' ⟨rfl, rfl⟩
          rw [HU.out]
          go_wp2_with fail
          go_ret
          first | exact ⟨retb HR.out.symm, hb⟩ | exact ⟨retb (by rw [HR.out]; first | rfl | exact decide_eq_false (by omega) | exact decide_eq_true (by omega)), hb⟩
        have HU : Hid (decide (0 ≤ x.un ∧ x.un ≤ 2147483647) = true) := decide_eq_true h4
        by_cases h5 : x.ca < 0
        · have HR := Lib.hid (mayH_5 (x := x) (by omega))
          clear h4
          clear h1
          clear h2
          clear h3
          go_enter Tryd.func19, Tryd.ntmps19
          go_upto_region 3 with fail
          rw [← HW.out]
          clear HW
          obtain ⟨c0, c1, c2, c3, c4, c5, c6, cf⟩ := b0.cells
          obtain ⟨d0, d1⟩ := b1.cells
          obtain ⟨e0, e1⟩ := b2.cells
          go_wp2_with fail
          refine (HX1.out _).mono ?_
          rintro e w' ⟨rfl, rfl⟩
          go_wp2_with fail
          clear d0 d1 b1
          refine (HX2.out _ hb).mono ?_
          rintro e w2 ⟨rfl, hb2⟩
          have hz2 := hb2.size
          replace b0 := b0.below hb2 (by omega)
          replace b2 := b2.below hb2 (by omega)
          replace hb := Below.on hb hb2
          clear hb2 c0 c1 c2 c3 c4 c5 c6 cf e0 e1
          obtain ⟨c0, c1, c2, c3, c4, c5, c6, cf⟩ := b0.cells
          obtain ⟨e0, e1⟩ := b2.cells
          go_wp2_with fail
          refine (HX3.out _ hb).mono ?_
          rintro e w3 ⟨rfl, hb3⟩
          have hz3 := hb3.size
          replace b0 := b0.below hb3 (by omega)
          replace b2 := b2.below hb3 (by omega)
          replace hb := Below.on hb hb3
          clear hb3 c0 c1 c2 c3 c4 c5 c6 cf e0 e1
          obtain ⟨c0, c1, c2, c3, c4, c5, c6, cf⟩ := b0.cells
          obtain ⟨e0, e1⟩ := b2.cells
          go_wp2_with fail
          refine (HX4.out _).mono ?_
          rintro e w' ⟨rfl, rfl⟩
          rw [HU.out]
          go_wp2_with fail
          go_ret
          first | exact ⟨retb HR.out.symm, hb⟩ | exact ⟨retb (by rw [HR.out]; first | rfl | exact decide_eq_false (by omega) | exact decide_eq_true (by omega)), hb⟩
        by_cases h6 : x.ap < x.ca
        · have HR := Lib.hid (mayH_5 (x := x) (by omega))
          clear h4
          clear h1
          clear h2
          clear h3
          go_enter Tryd.func19, Tryd.ntmps19
          go_upto_region 3 with fail
          rw [← HW.out]
          clear HW
          obtain ⟨c0, c1, c2, c3, c4, c5, c6, cf⟩ := b0.cells
          obtain ⟨d0, d1⟩ := b1.cells
          obtain ⟨e0, e1⟩ := b2.cells
          go_wp2_with fail
          refine (HX1.out _).mono ?_
          rintro e w' ⟨rfl, rfl⟩
          go_wp2_with fail
          clear d0 d1 b1
          refine (HX2.out _ hb).mono ?_
          rintro e w2 ⟨rfl, hb2⟩
          have hz2 := hb2.size
          replace b0 := b0.below hb2 (by omega)
          replace b2 := b2.below hb2 (by omega)
          replace hb := Below.on hb hb2
          clear hb2 c0 c1 c2 c3 c4 c5 c6 cf e0 e1
          obtain ⟨c0, c1, c2, c3, c4, c5, c6, cf⟩ := b0.cells
          obtain ⟨e0, e1⟩ := b2.cells
          go_wp2_with fail
          refine (HX3.out _ hb).mono ?_
          rintro e w3 ⟨rfl, hb3⟩
          have hz3 := hb3.size
          replace b0 := b0.below hb3 (by omega)
          replace b2 := b2.below hb3 (by omega)
          replace hb := Below.on hb hb3
          clear hb3 c0 c1 c2 c3 c4 c5 c6 cf e0 e1
          obtain ⟨c0, c1, c2, c3, c4, c5, c6, cf⟩ := b0.cells
          obtain ⟨e0, e1⟩ := b2.cells
          go_wp2_with fail
          refine (HX4.out _).mono ?_
          rintro e w' ⟨rfl, rfl⟩
          rw [HU.out]
          go_wp2_with fail
          go_ret
          first | exact ⟨retb HR.out.symm, hb⟩ | exact ⟨retb (by rw [HR.out]; first | rfl | exact decide_eq_false (by omega) | exact decide_eq_true (by omega)), hb⟩
        have HR := Lib.hid (mayH_6 h1 h2 h3 h4 (by omega))
        clear h4
        cases ho : x.op with
        | false =>
          rw [ho] at HR
          clear h1
          clear h2
          clear h3
          go_enter Tryd.func19, Tryd.ntmps19
          go_upto_region 3 with fail
          rw [← HW.out]
          clear HW
          obtain ⟨c0, c1, c2, c3, c4, c5, c6, cf⟩ := b0.cells
          obtain ⟨d0, d1⟩ := b1.cells
          obtain ⟨e0, e1⟩ := b2.cells
          go_wp2_with fail
          refine (HX1.out _).mono ?_
          rintro e w' ⟨rfl, rfl⟩
          go_wp2_with fail
          clear d0 d1 b1
          refine (HX2.out _ hb).mono ?_
          rintro e w2 ⟨rfl, hb2⟩
          have hz2 := hb2.size
          replace b0 := b0.below hb2 (by omega)
          replace b2 := b2.below hb2 (by omega)
          replace hb := Below.on hb hb2
          clear hb2 c0 c1 c2 c3 c4 c5 c6 cf e0 e1
          obtain ⟨c0, c1, c2, c3, c4, c5, c6, cf⟩ := b0.cells
          obtain ⟨e0, e1⟩ := b2.cells
          go_wp2_with fail
          refine (HX3.out _ hb).mono ?_
          rintro e w3 ⟨rfl, hb3⟩
          have hz3 := hb3.size
          replace b0 := b0.below hb3 (by omega)
          replace b2 := b2.below hb3 (by omega)
          replace hb := Below.on hb hb3
          clear hb3 c0 c1 c2 c3 c4 c5 c6 cf e0 e1
          obtain ⟨c0, c1, c2, c3, c4, c5, c6, cf⟩ := b0.cells
          obtain ⟨e0, e1⟩ := b2.cells
          go_wp2_with fail
          refine (HX4.out _).mono ?_
          rintro e w' ⟨rfl, rfl⟩
          rw [HU.out]
          go_wp2_with fail
          go_ret
          first | exact ⟨retb HR.out.symm, hb⟩ | exact ⟨retb (by rw [HR.out]; first | rfl | exact decide_eq_false (by omega) | exact decide_eq_true (by omega)), hb⟩
        | true =>
          rw [ho] at HR
          by_cases h7 : x.ca < x.ap
          · have HR2 : Hid (mayH x = true) := by show _ = _; rw [HR.out, decide_eq_true h7]; rfl
            replace HR := HR2
            clear h1
            clear h2
            clear h3
            go_enter Tryd.func19, Tryd.ntmps19
            go_upto_region 3 with fail
            rw [← HW.out]
            clear HW
            obtain ⟨c0, c1, c2, c3, c4, c5, c6, cf⟩ := b0.cells
            obtain ⟨d0, d1⟩ := b1.cells
            obtain ⟨e0, e1⟩ := b2.cells
            go_wp2_with fail
            refine (HX1.out _).mono ?_
            rintro e w' ⟨rfl, rfl⟩
            go_wp2_with fail
            clear d0 d1 b1
            refine (HX2.out _ hb).mono ?_
            rintro e w2 ⟨rfl, hb2⟩
            have hz2 := hb2.size
            replace b0 := b0.below hb2 (by omega)
            replace b2 := b2.below hb2 (by omega)
            replace hb := Below.on hb hb2
            clear hb2 c0 c1 c2 c3 c4 c5 c6 cf e0 e1
            obtain ⟨c0, c1, c2, c3, c4, c5, c6, cf⟩ := b0.cells
            obtain ⟨e0, e1⟩ := b2.cells
            go_wp2_with fail
            refine (HX3.out _ hb).mono ?_
            rintro e w3 ⟨rfl, hb3⟩
            have hz3 := hb3.size
            replace b0 := b0.below hb3 (by omega)
            replace b2 := b2.below hb3 (by omega)
            replace hb := Below.on hb hb3
            clear hb3 c0 c1 c2 c3 c4 c5 c6 cf e0 e1
            obtain ⟨c0, c1, c2, c3, c4, c5, c6, cf⟩ := b0.cells
            obtain ⟨e0, e1⟩ := b2.cells
            go_wp2_with fail
            refine (HX4.out _).mono ?_
            rintro e w' ⟨rfl, rfl⟩
            rw [HU.out]
            go_wp2_with fail
            go_ret
            first | exact ⟨retb HR.out.symm, hb⟩ | exact ⟨retb (by rw [HR.out]; first | rfl | exact decide_eq_false (by omega) | exact decide_eq_true (by omega)), hb⟩
          · have HR2 : Hid (mayH x = false) := by show _ = _; rw [HR.out, decide_eq_false h7]; rfl
            replace HR := HR2
            clear h1
            clear h2
            clear h3
            go_enter Tryd.func19, Tryd.ntmps19
            go_upto_region 3 with fail
            rw [← HW.out]
            clear HW
            obtain ⟨c0, c1, c2, c3, c4, c5, c6, cf⟩ := b0.cells
            obtain ⟨d0, d1⟩ := b1.cells
            obtain ⟨e0, e1⟩ := b2.cells
            go_wp2_with fail
            refine (HX1.out _).mono ?_
            rintro e w' ⟨rfl, rfl⟩
            go_wp2_with fail
            clear d0 d1 b1
            refine (HX2.out _ hb).mono ?_
            rintro e w2 ⟨rfl, hb2⟩
            have hz2 := hb2.size
            replace b0 := b0.below hb2 (by omega)
            replace b2 := b2.below hb2 (by omega)
            replace hb := Below.on hb hb2
            clear hb2 c0 c1 c2 c3 c4 c5 c6 cf e0 e1
            obtain ⟨c0, c1, c2, c3, c4, c5, c6, cf⟩ := b0.cells
            obtain ⟨e0, e1⟩ := b2.cells
            go_wp2_with fail
            refine (HX3.out _ hb).mono ?_
            rintro e w3 ⟨rfl, hb3⟩
            have hz3 := hb3.size
            replace b0 := b0.below hb3 (by omega)
            replace b2 := b2.below hb3 (by omega)
            replace hb := Below.on hb hb3
            clear hb3 c0 c1 c2 c3 c4 c5 c6 cf e0 e1
            obtain ⟨c0, c1, c2, c3, c4, c5, c6, cf⟩ := b0.cells
            obtain ⟨e0, e1⟩ := b2.cells
            go_wp2_with fail
            refine (HX4.out _).mono ?_
            rintro e w' ⟨rfl, rfl⟩
            rw [HU.out]
            go_wp2_with fail
            go_ret
            first | exact ⟨retb HR.out.symm, hb⟩ | exact ⟨retb (by rw [HR.out]; first | rfl | exact decide_eq_false (by omega) | exact decide_eq_true (by omega)), hb⟩
end Go.Proofs.YtkhkncgndllkjaaDoor.Hol
