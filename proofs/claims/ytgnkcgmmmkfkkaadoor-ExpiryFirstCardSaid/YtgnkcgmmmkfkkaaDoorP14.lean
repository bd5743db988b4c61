/- Contracts: holds of which no more is looked at than may be; the chapter's examples. Conditions: the program's array of sizes holds what its initialiser lays. -/
import Derived.Test.YtgnkcgmmmkfkkaaDoorP13
namespace Go.Proofs.YtgnkcgmmmkfkkaaDoor.Hep
open Go.RowKit Cht Any
open Hol (Hd hv hcs FitH mayH BoxH Hds lapseH fewH hcl hcl_snoc)

def fewL (l : List Hd) : List Hd := (l.take 40).map fewH
set_option maxRecDepth 20000 in
set_option maxHeartbeats 1600000 in
theorem few_any (A : Option Addr) (l : List Hd) (n c : Nat) (w : World) (h : Hds w w.heap.size A l) (hl : l.length = n) (hc : n ≤ c) (hcm : c ≤ 9223372036854775807) (hf : ∀ x ∈ l, Hol.Big x) :
    Calls Tryd.prog 6 #[.slice A n c] w fun e w' => ∃ v, e = .returned v ∧ OwnH w' w.heap.size v (fewL l) ∧ Below w.heap.size w w' := by
  have HDS := Lib.hid h
  have HBG := Lib.hid hf
  have HL := Lib.hid hl
  clear h hf hl
  by_cases h40 : 40 < n
  · have h40' : (40 : Int) < n := by omega
    go_enter Tryd.func6, Tryd.ntmps6
    go_wp2_with fail
    go_loopw [3, 4] (fun s u wr => ∃ (v : Value) (k : Nat), v = s ∧ u = .int .i64 k ∧ k ≤ 40 ∧ Hid (OwnH wr w.heap.size v ((l.take k).map fewH)) ∧ Hid (Below w.heap.size w wr)) (fun _ u _ => 40 - (intOf u).toNat)
    case atStart => exact ⟨_, 0, rfl, rfl, Nat.zero_le _, World.ownsRow_nil _ _ _ _, Below.refl _ _⟩
    case round =>
      obtain ⟨v, k, rfl, rfl, hkn, HO, HB⟩ := hrel
      have hwr := HB.out.size
      obtain ⟨w3, rfl⟩ : ∃ x, x = wr := ⟨wr, rfl⟩
      by_cases hlt : k < 40
      · have hki : (k : Int) < 40 := by omega
        have hkl : k < l.length := by have := HL.out; omega
        obtain ⟨g0, o0, rfl, hg0, p0, p1, p2, p3, p4, p5, p6⟩ := (HDS.out.below HB.out (Nat.le_refl _)) k hkl
        have hbx := HBG.out _ (List.getElem_mem hkl)
        have HS := Lib.hid (Hol.few_next hkl)
        generalize l[k] = x at *
        have HF := Lib.hid (Hol.few_any x w3 hbx.r hbx.a hbx.p)
        generalize fewH x = y at *
        have hlk : ((l.take k).map fewH).length = k := by rw [List.length_map, List.length_take]; omega
        clear hbx
        go_wp2_with fail
        refine HF.out.mono ?_
        rintro e w4 ⟨rfl, hb4⟩
        have hrow : w4.ownsRow w.heap.size 29 7 v k (hcl ((l.take k).map fewH)) := by have := Hol.own_below HO.out hb4; rwa [hlk] at this
        have hb := Below.on HB.out hb4
        have hsz := hb.size
        have hk1000 : k ≤ 1000 := by omega
        clear p0 p1 p2 p3 p4 p5 p6 hb4
        obtain ⟨v', w7, hrun, hu7, hg7⟩ := Hol.run_appH w4 w.heap.size v k (hcl ((l.take k).map fewH)) hrow y hk1000 hsz
        have HRUN := Lib.hid hrun
        have HU7 : Hid (OwnH w7 w.heap.size v' ((l.take (k + 1)).map fewH)) := by
          show World.ownsRow _ _ _ _ _ _ _
          rw [HS.out, hcl_snoc, List.length_append, hlk]; exact hu7
        have HB7 : Hid (Below w.heap.size w w7) := hb.trans hg7
        clear hrun hu7 hg7 hrow
        go_wp2_with (at_builtin; refine Go.Lib.wpList_append_run _ rfl (.tmp 16) (.tmp 22) 22 22 rfl _ _ rfl rfl _ w7 HRUN.out ?_)
        go_roundw
        case rel => exact ⟨_, k + 1, rfl, by go_num, by omega, HU7, HB7⟩
        case measure => simp [intOf]; omega
      · obtain rfl : k = 40 := by omega
        have HRES : Hid (OwnH w3 w.heap.size v (fewL l)) := by
          have h9 := HO.out
          exact h9
        go_wp2_with fail
        go_ret
        exact ⟨_, rfl, HRES.out, HB.out⟩
  · have h40' : ¬ (40 : Int) < n := by omega
    go_enter Tryd.func6, Tryd.ntmps6
    go_wp2_with fail
    go_loopw [3, 4] (fun s u wr => ∃ (v : Value) (k : Nat), v = s ∧ u = .int .i64 k ∧ k ≤ n ∧ Hid (OwnH wr w.heap.size v ((l.take k).map fewH)) ∧ Hid (Below w.heap.size w wr)) (fun _ u _ => n - (intOf u).toNat)
    case atStart => exact ⟨_, 0, rfl, rfl, Nat.zero_le _, World.ownsRow_nil _ _ _ _, Below.refl _ _⟩
    case round =>
      obtain ⟨v, k, rfl, rfl, hkn, HO, HB⟩ := hrel
      have hwr := HB.out.size
      obtain ⟨w3, rfl⟩ : ∃ x, x = wr := ⟨wr, rfl⟩
      by_cases hlt : k < n
      · have hki : (k : Int) < n := by omega
        have hkl : k < l.length := by have := HL.out; omega
        obtain ⟨g0, o0, rfl, hg0, p0, p1, p2, p3, p4, p5, p6⟩ := (HDS.out.below HB.out (Nat.le_refl _)) k hkl
        have hbx := HBG.out _ (List.getElem_mem hkl)
        have HS := Lib.hid (Hol.few_next hkl)
        generalize l[k] = x at *
        have HF := Lib.hid (Hol.few_any x w3 hbx.r hbx.a hbx.p)
        generalize fewH x = y at *
        have hlk : ((l.take k).map fewH).length = k := by rw [List.length_map, List.length_take]; omega
        clear hbx
        go_wp2_with fail
        refine HF.out.mono ?_
        rintro e w4 ⟨rfl, hb4⟩
        have hrow : w4.ownsRow w.heap.size 29 7 v k (hcl ((l.take k).map fewH)) := by have := Hol.own_below HO.out hb4; rwa [hlk] at this
        have hb := Below.on HB.out hb4
        have hsz := hb.size
        have hk1000 : k ≤ 1000 := by omega
        clear p0 p1 p2 p3 p4 p5 p6 hb4
        obtain ⟨v', w7, hrun, hu7, hg7⟩ := Hol.run_appH w4 w.heap.size v k (hcl ((l.take k).map fewH)) hrow y hk1000 hsz
        have HRUN := Lib.hid hrun
        have HU7 : Hid (OwnH w7 w.heap.size v' ((l.take (k + 1)).map fewH)) := by
          show World.ownsRow _ _ _ _ _ _ _
          rw [HS.out, hcl_snoc, List.length_append, hlk]; exact hu7
        have HB7 : Hid (Below w.heap.size w w7) := hb.trans hg7
        clear hrun hu7 hg7 hrow
        go_wp2_with (at_builtin; refine Go.Lib.wpList_append_run _ rfl (.tmp 16) (.tmp 22) 22 22 rfl _ _ rfl rfl _ w7 HRUN.out ?_)
        go_roundw
        case rel => exact ⟨_, k + 1, rfl, by go_num, by omega, HU7, HB7⟩
        case measure => simp [intOf]; omega
      · obtain rfl : k = n := by omega
        have HRES : Hid (OwnH w3 w.heap.size v (fewL l)) := by
          have h9 := HO.out
          rw [List.take_of_length_le (by have := HL.out; omega)] at h9; unfold fewL; rw [List.take_of_length_le (by have := HL.out; omega)]; exact h9
        go_wp2_with fail
        go_ret
        exact ⟨_, rfl, HRES.out, HB.out⟩

def tl (n : Int) : Hd := ⟨⟨#[65, 66, 67, 48, 48, 48, 48, 48, 48, 48, 48, 49]⟩, ⟨#[49, 50, 51, 52, 53, 54]⟩, ⟨#[52, 49, 49, 49, 49, 49, 49, 49, 49, 49, 49, 49, 49, 49, 49, 49]⟩, 5, 0, n, true⟩
theorem tl_fit (n : Int) (h : 0 ≤ n ∧ n ≤ 1000) : FitH (tl n) := by
  refine ⟨Nat.le_of_ble_eq_true rfl, Nat.le_of_ble_eq_true rfl, Nat.le_of_ble_eq_true rfl, ⟨by show _ ≤ (5 : Int); decide, by show (5 : Int) ≤ _; decide⟩, ⟨by show _ ≤ (0 : Int); decide, by show (0 : Int) ≤ _; decide⟩, ⟨?_, ?_⟩⟩
  · show _ ≤ n; omega
  · show n ≤ _; omega
theorem ex_5 : dueL [tl 5, tl 3, tl 5] 5 = [1] := by kernel_rfl
theorem ex_6 : dueL [tl 5, tl 3, tl 5] 6 = [1, 0, 2] := by kernel_rfl
theorem ex_n : nextL [tl 5, tl 3, tl 5] = (4, 0) := by kernel_rfl
set_option maxHeartbeats 800000 in
theorem till_any (n : Int) (w : World) : Calls Tryd.prog 23 #[.int .i64 n] w fun e w' => e = .returned (hv (tl n)) ∧ Below w.heap.size w w' := by
  obtain ⟨w1, hw1⟩ : ∃ W, W = w.alloc (.cells #[.string ⟨#[65, 66, 67, 48, 48, 48, 48, 48, 48, 48, 48, 49]⟩, .string ⟨#[49, 50, 51, 52, 53, 54]⟩, .string ⟨#[52, 49, 49, 49, 49, 49, 49, 49, 49, 49, 49, 49, 49, 49, 49, 49]⟩, .int .i64 5, .int .i64 0, .int .i64 n, .bool true] 29) := ⟨_, rfl⟩
  have hb : Below w.heap.size w w1 := by rw [hw1]; exact (Below.refl _ _).alloc (Nat.le_refl _) _
  have hx : BoxH w.heap.size (tl n) w1 := by rw [hw1]; exact BoxH.new w _
  obtain ⟨c0, c1, c2, c3, c4, c5, c6, -⟩ := hx.cells
  have HB := Lib.hid hb
  have HW := Lib.hid hw1
  clear hb hw1 hx
  go_enter Tryd.func23, Tryd.ntmps23
  go_wp2_with fail
  rw [← HW.out]
  refine bodyPost_ret (v := .agg #[.string ⟨#[65, 66, 67, 48, 48, 48, 48, 48, 48, 48, 48, 49]⟩, .string ⟨#[49, 50, 51, 52, 53, 54]⟩, .string ⟨#[52, 49, 49, 49, 49, 49, 49, 49, 49, 49, 49, 49, 49, 49, 49, 49]⟩, .int .i64 5, .int .i64 0, .int .i64 n, .bool true]) ?_ rfl ⟨rfl, HB.out⟩
  have d0 : w1.cell? ⟨w.heap.size, 0, none⟩ = some (.string ⟨#[65, 66, 67, 48, 48, 48, 48, 48, 48, 48, 48, 49]⟩) := c0
  have d1 : w1.cell? ⟨w.heap.size, 1, none⟩ = some (.string ⟨#[49, 50, 51, 52, 53, 54]⟩) := c1
  have d2 : w1.cell? ⟨w.heap.size, 2, none⟩ = some (.string ⟨#[52, 49, 49, 49, 49, 49, 49, 49, 49, 49, 49, 49, 49, 49, 49, 49]⟩) := c2
  have d3 : w1.cell? ⟨w.heap.size, 3, none⟩ = some (.int .i64 5) := c3
  have d4 : w1.cell? ⟨w.heap.size, 4, none⟩ = some (.int .i64 0) := c4
  have d5 : w1.cell? ⟨w.heap.size, 5, none⟩ = some (.int .i64 n) := c5
  have d6 : w1.cell? ⟨w.heap.size, 6, none⟩ = some (.bool true) := c6
  simp [results, Tryd.results23, go_sem, d0, d1, d2, d3, d4, d5, d6]
theorem nums_new (w : World) (l : List Nat) (cs : Array Value) (e : cs.toList = ics l) : Nums (w.alloc (.cells cs 3)) (w.heap.size + 1) (some ⟨w.heap.size, 0, none⟩) l := fun i hi => by
  refine ⟨w.heap.size, 0, rfl, Nat.lt_succ_self _, ?_⟩
  rw [Nat.zero_add, World.cell?_alloc_new, ← Array.getElem?_toList, e]
  unfold ics
  rw [List.getElem?_map, List.getElem?_eq_getElem hi]; rfl
theorem hds_new (w : World) (l : List Hd) (cs : Array Value) (e : cs.toList = hcl l) : Hds (w.alloc (.cells cs 29)) (w.heap.size + 1) (some ⟨w.heap.size, 0, none⟩) l := fun i hi => by
  have at7 : ∀ j, j < 7 → (w.alloc (.cells cs 29)).cell? ⟨w.heap.size, 0 + (i * 7 + j), none⟩ = (hcs l[i]).toList[j]? := fun j hj => by
    rw [Nat.zero_add, World.cell?_alloc_new, ← Array.getElem?_toList, e]
    exact Hol.hcl_at l i hi j hj
  exact ⟨w.heap.size, 0, rfl, Nat.lt_succ_self _, at7 0 (by omega), (by have := at7 1 (by omega); rw [← Nat.add_assoc] at this; exact this), (by have := at7 2 (by omega); rw [← Nat.add_assoc] at this; exact this), (by have := at7 3 (by omega); rw [← Nat.add_assoc] at this; exact this), (by have := at7 4 (by omega); rw [← Nat.add_assoc] at this; exact this), (by have := at7 5 (by omega); rw [← Nat.add_assoc] at this; exact this), (by have := at7 6 (by omega); rw [← Nat.add_assoc] at this; exact this)⟩
set_option maxRecDepth 20000 in
set_option maxHeartbeats 1600000 in
theorem awake_any (w : World) (hE : Env w) : Calls Tryd.prog 13 #[] w fun e w' => e = .returned (.bool true) ∧ Below w.heap.size w w' := by
  have HEW := Lib.hid (fun (W : World) (hb : Below w.heap.size w W) => hE.below hb)
  have HFA : Hid (∀ x ∈ [tl 5, tl 3, tl 5], FitH x) := fun x hx => by
    simp only [List.mem_cons, List.not_mem_nil, or_false] at hx
    rcases hx with rfl | rfl | rfl <;> exact tl_fit _ (by decide)
  clear hE
  go_enter Tryd.func13, Tryd.ntmps13
  go_wp2_with fail
  refine (till_any 5 _).mono ?_
  rintro e w1 ⟨rfl, hb1⟩
  go_wp2_with fail
  refine (till_any 3 _).mono ?_
  rintro e w2 ⟨rfl, hb2⟩
  go_wp2_with fail
  refine (till_any 5 _).mono ?_
  rintro e w3 ⟨rfl, hb3⟩
  have HB3 := Lib.hid (Below.on (Below.on hb1 hb2) hb3)
  clear hb1 hb2 hb3
  obtain ⟨w4, hw4⟩ : ∃ W, W = w3.alloc (.cells #[.string (tl 5).r, .string (tl 5).a, .string (tl 5).p, .int .i64 (tl 5).ap, .int .i64 (tl 5).ca, .int .i64 (tl 5).un, .bool (tl 5).op, .string (tl 3).r, .string (tl 3).a, .string (tl 3).p, .int .i64 (tl 3).ap, .int .i64 (tl 3).ca, .int .i64 (tl 3).un, .bool (tl 3).op, .string (tl 5).r, .string (tl 5).a, .string (tl 5).p, .int .i64 (tl 5).ap, .int .i64 (tl 5).ca, .int .i64 (tl 5).un, .bool (tl 5).op] 29) := ⟨_, rfl⟩
  have hd : Hds w4 w4.heap.size (some ⟨w3.heap.size, 0, none⟩) [tl 5, tl 3, tl 5] := by
    rw [hw4, World.size_alloc]
    exact hds_new w3 [tl 5, tl 3, tl 5] _ rfl
  have hb4 : Below w3.heap.size w3 w4 := by rw [hw4]; exact (Below.refl _ _).alloc (Nat.le_refl _) _
  have HD4 := Lib.hid hd
  have HB4 := Lib.hid (Below.on HB3.out hb4)
  have HW4 := Lib.hid hw4
  clear hd hb4 hw4
  have H2 := Lib.hid (next_any (some ⟨w3.heap.size, 0, none⟩) [tl 5, tl 3, tl 5] 3 3 w4 (HEW.out _ HB4.out) HD4.out rfl (by omega) (by omega) HFA.out)
  rw [ex_n] at H2
  go_upto_region 2 with fail
  rw [← HW4.out]
  obtain ⟨g, hg⟩ : ∃ g, g = w3.heap.size := ⟨_, rfl⟩
  rw [← hg] at HD4 H2 ⊢
  clear HW4 hg
  go_wp2_with fail
  refine H2.out.mono ?_
  rintro e w5 ⟨rfl, hb5⟩
  have HB5 := Lib.hid (Below.on HB4.out hb5)
  have HD5 := Lib.hid ((HD4.out.below hb5 (Nat.le_refl _)).more hb5.size)
  have H3 := Lib.hid (due_any 5 (some ⟨g, 0, none⟩) [tl 5, tl 3, tl 5] 3 3 w5 (HEW.out _ HB5.out) HD5.out rfl (by omega) (by omega) HFA.out)
  rw [ex_5] at H3
  clear hb5 H2 HD4
  go_wp2_with fail
  refine H3.out.mono ?_
  rintro e w6 ⟨v6, rfl, ho6, hb6⟩
  obtain ⟨A6, c6, rfl, hN6, hc6, hm6⟩ := nums_of ho6
  have HB6 := Lib.hid (Below.on HB5.out hb6)
  have HD6 := Lib.hid ((HD5.out.below hb6 (Nat.le_refl _)).more hb6.size)
  obtain ⟨w7, hw7⟩ : ∃ W, W = w6.alloc (.cells #[.int .i64 1] 3) := ⟨_, rfl⟩
  have hb7 : Below w6.heap.size w6 w7 := by rw [hw7]; exact (Below.refl _ _).alloc (Nat.le_refl _) _
  have h7 : Nums w7 w7.heap.size (some ⟨w6.heap.size, 0, none⟩) [1] := by rw [hw7, World.size_alloc]; exact nums_new w6 [1] _ rfl
  have HN7 : Hid (Nums w7 w7.heap.size A6 [1]) := (hN6.below hb7 (Nat.le_refl _)).more hb7.size
  have HB7 := Lib.hid (Below.on HB6.out hb7)
  have HD7 := Lib.hid ((HD6.out.below hb7 (Nat.le_refl _)).more hb7.size)
  have H4 := Lib.hid (same_any A6 (some ⟨w6.heap.size, 0, none⟩) [1] 1 c6 1 w7 HN7.out h7 rfl (by omega) hc6 (by omega))
  have HW7 := Lib.hid hw7
  obtain ⟨g6, hg6⟩ : ∃ g, g = w6.heap.size := ⟨_, rfl⟩
  rw [← hg6] at H4
  have HG6 := Lib.hid hg6
  clear hw7 hb7 h7 hN6 hb6 ho6 hm6 H3 hg6
  dsimp only [List.length_cons, List.length_nil, Nat.zero_add]
  go_wp2_with (rw [← HW7.out, ← HG6.out])
  refine H4.out.mono ?_
  rintro e w8 ⟨rfl, hb8⟩
  have HB8 := Lib.hid (Below.on HB7.out hb8)
  have HD8 := Lib.hid ((HD7.out.below hb8 (Nat.le_refl _)).more hb8.size)
  have H5 := Lib.hid (due_any 6 (some ⟨g, 0, none⟩) [tl 5, tl 3, tl 5] 3 3 w8 (HEW.out _ HB8.out) HD8.out rfl (by omega) (by omega) HFA.out)
  rw [ex_6] at H5
  clear hb8 H4 HW7 HG6
  go_wp2_with fail
  refine H5.out.mono ?_
  rintro e w9 ⟨v9, rfl, ho9, hb9⟩
  obtain ⟨A9, c9, rfl, hN9, hc9, hm9⟩ := nums_of ho9
  have HB9 := Lib.hid (Below.on HB8.out hb9)
  obtain ⟨wa, hwa⟩ : ∃ W, W = w9.alloc (.cells #[.int .i64 1, .int .i64 0, .int .i64 2] 3) := ⟨_, rfl⟩
  have hba : Below w9.heap.size w9 wa := by rw [hwa]; exact (Below.refl _ _).alloc (Nat.le_refl _) _
  have ha : Nums wa wa.heap.size (some ⟨w9.heap.size, 0, none⟩) [1, 0, 2] := by rw [hwa, World.size_alloc]; exact nums_new w9 [1, 0, 2] _ rfl
  have HNa : Hid (Nums wa wa.heap.size A9 [1, 0, 2]) := (hN9.below hba (Nat.le_refl _)).more hba.size
  have HBa := Lib.hid (Below.on HB9.out hba)
  have H6 := Lib.hid (same_any A9 (some ⟨w9.heap.size, 0, none⟩) [1, 0, 2] 3 c9 3 wa HNa.out ha rfl (by omega) hc9 (by omega))
  have HWa := Lib.hid hwa
  obtain ⟨g9, hg9⟩ : ∃ g, g = w9.heap.size := ⟨_, rfl⟩
  rw [← hg9] at H6
  have HG9 := Lib.hid hg9
  clear hwa hba ha hN9 hb9 ho9 hm9 H5 hg9
  dsimp only [List.length_cons, List.length_nil, Nat.zero_add]
  go_wp2_with (rw [← HWa.out, ← HG9.out])
  refine H6.out.mono ?_
  rintro e wb ⟨rfl, hbb⟩
  have HBb := Lib.hid (Below.on HBa.out hbb)
  go_wp2_with fail
  go_ret
  exact ⟨rfl, HBb.out⟩
end Go.Proofs.YtgnkcgmmmkfkkaaDoor.Hep
