/- The walk of the law ChartApart: two accounts that may be have the same name just if they are the same; a card's is behind an acquirer's, and one's is behind all that are less. Conditions: the two arrays of the program hold what their initialisers lay. -/
import Derived.Test.YtdlnpnomomgjkaaDoorLawB
import Derived.Deep.RegionWith
import Derived.Deep.CutRange
import Derived.BigRegion
namespace Go.Proofs.YtdlnpnomomgjkaaDoor
open Go.RowKit

theorem two_boxes (w : World) (k j : Int) (s t : ByteArray) (W : World) (h : W = ((w.alloc (.cells #[.int .i64 k, .string s] 23)).alloc (.cells #[.int .i64 j, .string t] 23)).drew) :
    W.cell? ⟨w.heap.size, 0, none⟩ = some (.int .i64 k) ∧ W.cell? ⟨w.heap.size, 1, none⟩ = some (.string s) ∧ W.cell? ⟨w.heap.size + 1, 0, none⟩ = some (.int .i64 j) ∧ W.cell? ⟨w.heap.size + 1, 1, none⟩ = some (.string t) ∧ Below w.heap.size w W ∧ w.heap.size + 1 < W.heap.size := by
  have hb1 := (Below.refl w.heap.size w).alloc (Nat.le_refl _) (.cells #[.int .i64 k, .string s] 23)
  have hb2 := (Below.refl (w.alloc (.cells #[.int .i64 k, .string s] 23)).heap.size (w.alloc (.cells #[.int .i64 k, .string s] 23))).alloc (Nat.le_refl _) (.cells #[.int .i64 j, .string t] 23)
  obtain ⟨a, b⟩ := box_at hb2.drew
  obtain ⟨c, d⟩ := box_at (Below.refl ((w.alloc (.cells #[.int .i64 k, .string s] 23)).alloc (.cells #[.int .i64 j, .string t] 23)).heap.size ((w.alloc (.cells #[.int .i64 k, .string s] 23)).alloc (.cells #[.int .i64 j, .string t] 23))).drew
  rw [alloc_size'] at c d
  subst h
  refine ⟨a, b, c, d, (Below.on hb1 hb2).drew, ?_⟩
  show _ < ((w.alloc (.cells #[.int .i64 k, .string s] 23)).alloc (.cells #[.int .i64 j, .string t] 23)).heap.size
  rw [alloc_size', alloc_size']
  omega

theorem nm_inj {k j : Int} {s t : ByteArray} (hm : mayA k s = true) (hn : mayA j t = true) (h : nmA k s = nmA j t) : k = j ∧ s = t := by
  have h1 := ps_back hm
  have h2 := ps_back hn
  rw [h, h2] at h1
  injection h1 with h1
  have := congrArg (fun x : Array Value => x[0]?) h1
  simp at this
  exact ⟨this.1.symm, this.2.symm⟩
theorem toL_ne {u v : ByteArray} (h : u ≠ v) : (u.toList == v.toList) = false := by
  rcases hb : (u.toList == v.toList) with _ | _
  · rfl
  · exfalso
    apply h
    have := eq_of_beq hb
    rw [ByteArray.toList_eq, ByteArray.toList_eq] at this
    exact ByteArray.ext (Array.toList_inj.1 this)
theorem less_irr (l : List UInt8) : Op.bytesLess l l = false := by
  rcases h : Op.bytesLess l l with _ | _
  · rfl
  · exfalso
    induction l with
    | nil => simp [Op.bytesLess] at h
    | cons x r ih => simp [Op.bytesLess] at h; exact ih h
theorem less_head (s t : ByteArray) : Op.bytesLess (nmA 2 s).toList (nmA 1 t).toList = true := by
  rw [ByteArray.toList_eq, ByteArray.toList_eq, nm_list, nm_list]
  show Op.bytesLess (65 :: s.data.toList) (67 :: t.data.toList) = true
  simp [Op.bytesLess]
theorem ord_lt {t u : ByteArray} (h : Op.bytesLess t.toList u.toList = true) : ordA t u < 0 := by
  have := ord_neg t u
  rw [h] at this
  exact of_decide_eq_true this
theorem ord_ge {t u : ByteArray} (h : Op.bytesLess t.toList u.toList = false) : ¬ ordA t u < 0 := by
  have := ord_neg t u
  rw [h] at this
  exact of_decide_eq_false this

set_option maxHeartbeats 12800000 in
theorem apart_walk (k j : Int) (s0 t0 : ByteArray) (w : World) (hE : Env w) (h1 : -9223372036854775808 ≤ k) (h2 : k ≤ 9223372036854775807) (h3 : -9223372036854775808 ≤ j) (h4 : j ≤ 9223372036854775807) (hs : s0.size ≤ 9223372036854775807) (ht : t0.size ≤ 9223372036854775807) :
    Calls Tryd.prog 5 #[acc k s0, acc j t0] w fun e w' => e = .returned (.bool true) ∧ Below w.heap.size w w' := by
  obtain ⟨s, hs4, hf⟩ := few_all s0 hs
  obtain ⟨t, ht4, hg⟩ := few_all t0 ht
  have F1 := Lib.hid hf
  have F2 := Lib.hid hg
  clear hf hg
  go_enter Tryd.func5, Tryd.ntmps5
  go_upto_region 1 with fail
  go_cut [] from 9 to 16 (fun wx => wx.cell? ⟨w.heap.size, 0, none⟩ = some (.int .i64 k) ∧ wx.cell? ⟨w.heap.size, 1, none⟩ = some (.string s) ∧ wx.cell? ⟨w.heap.size + 1, 0, none⟩ = some (.int .i64 j) ∧ wx.cell? ⟨w.heap.size + 1, 1, none⟩ = some (.string t) ∧ Below w.heap.size w wx ∧ w.heap.size + 1 < wx.heap.size)
  case first =>
    go_region_with (go_at_call 6; (first | (with_reducible refine (F1.out _).mono ?_) | (with_reducible refine (F2.out _).mono ?_)); rintro e w' ⟨rfl, rfl⟩)
    all_goals
      go_wp2
      go_meet
      exact two_boxes w k j s t _ rfl
  case rest =>
  obtain ⟨c0, c1, d0, d1, hb, hl⟩ := hcut
  have HW := Lib.hid awake_any
  rcases hm : mayA k s with _ | _
  · have HA := Lib.hid (fun W hEW => name_arg k s W hEW (by omega) h1 h2 hm)
    have HM := Lib.hid (fun W hEW => mayP_any k s W hEW (by omega) h1 h2)
    rw [hm] at HM
    obtain ⟨n2, e2, hB, hme⟩ : ∃ n2 e2, (∀ W, Env W → Calls Tryd.prog 7 #[acc j t] W fun e w' => e = .returned (.tuple #[.string n2, .int .i64 e2]) ∧ Below W.heap.size W w') ∧ ((e2 = 0 ∧ mayA j t = true) ∨ (e2 = 1 ∧ mayA j t = false)) := by
      rcases hn : mayA j t with _ | _
      · exact ⟨_, 1, fun W hEW => name_arg j t W hEW (by omega) h3 h4 hn, .inr ⟨rfl, rfl⟩⟩
      · exact ⟨_, 0, fun W hEW => name_ok j t W hEW (by omega) hn, .inl ⟨rfl, rfl⟩⟩
    have HB := Lib.hid hB
    have HN := Lib.hid (fun W hEW => mayP_any j t W hEW (by omega) h3 h4)
    clear hm hB
    rcases hme with ⟨rfl, hn⟩ | ⟨rfl, hn⟩ <;> rw [hn] at HN <;> clear hn
    all_goals
      go_wp2_with fail
      refine (HA.out _ (hE.below hb)).mono ?_
      rintro e w1 ⟨rfl, hb1⟩
      have hl1 : w.heap.size + 1 < w1.heap.size := Nat.lt_of_lt_of_le hl hb1.size
      replace c0 := (hb1.cell (p := ⟨w.heap.size, 0, none⟩) (show w.heap.size < _ by omega)).trans c0
      replace c1 := (hb1.cell (p := ⟨w.heap.size, 1, none⟩) (show w.heap.size < _ by omega)).trans c1
      replace d0 := (hb1.cell (p := ⟨w.heap.size + 1, 0, none⟩) hl).trans d0
      replace d1 := (hb1.cell (p := ⟨w.heap.size + 1, 1, none⟩) hl).trans d1
      have hb2 := Below.on hb hb1
      clear hb hb1 hl
      go_wp2_with fail
      refine (HB.out _ (hE.below hb2)).mono ?_
      rintro e w2 ⟨rfl, hb1⟩
      have hl2 : w.heap.size + 1 < w2.heap.size := Nat.lt_of_lt_of_le hl1 hb1.size
      replace c0 := (hb1.cell (p := ⟨w.heap.size, 0, none⟩) (show w.heap.size < _ by omega)).trans c0
      replace c1 := (hb1.cell (p := ⟨w.heap.size, 1, none⟩) (show w.heap.size < _ by omega)).trans c1
      replace d0 := (hb1.cell (p := ⟨w.heap.size + 1, 0, none⟩) hl1).trans d0
      replace d1 := (hb1.cell (p := ⟨w.heap.size + 1, 1, none⟩) hl1).trans d1
      have hb3 := Below.on hb2 hb1
      clear hb2 hb1 hl1
      go_wp2_with fail
      refine (HM.out _ (hE.below hb3)).mono ?_
      rintro e w3 ⟨rfl, hb1⟩
      replace d0 := (hb1.cell (p := ⟨w.heap.size + 1, 0, none⟩) hl2).trans d0
      replace d1 := (hb1.cell (p := ⟨w.heap.size + 1, 1, none⟩) hl2).trans d1
      have hb4 := Below.on hb3 hb1
      clear hb3 hb1 hl2 c0 c1
      go_wp2_with fail
    · refine (HW.out _ (hE.below hb4)).mono ?_
      rintro e w5 ⟨rfl, hb1⟩
      go_wp2_with fail
      go_ret
      exact ⟨rfl, Below.on hb4 hb1⟩
    · refine (HN.out _ (hE.below hb4)).mono ?_
      rintro e w4 ⟨rfl, hb1⟩
      have hb5 := Below.on hb4 hb1
      go_wp2_with fail
      refine (HW.out _ (hE.below hb5)).mono ?_
      rintro e w5 ⟨rfl, hb1⟩
      go_wp2_with fail
      go_ret
      exact ⟨rfl, Below.on hb5 hb1⟩
  · have HA := Lib.hid (fun W hEW => name_ok k s W hEW (by omega) hm)
    rcases hn : mayA j t with _ | _
    · have HB := Lib.hid (fun W hEW => name_arg j t W hEW (by omega) h3 h4 hn)
      have HN := Lib.hid (fun W hEW => mayP_any j t W hEW (by omega) h3 h4)
      rw [hn] at HN
      generalize nmA k s = u at *
      clear hm hn
      go_wp2_with fail
      refine (HA.out _ (hE.below hb)).mono ?_
      rintro e w1 ⟨rfl, hb1⟩
      have hl1 : w.heap.size + 1 < w1.heap.size := Nat.lt_of_lt_of_le hl hb1.size
      replace d0 := (hb1.cell (p := ⟨w.heap.size + 1, 0, none⟩) hl).trans d0
      replace d1 := (hb1.cell (p := ⟨w.heap.size + 1, 1, none⟩) hl).trans d1
      have hb2 := Below.on hb hb1
      clear hb hb1 hl c0 c1
      go_wp2_with fail
      refine (HB.out _ (hE.below hb2)).mono ?_
      rintro e w2 ⟨rfl, hb1⟩
      replace d0 := (hb1.cell (p := ⟨w.heap.size + 1, 0, none⟩) hl1).trans d0
      replace d1 := (hb1.cell (p := ⟨w.heap.size + 1, 1, none⟩) hl1).trans d1
      have hb3 := Below.on hb2 hb1
      clear hb2 hb1 hl1
      go_wp2_with fail
      refine (HN.out _ (hE.below hb3)).mono ?_
      rintro e w4 ⟨rfl, hb1⟩
      have hb5 := Below.on hb3 hb1
      go_wp2_with fail
      refine (HW.out _ (hE.below hb5)).mono ?_
      rintro e w5 ⟨rfl, hb1⟩
      go_wp2_with fail
      go_ret
      exact ⟨rfl, Below.on hb5 hb1⟩
    · have HB := Lib.hid (fun W hEW => name_ok j t W hEW (by omega) hn)
      have HO := Lib.hid (fun W hEW => order_any k j s t W hEW (by omega) (by omega) hm hn)
      obtain ⟨b, hbl⟩ : ∃ b, Op.bytesLess (nmA k s).toList (nmA j t).toList = b := ⟨_, rfl⟩
      have h21 : k = 2 ∧ j = 1 → b = true := fun h => by
        rw [← hbl, h.1, h.2]; exact less_head s t
      have hO2 := ord_neg (nmA k s) (nmA j t)
      rw [hbl] at hO2
      by_cases he : k = j ∧ s = t
      · obtain ⟨rfl, rfl⟩ := he
        have hb0 : b = false := by rw [← hbl]; exact less_irr _
        have hr0 : ordA (nmA k s) (nmA k s) = 0 := by
          unfold ordA
          rw [less_irr]
          simp [cmpB]
        rw [hr0] at HO
        rw [hb0] at hbl
        generalize nmA k s = u at *
        clear h21 hO2 hm hn hb0 hr0
        by_cases k2 : k = 2
        · subst k2
          go_wp2_with fail
          refine (HA.out _ (hE.below hb)).mono ?_
          rintro e w1 ⟨rfl, hb1⟩
          have hl1 : w.heap.size + 1 < w1.heap.size := Nat.lt_of_lt_of_le hl hb1.size
          replace c0 := (hb1.cell (p := ⟨w.heap.size, 0, none⟩) (show w.heap.size < _ by omega)).trans c0
          replace c1 := (hb1.cell (p := ⟨w.heap.size, 1, none⟩) (show w.heap.size < _ by omega)).trans c1
          replace d0 := (hb1.cell (p := ⟨w.heap.size + 1, 0, none⟩) hl).trans d0
          replace d1 := (hb1.cell (p := ⟨w.heap.size + 1, 1, none⟩) hl).trans d1
          have hb2 := Below.on hb hb1
          clear hb hb1 hl
          go_wp2_with fail
          refine (HB.out _ (hE.below hb2)).mono ?_
          rintro e w2 ⟨rfl, hb1⟩
          have hl2 : w.heap.size + 1 < w2.heap.size := Nat.lt_of_lt_of_le hl1 hb1.size
          replace c0 := (hb1.cell (p := ⟨w.heap.size, 0, none⟩) (show w.heap.size < _ by omega)).trans c0
          replace c1 := (hb1.cell (p := ⟨w.heap.size, 1, none⟩) (show w.heap.size < _ by omega)).trans c1
          replace d0 := (hb1.cell (p := ⟨w.heap.size + 1, 0, none⟩) hl1).trans d0
          replace d1 := (hb1.cell (p := ⟨w.heap.size + 1, 1, none⟩) hl1).trans d1
          have hb3 := Below.on hb2 hb1
          clear hb2 hb1 hl1
          go_wp2_with fail
          refine (HO.out _ (hE.below hb3)).mono ?_
          rintro e w3 ⟨rfl, hb1⟩
          have hl3 : w.heap.size + 1 < w3.heap.size := Nat.lt_of_lt_of_le hl2 hb1.size
          replace c0 := (hb1.cell (p := ⟨w.heap.size, 0, none⟩) (show w.heap.size < _ by omega)).trans c0
          replace c1 := (hb1.cell (p := ⟨w.heap.size, 1, none⟩) (show w.heap.size < _ by omega)).trans c1
          replace d0 := (hb1.cell (p := ⟨w.heap.size + 1, 0, none⟩) hl2).trans d0
          replace d1 := (hb1.cell (p := ⟨w.heap.size + 1, 1, none⟩) hl2).trans d1
          have hb4 := Below.on hb3 hb1
          clear hb3 hb1 hl2
          go_wp2_with fail
          refine (HW.out _ (hE.below hb4)).mono ?_
          rintro e w5 ⟨rfl, hb1⟩
          go_wp2_with fail
          go_ret
          exact ⟨rfl, Below.on hb4 hb1⟩
        · have k2' : (k == 2) = false := by simpa using k2
          go_wp2_with fail
          refine (HA.out _ (hE.below hb)).mono ?_
          rintro e w1 ⟨rfl, hb1⟩
          have hl1 : w.heap.size + 1 < w1.heap.size := Nat.lt_of_lt_of_le hl hb1.size
          replace c0 := (hb1.cell (p := ⟨w.heap.size, 0, none⟩) (show w.heap.size < _ by omega)).trans c0
          replace c1 := (hb1.cell (p := ⟨w.heap.size, 1, none⟩) (show w.heap.size < _ by omega)).trans c1
          replace d0 := (hb1.cell (p := ⟨w.heap.size + 1, 0, none⟩) hl).trans d0
          replace d1 := (hb1.cell (p := ⟨w.heap.size + 1, 1, none⟩) hl).trans d1
          have hb2 := Below.on hb hb1
          clear hb hb1 hl
          go_wp2_with fail
          refine (HB.out _ (hE.below hb2)).mono ?_
          rintro e w2 ⟨rfl, hb1⟩
          have hl2 : w.heap.size + 1 < w2.heap.size := Nat.lt_of_lt_of_le hl1 hb1.size
          replace c0 := (hb1.cell (p := ⟨w.heap.size, 0, none⟩) (show w.heap.size < _ by omega)).trans c0
          replace c1 := (hb1.cell (p := ⟨w.heap.size, 1, none⟩) (show w.heap.size < _ by omega)).trans c1
          replace d0 := (hb1.cell (p := ⟨w.heap.size + 1, 0, none⟩) hl1).trans d0
          replace d1 := (hb1.cell (p := ⟨w.heap.size + 1, 1, none⟩) hl1).trans d1
          have hb3 := Below.on hb2 hb1
          clear hb2 hb1 hl1
          go_wp2_with fail
          refine (HO.out _ (hE.below hb3)).mono ?_
          rintro e w3 ⟨rfl, hb1⟩
          have hl3 : w.heap.size + 1 < w3.heap.size := Nat.lt_of_lt_of_le hl2 hb1.size
          replace c0 := (hb1.cell (p := ⟨w.heap.size, 0, none⟩) (show w.heap.size < _ by omega)).trans c0
          replace c1 := (hb1.cell (p := ⟨w.heap.size, 1, none⟩) (show w.heap.size < _ by omega)).trans c1
          replace d0 := (hb1.cell (p := ⟨w.heap.size + 1, 0, none⟩) hl2).trans d0
          replace d1 := (hb1.cell (p := ⟨w.heap.size + 1, 1, none⟩) hl2).trans d1
          have hb4 := Below.on hb3 hb1
          clear hb3 hb1 hl2
          go_wp2_with fail
          refine (HW.out _ (hE.below hb4)).mono ?_
          rintro e w5 ⟨rfl, hb1⟩
          go_wp2_with fail
          go_ret
          exact ⟨rfl, Below.on hb4 hb1⟩
      · have hne : nmA k s ≠ nmA j t := fun h => he (nm_inj hm hn h)
        have hne2 := toL_ne hne
        have hst : ¬ k = j ∨ (k = j ∧ (s.toList == t.toList) = false) := by
          rcases Decidable.em (k = j) with h | h
          · exact .inr ⟨h, toL_ne (fun h' => he ⟨h, h'⟩)⟩
          · exact .inl h
        generalize ordA (nmA k s) (nmA j t) = r at *
        generalize nmA k s = u at *
        generalize nmA j t = v at *
        clear he hm hn hne
        have hk2 : k = 2 ∨ ¬ k = 2 := Decidable.em _
        have hj1 : j = 1 ∨ ¬ j = 1 := Decidable.em _
        rcases hst with hkj | ⟨rfl, hst⟩
        · have hkj' : (k == j) = false := by simpa using hkj
          cases b with
          | false =>
            have hr : ¬ r < 0 := of_decide_eq_false hO2
            clear hO2
            rcases hk2 with rfl | hk2
            · rcases hj1 with rfl | hj1
              · exact absurd (h21 ⟨rfl, rfl⟩) (by decide)
              · have hj1' : (j == 1) = false := by simpa using hj1
                clear h21
                go_wp2_with fail
                refine (HA.out _ (hE.below hb)).mono ?_
                rintro e w1 ⟨rfl, hb1⟩
                have hl1 : w.heap.size + 1 < w1.heap.size := Nat.lt_of_lt_of_le hl hb1.size
                replace c0 := (hb1.cell (p := ⟨w.heap.size, 0, none⟩) (show w.heap.size < _ by omega)).trans c0
                replace c1 := (hb1.cell (p := ⟨w.heap.size, 1, none⟩) (show w.heap.size < _ by omega)).trans c1
                replace d0 := (hb1.cell (p := ⟨w.heap.size + 1, 0, none⟩) hl).trans d0
                replace d1 := (hb1.cell (p := ⟨w.heap.size + 1, 1, none⟩) hl).trans d1
                have hb2 := Below.on hb hb1
                clear hb hb1 hl
                go_wp2_with fail
                refine (HB.out _ (hE.below hb2)).mono ?_
                rintro e w2 ⟨rfl, hb1⟩
                have hl2 : w.heap.size + 1 < w2.heap.size := Nat.lt_of_lt_of_le hl1 hb1.size
                replace c0 := (hb1.cell (p := ⟨w.heap.size, 0, none⟩) (show w.heap.size < _ by omega)).trans c0
                replace c1 := (hb1.cell (p := ⟨w.heap.size, 1, none⟩) (show w.heap.size < _ by omega)).trans c1
                replace d0 := (hb1.cell (p := ⟨w.heap.size + 1, 0, none⟩) hl1).trans d0
                replace d1 := (hb1.cell (p := ⟨w.heap.size + 1, 1, none⟩) hl1).trans d1
                have hb3 := Below.on hb2 hb1
                clear hb2 hb1 hl1
                go_wp2_with fail
                refine (HO.out _ (hE.below hb3)).mono ?_
                rintro e w3 ⟨rfl, hb1⟩
                have hl3 : w.heap.size + 1 < w3.heap.size := Nat.lt_of_lt_of_le hl2 hb1.size
                replace c0 := (hb1.cell (p := ⟨w.heap.size, 0, none⟩) (show w.heap.size < _ by omega)).trans c0
                replace c1 := (hb1.cell (p := ⟨w.heap.size, 1, none⟩) (show w.heap.size < _ by omega)).trans c1
                replace d0 := (hb1.cell (p := ⟨w.heap.size + 1, 0, none⟩) hl2).trans d0
                replace d1 := (hb1.cell (p := ⟨w.heap.size + 1, 1, none⟩) hl2).trans d1
                have hb4 := Below.on hb3 hb1
                clear hb3 hb1 hl2
                go_wp2_with fail
                refine (HW.out _ (hE.below hb4)).mono ?_
                rintro e w5 ⟨rfl, hb1⟩
                go_wp2_with fail
                go_ret
                exact ⟨retb (by rw [decide_eq_false (show ¬ r < 0 by omega)]; rfl), Below.on hb4 hb1⟩
            · have hk2' : (k == 2) = false := by simpa using hk2
              clear h21 hj1
              go_wp2_with fail
              refine (HA.out _ (hE.below hb)).mono ?_
              rintro e w1 ⟨rfl, hb1⟩
              have hl1 : w.heap.size + 1 < w1.heap.size := Nat.lt_of_lt_of_le hl hb1.size
              replace c0 := (hb1.cell (p := ⟨w.heap.size, 0, none⟩) (show w.heap.size < _ by omega)).trans c0
              replace c1 := (hb1.cell (p := ⟨w.heap.size, 1, none⟩) (show w.heap.size < _ by omega)).trans c1
              replace d0 := (hb1.cell (p := ⟨w.heap.size + 1, 0, none⟩) hl).trans d0
              replace d1 := (hb1.cell (p := ⟨w.heap.size + 1, 1, none⟩) hl).trans d1
              have hb2 := Below.on hb hb1
              clear hb hb1 hl
              go_wp2_with fail
              refine (HB.out _ (hE.below hb2)).mono ?_
              rintro e w2 ⟨rfl, hb1⟩
              have hl2 : w.heap.size + 1 < w2.heap.size := Nat.lt_of_lt_of_le hl1 hb1.size
              replace c0 := (hb1.cell (p := ⟨w.heap.size, 0, none⟩) (show w.heap.size < _ by omega)).trans c0
              replace c1 := (hb1.cell (p := ⟨w.heap.size, 1, none⟩) (show w.heap.size < _ by omega)).trans c1
              replace d0 := (hb1.cell (p := ⟨w.heap.size + 1, 0, none⟩) hl1).trans d0
              replace d1 := (hb1.cell (p := ⟨w.heap.size + 1, 1, none⟩) hl1).trans d1
              have hb3 := Below.on hb2 hb1
              clear hb2 hb1 hl1
              go_wp2_with fail
              refine (HO.out _ (hE.below hb3)).mono ?_
              rintro e w3 ⟨rfl, hb1⟩
              have hl3 : w.heap.size + 1 < w3.heap.size := Nat.lt_of_lt_of_le hl2 hb1.size
              replace c0 := (hb1.cell (p := ⟨w.heap.size, 0, none⟩) (show w.heap.size < _ by omega)).trans c0
              replace c1 := (hb1.cell (p := ⟨w.heap.size, 1, none⟩) (show w.heap.size < _ by omega)).trans c1
              replace d0 := (hb1.cell (p := ⟨w.heap.size + 1, 0, none⟩) hl2).trans d0
              replace d1 := (hb1.cell (p := ⟨w.heap.size + 1, 1, none⟩) hl2).trans d1
              have hb4 := Below.on hb3 hb1
              clear hb3 hb1 hl2
              go_wp2_with fail
              refine (HW.out _ (hE.below hb4)).mono ?_
              rintro e w5 ⟨rfl, hb1⟩
              go_wp2_with fail
              go_ret
              exact ⟨retb (by rw [decide_eq_false (show ¬ r < 0 by omega)]; rfl), Below.on hb4 hb1⟩
          | true =>
            have hr : r < 0 := of_decide_eq_true hO2
            clear hO2 h21
            rcases hk2 with rfl | hk2
            · rcases hj1 with rfl | hj1
              · skip
                go_wp2_with fail
                refine (HA.out _ (hE.below hb)).mono ?_
                rintro e w1 ⟨rfl, hb1⟩
                have hl1 : w.heap.size + 1 < w1.heap.size := Nat.lt_of_lt_of_le hl hb1.size
                replace c0 := (hb1.cell (p := ⟨w.heap.size, 0, none⟩) (show w.heap.size < _ by omega)).trans c0
                replace c1 := (hb1.cell (p := ⟨w.heap.size, 1, none⟩) (show w.heap.size < _ by omega)).trans c1
                replace d0 := (hb1.cell (p := ⟨w.heap.size + 1, 0, none⟩) hl).trans d0
                replace d1 := (hb1.cell (p := ⟨w.heap.size + 1, 1, none⟩) hl).trans d1
                have hb2 := Below.on hb hb1
                clear hb hb1 hl
                go_wp2_with fail
                refine (HB.out _ (hE.below hb2)).mono ?_
                rintro e w2 ⟨rfl, hb1⟩
                have hl2 : w.heap.size + 1 < w2.heap.size := Nat.lt_of_lt_of_le hl1 hb1.size
                replace c0 := (hb1.cell (p := ⟨w.heap.size, 0, none⟩) (show w.heap.size < _ by omega)).trans c0
                replace c1 := (hb1.cell (p := ⟨w.heap.size, 1, none⟩) (show w.heap.size < _ by omega)).trans c1
                replace d0 := (hb1.cell (p := ⟨w.heap.size + 1, 0, none⟩) hl1).trans d0
                replace d1 := (hb1.cell (p := ⟨w.heap.size + 1, 1, none⟩) hl1).trans d1
                have hb3 := Below.on hb2 hb1
                clear hb2 hb1 hl1
                go_wp2_with fail
                refine (HO.out _ (hE.below hb3)).mono ?_
                rintro e w3 ⟨rfl, hb1⟩
                have hl3 : w.heap.size + 1 < w3.heap.size := Nat.lt_of_lt_of_le hl2 hb1.size
                replace c0 := (hb1.cell (p := ⟨w.heap.size, 0, none⟩) (show w.heap.size < _ by omega)).trans c0
                replace c1 := (hb1.cell (p := ⟨w.heap.size, 1, none⟩) (show w.heap.size < _ by omega)).trans c1
                replace d0 := (hb1.cell (p := ⟨w.heap.size + 1, 0, none⟩) hl2).trans d0
                replace d1 := (hb1.cell (p := ⟨w.heap.size + 1, 1, none⟩) hl2).trans d1
                have hb4 := Below.on hb3 hb1
                clear hb3 hb1 hl2
                go_wp2_with fail
                refine (HO.out _ (hE.below hb4)).mono ?_
                rintro e w4 ⟨rfl, hb1⟩
                have hb5 := Below.on hb4 hb1
                go_wp2_with fail
                refine (HW.out _ (hE.below hb5)).mono ?_
                rintro e w5 ⟨rfl, hb1⟩
                go_wp2_with fail
                go_ret
                exact ⟨rfl, Below.on hb5 hb1⟩
              · have hj1' : (j == 1) = false := by simpa using hj1
                go_wp2_with fail
                refine (HA.out _ (hE.below hb)).mono ?_
                rintro e w1 ⟨rfl, hb1⟩
                have hl1 : w.heap.size + 1 < w1.heap.size := Nat.lt_of_lt_of_le hl hb1.size
                replace c0 := (hb1.cell (p := ⟨w.heap.size, 0, none⟩) (show w.heap.size < _ by omega)).trans c0
                replace c1 := (hb1.cell (p := ⟨w.heap.size, 1, none⟩) (show w.heap.size < _ by omega)).trans c1
                replace d0 := (hb1.cell (p := ⟨w.heap.size + 1, 0, none⟩) hl).trans d0
                replace d1 := (hb1.cell (p := ⟨w.heap.size + 1, 1, none⟩) hl).trans d1
                have hb2 := Below.on hb hb1
                clear hb hb1 hl
                go_wp2_with fail
                refine (HB.out _ (hE.below hb2)).mono ?_
                rintro e w2 ⟨rfl, hb1⟩
                have hl2 : w.heap.size + 1 < w2.heap.size := Nat.lt_of_lt_of_le hl1 hb1.size
                replace c0 := (hb1.cell (p := ⟨w.heap.size, 0, none⟩) (show w.heap.size < _ by omega)).trans c0
                replace c1 := (hb1.cell (p := ⟨w.heap.size, 1, none⟩) (show w.heap.size < _ by omega)).trans c1
                replace d0 := (hb1.cell (p := ⟨w.heap.size + 1, 0, none⟩) hl1).trans d0
                replace d1 := (hb1.cell (p := ⟨w.heap.size + 1, 1, none⟩) hl1).trans d1
                have hb3 := Below.on hb2 hb1
                clear hb2 hb1 hl1
                go_wp2_with fail
                refine (HO.out _ (hE.below hb3)).mono ?_
                rintro e w3 ⟨rfl, hb1⟩
                have hl3 : w.heap.size + 1 < w3.heap.size := Nat.lt_of_lt_of_le hl2 hb1.size
                replace c0 := (hb1.cell (p := ⟨w.heap.size, 0, none⟩) (show w.heap.size < _ by omega)).trans c0
                replace c1 := (hb1.cell (p := ⟨w.heap.size, 1, none⟩) (show w.heap.size < _ by omega)).trans c1
                replace d0 := (hb1.cell (p := ⟨w.heap.size + 1, 0, none⟩) hl2).trans d0
                replace d1 := (hb1.cell (p := ⟨w.heap.size + 1, 1, none⟩) hl2).trans d1
                have hb4 := Below.on hb3 hb1
                clear hb3 hb1 hl2
                go_wp2_with fail
                refine (HW.out _ (hE.below hb4)).mono ?_
                rintro e w5 ⟨rfl, hb1⟩
                go_wp2_with fail
                go_ret
                exact ⟨rfl, Below.on hb4 hb1⟩
            · have hk2' : (k == 2) = false := by simpa using hk2
              clear hj1
              go_wp2_with fail
              refine (HA.out _ (hE.below hb)).mono ?_
              rintro e w1 ⟨rfl, hb1⟩
              have hl1 : w.heap.size + 1 < w1.heap.size := Nat.lt_of_lt_of_le hl hb1.size
              replace c0 := (hb1.cell (p := ⟨w.heap.size, 0, none⟩) (show w.heap.size < _ by omega)).trans c0
              replace c1 := (hb1.cell (p := ⟨w.heap.size, 1, none⟩) (show w.heap.size < _ by omega)).trans c1
              replace d0 := (hb1.cell (p := ⟨w.heap.size + 1, 0, none⟩) hl).trans d0
              replace d1 := (hb1.cell (p := ⟨w.heap.size + 1, 1, none⟩) hl).trans d1
              have hb2 := Below.on hb hb1
              clear hb hb1 hl
              go_wp2_with fail
              refine (HB.out _ (hE.below hb2)).mono ?_
              rintro e w2 ⟨rfl, hb1⟩
              have hl2 : w.heap.size + 1 < w2.heap.size := Nat.lt_of_lt_of_le hl1 hb1.size
              replace c0 := (hb1.cell (p := ⟨w.heap.size, 0, none⟩) (show w.heap.size < _ by omega)).trans c0
              replace c1 := (hb1.cell (p := ⟨w.heap.size, 1, none⟩) (show w.heap.size < _ by omega)).trans c1
              replace d0 := (hb1.cell (p := ⟨w.heap.size + 1, 0, none⟩) hl1).trans d0
              replace d1 := (hb1.cell (p := ⟨w.heap.size + 1, 1, none⟩) hl1).trans d1
              have hb3 := Below.on hb2 hb1
              clear hb2 hb1 hl1
              go_wp2_with fail
              refine (HO.out _ (hE.below hb3)).mono ?_
              rintro e w3 ⟨rfl, hb1⟩
              have hl3 : w.heap.size + 1 < w3.heap.size := Nat.lt_of_lt_of_le hl2 hb1.size
              replace c0 := (hb1.cell (p := ⟨w.heap.size, 0, none⟩) (show w.heap.size < _ by omega)).trans c0
              replace c1 := (hb1.cell (p := ⟨w.heap.size, 1, none⟩) (show w.heap.size < _ by omega)).trans c1
              replace d0 := (hb1.cell (p := ⟨w.heap.size + 1, 0, none⟩) hl2).trans d0
              replace d1 := (hb1.cell (p := ⟨w.heap.size + 1, 1, none⟩) hl2).trans d1
              have hb4 := Below.on hb3 hb1
              clear hb3 hb1 hl2
              go_wp2_with fail
              refine (HW.out _ (hE.below hb4)).mono ?_
              rintro e w5 ⟨rfl, hb1⟩
              go_wp2_with fail
              go_ret
              exact ⟨rfl, Below.on hb4 hb1⟩
        · clear h21 hj1
          rcases hk2 with rfl | hk2
          · cases b with
            | false =>
              have hr : ¬ r < 0 := of_decide_eq_false hO2
              clear hO2
              go_wp2_with fail
              refine (HA.out _ (hE.below hb)).mono ?_
              rintro e w1 ⟨rfl, hb1⟩
              have hl1 : w.heap.size + 1 < w1.heap.size := Nat.lt_of_lt_of_le hl hb1.size
              replace c0 := (hb1.cell (p := ⟨w.heap.size, 0, none⟩) (show w.heap.size < _ by omega)).trans c0
              replace c1 := (hb1.cell (p := ⟨w.heap.size, 1, none⟩) (show w.heap.size < _ by omega)).trans c1
              replace d0 := (hb1.cell (p := ⟨w.heap.size + 1, 0, none⟩) hl).trans d0
              replace d1 := (hb1.cell (p := ⟨w.heap.size + 1, 1, none⟩) hl).trans d1
              have hb2 := Below.on hb hb1
              clear hb hb1 hl
              go_wp2_with fail
              refine (HB.out _ (hE.below hb2)).mono ?_
              rintro e w2 ⟨rfl, hb1⟩
              have hl2 : w.heap.size + 1 < w2.heap.size := Nat.lt_of_lt_of_le hl1 hb1.size
              replace c0 := (hb1.cell (p := ⟨w.heap.size, 0, none⟩) (show w.heap.size < _ by omega)).trans c0
              replace c1 := (hb1.cell (p := ⟨w.heap.size, 1, none⟩) (show w.heap.size < _ by omega)).trans c1
              replace d0 := (hb1.cell (p := ⟨w.heap.size + 1, 0, none⟩) hl1).trans d0
              replace d1 := (hb1.cell (p := ⟨w.heap.size + 1, 1, none⟩) hl1).trans d1
              have hb3 := Below.on hb2 hb1
              clear hb2 hb1 hl1
              go_wp2_with fail
              refine (HO.out _ (hE.below hb3)).mono ?_
              rintro e w3 ⟨rfl, hb1⟩
              have hl3 : w.heap.size + 1 < w3.heap.size := Nat.lt_of_lt_of_le hl2 hb1.size
              replace c0 := (hb1.cell (p := ⟨w.heap.size, 0, none⟩) (show w.heap.size < _ by omega)).trans c0
              replace c1 := (hb1.cell (p := ⟨w.heap.size, 1, none⟩) (show w.heap.size < _ by omega)).trans c1
              replace d0 := (hb1.cell (p := ⟨w.heap.size + 1, 0, none⟩) hl2).trans d0
              replace d1 := (hb1.cell (p := ⟨w.heap.size + 1, 1, none⟩) hl2).trans d1
              have hb4 := Below.on hb3 hb1
              clear hb3 hb1 hl2
              go_wp2_with fail
              refine (HW.out _ (hE.below hb4)).mono ?_
              rintro e w5 ⟨rfl, hb1⟩
              go_wp2_with fail
              go_ret
              exact ⟨retb (by rw [decide_eq_false (show ¬ r < 0 by omega)]; rfl), Below.on hb4 hb1⟩
            | true =>
              have hr : r < 0 := of_decide_eq_true hO2
              clear hO2
              go_wp2_with fail
              refine (HA.out _ (hE.below hb)).mono ?_
              rintro e w1 ⟨rfl, hb1⟩
              have hl1 : w.heap.size + 1 < w1.heap.size := Nat.lt_of_lt_of_le hl hb1.size
              replace c0 := (hb1.cell (p := ⟨w.heap.size, 0, none⟩) (show w.heap.size < _ by omega)).trans c0
              replace c1 := (hb1.cell (p := ⟨w.heap.size, 1, none⟩) (show w.heap.size < _ by omega)).trans c1
              replace d0 := (hb1.cell (p := ⟨w.heap.size + 1, 0, none⟩) hl).trans d0
              replace d1 := (hb1.cell (p := ⟨w.heap.size + 1, 1, none⟩) hl).trans d1
              have hb2 := Below.on hb hb1
              clear hb hb1 hl
              go_wp2_with fail
              refine (HB.out _ (hE.below hb2)).mono ?_
              rintro e w2 ⟨rfl, hb1⟩
              have hl2 : w.heap.size + 1 < w2.heap.size := Nat.lt_of_lt_of_le hl1 hb1.size
              replace c0 := (hb1.cell (p := ⟨w.heap.size, 0, none⟩) (show w.heap.size < _ by omega)).trans c0
              replace c1 := (hb1.cell (p := ⟨w.heap.size, 1, none⟩) (show w.heap.size < _ by omega)).trans c1
              replace d0 := (hb1.cell (p := ⟨w.heap.size + 1, 0, none⟩) hl1).trans d0
              replace d1 := (hb1.cell (p := ⟨w.heap.size + 1, 1, none⟩) hl1).trans d1
              have hb3 := Below.on hb2 hb1
              clear hb2 hb1 hl1
              go_wp2_with fail
              refine (HO.out _ (hE.below hb3)).mono ?_
              rintro e w3 ⟨rfl, hb1⟩
              have hl3 : w.heap.size + 1 < w3.heap.size := Nat.lt_of_lt_of_le hl2 hb1.size
              replace c0 := (hb1.cell (p := ⟨w.heap.size, 0, none⟩) (show w.heap.size < _ by omega)).trans c0
              replace c1 := (hb1.cell (p := ⟨w.heap.size, 1, none⟩) (show w.heap.size < _ by omega)).trans c1
              replace d0 := (hb1.cell (p := ⟨w.heap.size + 1, 0, none⟩) hl2).trans d0
              replace d1 := (hb1.cell (p := ⟨w.heap.size + 1, 1, none⟩) hl2).trans d1
              have hb4 := Below.on hb3 hb1
              clear hb3 hb1 hl2
              go_wp2_with fail
              refine (HW.out _ (hE.below hb4)).mono ?_
              rintro e w5 ⟨rfl, hb1⟩
              go_wp2_with fail
              go_ret
              exact ⟨rfl, Below.on hb4 hb1⟩
          · have hk2' : (k == 2) = false := by simpa using hk2
            cases b with
            | false =>
              have hr : ¬ r < 0 := of_decide_eq_false hO2
              clear hO2
              go_wp2_with fail
              refine (HA.out _ (hE.below hb)).mono ?_
              rintro e w1 ⟨rfl, hb1⟩
              have hl1 : w.heap.size + 1 < w1.heap.size := Nat.lt_of_lt_of_le hl hb1.size
              replace c0 := (hb1.cell (p := ⟨w.heap.size, 0, none⟩) (show w.heap.size < _ by omega)).trans c0
              replace c1 := (hb1.cell (p := ⟨w.heap.size, 1, none⟩) (show w.heap.size < _ by omega)).trans c1
              replace d0 := (hb1.cell (p := ⟨w.heap.size + 1, 0, none⟩) hl).trans d0
              replace d1 := (hb1.cell (p := ⟨w.heap.size + 1, 1, none⟩) hl).trans d1
              have hb2 := Below.on hb hb1
              clear hb hb1 hl
              go_wp2_with fail
              refine (HB.out _ (hE.below hb2)).mono ?_
              rintro e w2 ⟨rfl, hb1⟩
              have hl2 : w.heap.size + 1 < w2.heap.size := Nat.lt_of_lt_of_le hl1 hb1.size
              replace c0 := (hb1.cell (p := ⟨w.heap.size, 0, none⟩) (show w.heap.size < _ by omega)).trans c0
              replace c1 := (hb1.cell (p := ⟨w.heap.size, 1, none⟩) (show w.heap.size < _ by omega)).trans c1
              replace d0 := (hb1.cell (p := ⟨w.heap.size + 1, 0, none⟩) hl1).trans d0
              replace d1 := (hb1.cell (p := ⟨w.heap.size + 1, 1, none⟩) hl1).trans d1
              have hb3 := Below.on hb2 hb1
              clear hb2 hb1 hl1
              go_wp2_with fail
              refine (HO.out _ (hE.below hb3)).mono ?_
              rintro e w3 ⟨rfl, hb1⟩
              have hl3 : w.heap.size + 1 < w3.heap.size := Nat.lt_of_lt_of_le hl2 hb1.size
              replace c0 := (hb1.cell (p := ⟨w.heap.size, 0, none⟩) (show w.heap.size < _ by omega)).trans c0
              replace c1 := (hb1.cell (p := ⟨w.heap.size, 1, none⟩) (show w.heap.size < _ by omega)).trans c1
              replace d0 := (hb1.cell (p := ⟨w.heap.size + 1, 0, none⟩) hl2).trans d0
              replace d1 := (hb1.cell (p := ⟨w.heap.size + 1, 1, none⟩) hl2).trans d1
              have hb4 := Below.on hb3 hb1
              clear hb3 hb1 hl2
              go_wp2_with fail
              refine (HW.out _ (hE.below hb4)).mono ?_
              rintro e w5 ⟨rfl, hb1⟩
              go_wp2_with fail
              go_ret
              exact ⟨retb (by rw [decide_eq_false (show ¬ r < 0 by omega)]; rfl), Below.on hb4 hb1⟩
            | true =>
              have hr : r < 0 := of_decide_eq_true hO2
              clear hO2
              go_wp2_with fail
              refine (HA.out _ (hE.below hb)).mono ?_
              rintro e w1 ⟨rfl, hb1⟩
              have hl1 : w.heap.size + 1 < w1.heap.size := Nat.lt_of_lt_of_le hl hb1.size
              replace c0 := (hb1.cell (p := ⟨w.heap.size, 0, none⟩) (show w.heap.size < _ by omega)).trans c0
              replace c1 := (hb1.cell (p := ⟨w.heap.size, 1, none⟩) (show w.heap.size < _ by omega)).trans c1
              replace d0 := (hb1.cell (p := ⟨w.heap.size + 1, 0, none⟩) hl).trans d0
              replace d1 := (hb1.cell (p := ⟨w.heap.size + 1, 1, none⟩) hl).trans d1
              have hb2 := Below.on hb hb1
              clear hb hb1 hl
              go_wp2_with fail
              refine (HB.out _ (hE.below hb2)).mono ?_
              rintro e w2 ⟨rfl, hb1⟩
              have hl2 : w.heap.size + 1 < w2.heap.size := Nat.lt_of_lt_of_le hl1 hb1.size
              replace c0 := (hb1.cell (p := ⟨w.heap.size, 0, none⟩) (show w.heap.size < _ by omega)).trans c0
              replace c1 := (hb1.cell (p := ⟨w.heap.size, 1, none⟩) (show w.heap.size < _ by omega)).trans c1
              replace d0 := (hb1.cell (p := ⟨w.heap.size + 1, 0, none⟩) hl1).trans d0
              replace d1 := (hb1.cell (p := ⟨w.heap.size + 1, 1, none⟩) hl1).trans d1
              have hb3 := Below.on hb2 hb1
              clear hb2 hb1 hl1
              go_wp2_with fail
              refine (HO.out _ (hE.below hb3)).mono ?_
              rintro e w3 ⟨rfl, hb1⟩
              have hl3 : w.heap.size + 1 < w3.heap.size := Nat.lt_of_lt_of_le hl2 hb1.size
              replace c0 := (hb1.cell (p := ⟨w.heap.size, 0, none⟩) (show w.heap.size < _ by omega)).trans c0
              replace c1 := (hb1.cell (p := ⟨w.heap.size, 1, none⟩) (show w.heap.size < _ by omega)).trans c1
              replace d0 := (hb1.cell (p := ⟨w.heap.size + 1, 0, none⟩) hl2).trans d0
              replace d1 := (hb1.cell (p := ⟨w.heap.size + 1, 1, none⟩) hl2).trans d1
              have hb4 := Below.on hb3 hb1
              clear hb3 hb1 hl2
              go_wp2_with fail
              refine (HW.out _ (hE.below hb4)).mono ?_
              rintro e w5 ⟨rfl, hb1⟩
              go_wp2_with fail
              go_ret
              exact ⟨rfl, Below.on hb4 hb1⟩
end Go.Proofs.YtdlnpnomomgjkaaDoor
