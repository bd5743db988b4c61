/- The walk of the law ChartNames: which accounts may be, and each one's name, is as the document says, or it is refused; it is parsed as it was. Conditions: the two arrays of the program hold what their initialisers lay. -/
import Derived.Test.YtdlnpnomomgjkaaDoorC6
namespace Go.Proofs.YtdlnpnomomgjkaaDoor
open Go.RowKit

/-- A name is parsed as it was. -/
theorem ps_back {k : Int} {s : ByteArray} (h : mayA k s = true) : psR (nmA k s) = .tuple #[acc k s, .int .i64 0] := by
  have hk := may_in h
  have hd : hdB (ltA k) (nmA k s) = true := by unfold hdB; rw [nm_list]; simp
  have ht : tlA (nmA k s) = s := by
    have := tl_list (nmA k s)
    rw [nm_list] at this
    apply ByteArray.ext
    apply Array.toList_inj.1
    simpa using this
  unfold psR
  rw [kd_at hk.1 hk.2.1 hd, ht]
  exact acR_t h
theorem nm_size (k : Int) (s : ByteArray) : (nmA k s).size = s.size + 1 := by
  rw [← lsz, nm_list, List.length_cons, lsz]
theorem box_at {w w1 : World} {k : Int} {t : ByteArray} {T : TypeId} (hb : Below (w.alloc (.cells #[.int .i64 k, .string t] T)).heap.size (w.alloc (.cells #[.int .i64 k, .string t] T)) w1) :
    w1.cell? ⟨w.heap.size, 0, none⟩ = some (.int .i64 k) ∧ w1.cell? ⟨w.heap.size, 1, none⟩ = some (.string t) := by
  have hl : w.heap.size < (w.alloc (.cells #[.int .i64 k, .string t] T)).heap.size := by simp
  exact ⟨(hb.cell (show w.heap.size < _ from hl)).trans (World.cell?_alloc_new _ _ _ _), (hb.cell (show w.heap.size < _ from hl)).trans (World.cell?_alloc_new _ _ _ _)⟩

set_option maxHeartbeats 3200000 in
theorem names_walk (k : Int) (s : ByteArray) (w : World) (hE : Env w) (h1 : -9223372036854775808 ≤ k) (h2 : k ≤ 9223372036854775807) (hm : s.size ≤ 9223372036854775807) :
    Calls Tryd.prog 3 #[acc k s] w fun e w' => e = .returned (.bool true) ∧ Below w.heap.size w w' := by
  obtain ⟨t, ht, hf⟩ : ∃ t : ByteArray, t.size ≤ 40 ∧ ∀ W, Calls Tryd.prog 6 #[.string s] W fun e w' => e = .returned (.string t) ∧ W = w' := by
    obtain ⟨t, ht, _⟩ := few_any s w hm
    by_cases h : s.size ≤ 40
    · exact ⟨s, h, fun W => few_short s W h⟩
    · exact ⟨s.extract 0 40, by rw [ByteArray.size_extract]; omega, fun W => few_long s W (by omega) hm⟩
  have HF := Lib.hid hf
  clear hf
  have hb0 := (Below.refl w.heap.size w).alloc (Nat.le_refl _) (.cells #[.int .i64 k, .string t] 23)
  have HW := Lib.hid awake_any
  rcases hmm : mayA k t with _ | _
  · have HA := Lib.hid (fun W hEW => name_arg k t W hEW (by omega) h1 h2 hmm)
    have HB := Lib.hid (fun W => rname_no k t W (by omega) hmm)
    have HM := Lib.hid (fun W hEW => mayP_any k t W hEW (by omega) h1 h2)
    have HP := Lib.hid (fun W hEW => parse_any ⟨#[]⟩ W hEW (by decide))
    obtain ⟨a, x, er, hr⟩ : ∃ a x er, psR ⟨#[]⟩ = .tuple #[.agg #[.int .i64 a, .string x], .int .i64 er] := acR_form _ _
    rw [hr] at HP
    rw [hmm] at HM
    clear hmm hr
    go_enter Tryd.func3, Tryd.ntmps3
    go_wp2_with fail
    refine (HF.out _).mono ?_
    rintro e w1 ⟨rfl, rfl⟩
    go_wp2_with fail
    refine (HA.out _ (hE.below hb0)).mono ?_
    rintro e w1 ⟨rfl, hb⟩
    obtain ⟨c0, c1⟩ := box_at hb
    have hl1 : w.heap.size < w1.heap.size := by have := hb.size; simp at this; omega
    have hb1 := Below.on hb0 hb
    clear hb
    go_wp2_with fail
    refine (HB.out _).mono ?_
    rintro e w2 ⟨rfl, hb⟩
    have hl2 : w.heap.size < w2.heap.size := Nat.lt_of_lt_of_le hl1 hb.size
    replace c0 := (hb.cell (p := ⟨w.heap.size, 0, none⟩) hl1).trans c0
    replace c1 := (hb.cell (p := ⟨w.heap.size, 1, none⟩) hl1).trans c1
    have hb2 := Below.on hb1 hb
    clear hb hb1 hl1
    go_wp2_with fail
    refine (HM.out _ (hE.below hb2)).mono ?_
    rintro e w3 ⟨rfl, hb⟩
    have hl3 : w.heap.size < w3.heap.size := Nat.lt_of_lt_of_le hl2 hb.size
    replace c0 := (hb.cell (p := ⟨w.heap.size, 0, none⟩) hl2).trans c0
    replace c1 := (hb.cell (p := ⟨w.heap.size, 1, none⟩) hl2).trans c1
    have hb3 := Below.on hb2 hb
    clear hb hb2 hl2
    go_wp2_with fail
    refine (HP.out _ (hE.below hb3)).mono ?_
    rintro e w4 ⟨rfl, hb⟩
    replace c0 := (hb.cell (p := ⟨w.heap.size, 0, none⟩) hl3).trans c0
    replace c1 := (hb.cell (p := ⟨w.heap.size, 1, none⟩) hl3).trans c1
    have hb4 := Below.on hb3 hb
    clear hb hb3 hl3
    go_wp2_with fail
    refine (HW.out _ (hE.below (hb4.alloc hb4.size _))).mono ?_
    rintro e w5 ⟨rfl, hb⟩
    have hb5 := Below.on (hb4.alloc hb4.size _) hb
    go_wp2_with fail
    go_ret
    exact ⟨rfl, hb5⟩
  · have HA := Lib.hid (fun W hEW => name_ok k t W hEW (by omega) hmm)
    have HB := Lib.hid (fun W => rname_ok k t W (by omega) hmm)
    have HM := Lib.hid (fun W hEW => mayP_any k t W hEW (by omega) h1 h2)
    have HP := Lib.hid (fun W hEW => parse_any (nmA k t) W hEW (by rw [nm_size]; omega))
    rw [ps_back hmm] at HP
    rw [hmm] at HM
    generalize nmA k t = u at *
    clear hmm
    go_enter Tryd.func3, Tryd.ntmps3
    go_wp2_with fail
    refine (HF.out _).mono ?_
    rintro e w1 ⟨rfl, rfl⟩
    go_wp2_with fail
    refine (HA.out _ (hE.below hb0)).mono ?_
    rintro e w1 ⟨rfl, hb⟩
    obtain ⟨c0, c1⟩ := box_at hb
    have hl1 : w.heap.size < w1.heap.size := by have := hb.size; simp at this; omega
    have hb1 := Below.on hb0 hb
    clear hb
    go_wp2_with fail
    refine (HB.out _).mono ?_
    rintro e w2 ⟨rfl, hb⟩
    have hl2 : w.heap.size < w2.heap.size := Nat.lt_of_lt_of_le hl1 hb.size
    replace c0 := (hb.cell (p := ⟨w.heap.size, 0, none⟩) hl1).trans c0
    replace c1 := (hb.cell (p := ⟨w.heap.size, 1, none⟩) hl1).trans c1
    have hb2 := Below.on hb1 hb
    clear hb hb1 hl1
    go_wp2_with fail
    refine (HM.out _ (hE.below hb2)).mono ?_
    rintro e w3 ⟨rfl, hb⟩
    have hl3 : w.heap.size < w3.heap.size := Nat.lt_of_lt_of_le hl2 hb.size
    replace c0 := (hb.cell (p := ⟨w.heap.size, 0, none⟩) hl2).trans c0
    replace c1 := (hb.cell (p := ⟨w.heap.size, 1, none⟩) hl2).trans c1
    have hb3 := Below.on hb2 hb
    clear hb hb2 hl2
    go_wp2_with fail
    refine (HP.out _ (hE.below hb3)).mono ?_
    rintro e w4 ⟨rfl, hb⟩
    replace c0 := (hb.cell (p := ⟨w.heap.size, 0, none⟩) hl3).trans c0
    replace c1 := (hb.cell (p := ⟨w.heap.size, 1, none⟩) hl3).trans c1
    have hl4 : w.heap.size < w4.heap.size := Nat.lt_of_lt_of_le hl3 hb.size
    have hb4 := Below.on hb3 hb
    replace c0 := (((Below.refl w4.heap.size w4).alloc (Nat.le_refl _) (.cells #[.int .i64 k, .string t] 23)).cell (p := ⟨w.heap.size, 0, none⟩) hl4).trans c0
    replace c1 := (((Below.refl w4.heap.size w4).alloc (Nat.le_refl _) (.cells #[.int .i64 k, .string t] 23)).cell (p := ⟨w.heap.size, 1, none⟩) hl4).trans c1
    clear hb hb3 hl3
    go_wp2_with fail
    refine (HW.out _ (hE.below (hb4.alloc hb4.size _))).mono ?_
    rintro e w5 ⟨rfl, hb⟩
    have hb5 := Below.on (hb4.alloc hb4.size _) hb
    go_wp2_with fail
    go_ret
    exact ⟨rfl, hb5⟩
end Go.Proofs.YtdlnpnomomgjkaaDoor
