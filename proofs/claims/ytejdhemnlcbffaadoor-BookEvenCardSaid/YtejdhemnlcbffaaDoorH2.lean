/- Contracts: an account's name; the document's own; an account of a kind and an ID. Conditions: the two arrays of the program hold what their initialisers lay. -/
import Derived.Test.YtejdhemnlcbffaaDoorH1
namespace Go.Proofs.YtejdhemnlcbffaaDoor.Cht
open Go.RowKit

theorem may_in {k : Int} {s : ByteArray} (h : mayA k s = true) : 1 ≤ k ∧ k ≤ 4 ∧ s.size = szA k := by
  rcases Decidable.em (1 ≤ k ∧ k ≤ 4 ∧ s.size = szA k) with hh | hh
  · exact hh
  · rw [may_no hh] at h; cases h
theorem Below.on {w a b : World} (h : Below w.heap.size w a) (k : Below a.heap.size a b) : Below w.heap.size w b := h.trans (k.mono h.size)

set_option maxHeartbeats 1600000 in
theorem name_arg (k : Int) (s : ByteArray) (w : World) (hE : Env w) (hs : s.size ≤ 1000) (h1 : -9223372036854775808 ≤ k) (h2 : k ≤ 9223372036854775807) (hm : mayA k s = false) :
    Calls Tryd.prog 38 #[acc k s] w fun e w' => e = .returned (.tuple #[.string ⟨#[]⟩, .int .i64 1]) ∧ Below w.heap.size w w' := by
  have hb0 := (Below.refl w.heap.size w).alloc (Nat.le_refl _) (.cells #[.int .i64 k, .string s] 27)
  have HM := Lib.hid hm
  clear hm
  go_enter Tryd.func38, Tryd.ntmps38
  go_wp2_with fail
  refine (mayP_any k s _ (hE.below hb0) hs h1 h2).mono ?_
  rintro e w1 ⟨rfl, hb⟩
  rw [HM.out]
  go_wp2_with fail
  go_ret2
  exact ⟨rfl, Below.on hb0 hb⟩

set_option maxHeartbeats 1600000 in
theorem name_ok (k : Int) (s : ByteArray) (w : World) (hE : Env w) (hs : s.size ≤ 1000) (hm : mayA k s = true) :
    Calls Tryd.prog 38 #[acc k s] w fun e w' => e = .returned (.tuple #[.string (nmA k s), .int .i64 0]) ∧ Below w.heap.size w w' := by
  have hb0 := (Below.refl w.heap.size w).alloc (Nat.le_refl _) (.cells #[.int .i64 k, .string s] 27)
  have hk := may_in hm
  have HM := Lib.hid hm
  clear hm
  have hkk : k = 1 ∨ k = 2 ∨ k = 3 ∨ k = 4 := by omega
  clear hk
  have hcell : ∀ j : Nat, (w.alloc (.cells #[.int .i64 k, .string s] 27)).cell? ⟨w.heap.size, j, none⟩ = (#[.int .i64 k, .string s] : Array Value)[j]? := fun j => World.cell?_alloc_new _ _ _ _
  have hs0 : w.heap.size < (w.alloc (.cells #[.int .i64 k, .string s] 27)).heap.size := by simp
  generalize hw0 : w.alloc (.cells #[.int .i64 k, .string s] 27) = w0 at *
  rcases hkk with rfl | rfl | rfl | rfl
  · go_enter Tryd.func38, Tryd.ntmps38
    go_wp2_with fail
    refine (mayP_any 1 s _ (hE.below hb0) hs (by decide) (by decide)).mono ?_
    rintro e w1 ⟨rfl, hb⟩
    rw [HM.out]
    have c0 : w1.cell? ⟨w.heap.size, 0, none⟩ = some (.int .i64 1) := (hb.cell (show w.heap.size < _ from hs0)).trans (hcell 0)
    have c1 : w1.cell? ⟨w.heap.size, 1, none⟩ = some (.string s) := (hb.cell (show w.heap.size < _ from hs0)).trans (hcell 1)
    have cf := (hE.below (Below.on hb0 hb)).f1
    go_wp2_with fail
    go_quiet (fail)
    go_wp2_with fail
    go_ret2
    exact ⟨rfl, below_drewN (Below.on hb0 hb) _⟩
  · go_enter Tryd.func38, Tryd.ntmps38
    go_wp2_with fail
    refine (mayP_any 2 s _ (hE.below hb0) hs (by decide) (by decide)).mono ?_
    rintro e w1 ⟨rfl, hb⟩
    rw [HM.out]
    have c0 : w1.cell? ⟨w.heap.size, 0, none⟩ = some (.int .i64 2) := (hb.cell (show w.heap.size < _ from hs0)).trans (hcell 0)
    have c1 : w1.cell? ⟨w.heap.size, 1, none⟩ = some (.string s) := (hb.cell (show w.heap.size < _ from hs0)).trans (hcell 1)
    have cf := (hE.below (Below.on hb0 hb)).f2
    go_wp2_with fail
    go_quiet (fail)
    go_wp2_with fail
    go_ret2
    exact ⟨rfl, below_drewN (Below.on hb0 hb) _⟩
  · go_enter Tryd.func38, Tryd.ntmps38
    go_wp2_with fail
    refine (mayP_any 3 s _ (hE.below hb0) hs (by decide) (by decide)).mono ?_
    rintro e w1 ⟨rfl, hb⟩
    rw [HM.out]
    have c0 : w1.cell? ⟨w.heap.size, 0, none⟩ = some (.int .i64 3) := (hb.cell (show w.heap.size < _ from hs0)).trans (hcell 0)
    have c1 : w1.cell? ⟨w.heap.size, 1, none⟩ = some (.string s) := (hb.cell (show w.heap.size < _ from hs0)).trans (hcell 1)
    have cf := (hE.below (Below.on hb0 hb)).f3
    go_wp2_with fail
    go_quiet (fail)
    go_wp2_with fail
    go_ret2
    exact ⟨rfl, below_drewN (Below.on hb0 hb) _⟩
  · go_enter Tryd.func38, Tryd.ntmps38
    go_wp2_with fail
    refine (mayP_any 4 s _ (hE.below hb0) hs (by decide) (by decide)).mono ?_
    rintro e w1 ⟨rfl, hb⟩
    rw [HM.out]
    have c0 : w1.cell? ⟨w.heap.size, 0, none⟩ = some (.int .i64 4) := (hb.cell (show w.heap.size < _ from hs0)).trans (hcell 0)
    have c1 : w1.cell? ⟨w.heap.size, 1, none⟩ = some (.string s) := (hb.cell (show w.heap.size < _ from hs0)).trans (hcell 1)
    have cf := (hE.below (Below.on hb0 hb)).f4
    go_wp2_with fail
    go_quiet (fail)
    go_wp2_with fail
    go_ret2
    exact ⟨rfl, below_drewN (Below.on hb0 hb) _⟩

end Go.Proofs.YtejdhemnlcbffaaDoor.Cht
