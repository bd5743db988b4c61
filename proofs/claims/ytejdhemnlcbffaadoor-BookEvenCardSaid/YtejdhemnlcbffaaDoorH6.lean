/- Contracts: which of two accounts comes first; the chapter's examples. Conditions: the two arrays of the program hold what their initialisers lay. -/
import Derived.Test.YtejdhemnlcbffaaDoorH3
namespace Go.Proofs.YtejdhemnlcbffaaDoor.Cht
open Go.RowKit

theorem nan_any (t : ByteArray) (w : World) : Calls Tryd.prog 53 #[.string t] w fun e w' => e = .returned (.bool false) ∧ w = w' := by
  go_enter Tryd.func53, Tryd.ntmps53
  go_wp2_with fail
  go_ret
  exact ⟨by first | rfl | simp, rfl⟩
def cmpB (x y : Bool) : Int := bif x then -1 else bif y then 1 else 0
theorem cmp_any (t u : ByteArray) (w : World) : Calls Tryd.prog 41 #[.string t, .string u] w fun e w' => e = .returned (.int .i64 (cmpB (Op.bytesLess t.toList u.toList) (!Op.bytesLess t.toList u.toList && !t.toList == u.toList))) ∧ w = w' := by
  have HA := Lib.hid (fun W => nan_any t W)
  have HB := Lib.hid (fun W => nan_any u W)
  obtain ⟨x, h1⟩ : ∃ x, Op.bytesLess t.toList u.toList = x := ⟨_, rfl⟩
  obtain ⟨y, h2⟩ : ∃ y, (!Op.bytesLess t.toList u.toList && !t.toList == u.toList) = y := ⟨_, rfl⟩
  have hgt : ∀ W, (binOp .gtr 9 (.string t) (.string u)).run Tryd.prog W = .ok (.bool y) W := fun W => by simp [binOp, Op.stringOp, h2]
  rw [h2, h1]
  clear h2
  go_enter Tryd.func41, Tryd.ntmps41
  go_wp2_with fail
  refine (HA.out _).mono ?_
  rintro e w1 ⟨rfl, rfl⟩
  go_wp2_with fail
  refine (HB.out _).mono ?_
  rintro e w1 ⟨rfl, rfl⟩
  cases x with
  | true =>
    go_wp2_with fail
    go_ret
    exact ⟨rfl, rfl⟩
  | false =>
    cases y with
    | true =>
      go_wp2_with fail
      go_ret
      exact ⟨rfl, rfl⟩
    | false =>
      go_wp2_with fail
      go_ret
      exact ⟨rfl, rfl⟩

/-- Of two names: -1, 0, 1. -/
def ordA (t u : ByteArray) : Int := cmpB (Op.bytesLess t.toList u.toList) (!Op.bytesLess t.toList u.toList && !t.toList == u.toList)
theorem ord_neg (t u : ByteArray) : decide (ordA t u < 0) = Op.bytesLess t.toList u.toList := by
  unfold ordA cmpB
  cases Op.bytesLess t.toList u.toList with
  | true => rfl
  | false => cases (!t.toList == u.toList) <;> rfl
theorem alloc_size' (w : World) (o : Obj) : (w.alloc o).heap.size = w.heap.size + 1 := by simp

set_option maxHeartbeats 1600000 in
theorem order_any (k j : Int) (s t : ByteArray) (w : World) (hE : Env w) (hs : s.size ≤ 1000) (ht : t.size ≤ 1000) (hm : mayA k s = true) (hn : mayA j t = true) :
    Calls Tryd.prog 26 #[acc k s, acc j t] w fun e w' => e = .returned (.int .i64 (ordA (nmA k s) (nmA j t))) ∧ Below w.heap.size w w' := by
  have hb0 := ((Below.refl w.heap.size w).alloc (Nat.le_refl _) (.cells #[.int .i64 k, .string s] 27)).alloc (by simp) (.cells #[.int .i64 j, .string t] 27)
  have hA := name_ok k s _ (hE.below hb0) hs hm
  have hB := fun W hEW => name_ok j t W hEW ht hn
  have c0 : ∀ i : Nat, ((w.alloc (.cells #[.int .i64 k, .string s] 27)).alloc (.cells #[.int .i64 j, .string t] 27)).cell? ⟨w.heap.size + 1, i, none⟩ = (#[.int .i64 j, .string t] : Array Value)[i]? := fun i => by
    rw [← alloc_size' w (.cells #[.int .i64 k, .string s] 27)]
    exact World.cell?_alloc_new _ _ _ _
  have hlt : w.heap.size + 1 < ((w.alloc (.cells #[.int .i64 k, .string s] 27)).alloc (.cells #[.int .i64 j, .string t] 27)).heap.size := by simp
  have hO := fun W => cmp_any (nmA k s) (nmA j t) W
  have HA := Lib.hid hA
  have HB := Lib.hid hB
  have HO := Lib.hid hO
  clear hm hn hA hB hO
  unfold ordA
  generalize nmA k s = p at *
  generalize nmA j t = q at *
  generalize cmpB _ _ = r at *
  go_enter Tryd.func26, Tryd.ntmps26
  go_wp2_with fail
  refine HA.out.mono ?_
  rintro e w1 ⟨rfl, hb⟩
  have u0 := (hb.cell (p := ⟨w.heap.size + 1, 0, none⟩) hlt).trans (c0 0)
  have u1 := (hb.cell (p := ⟨w.heap.size + 1, 1, none⟩) hlt).trans (c0 1)
  have hb2 := Below.on hb0 hb
  clear hb c0 hlt hb0
  go_wp2_with fail
  refine (HB.out _ (hE.below hb2)).mono ?_
  rintro e w2 ⟨rfl, hb⟩
  go_wp2_with fail
  refine (HO.out _).mono ?_
  rintro e w3 ⟨rfl, rfl⟩
  go_wp2_with fail
  go_ret
  exact ⟨rfl, Below.on hb2 hb⟩

end Go.Proofs.YtejdhemnlcbffaaDoor.Cht
