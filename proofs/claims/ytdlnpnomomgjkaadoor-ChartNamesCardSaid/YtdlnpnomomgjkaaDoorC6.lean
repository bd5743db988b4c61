/- Contracts: which of two accounts comes first; the chapter's examples. Conditions: the two arrays of the program hold what their initialisers lay. -/
import Derived.Test.YtdlnpnomomgjkaaDoorC5
namespace Go.Proofs.YtdlnpnomomgjkaaDoor
open Go.RowKit

theorem nan_any (t : ByteArray) (w : World) : Calls Tryd.prog 29 #[.string t] w fun e w' => e = .returned (.bool false) ∧ w = w' := by
  go_enter Tryd.func29, Tryd.ntmps29
  go_wp2_with fail
  go_ret
  exact ⟨by first | rfl | simp, rfl⟩
def cmpB (x y : Bool) : Int := bif x then -1 else bif y then 1 else 0
theorem cmp_any (t u : ByteArray) (w : World) : Calls Tryd.prog 24 #[.string t, .string u] w fun e w' => e = .returned (.int .i64 (cmpB (Op.bytesLess t.toList u.toList) (!Op.bytesLess t.toList u.toList && !t.toList == u.toList))) ∧ w = w' := by
  have HA := Lib.hid (fun W => nan_any t W)
  have HB := Lib.hid (fun W => nan_any u W)
  obtain ⟨x, h1⟩ : ∃ x, Op.bytesLess t.toList u.toList = x := ⟨_, rfl⟩
  obtain ⟨y, h2⟩ : ∃ y, (!Op.bytesLess t.toList u.toList && !t.toList == u.toList) = y := ⟨_, rfl⟩
  have hgt : ∀ W, (binOp .gtr 9 (.string t) (.string u)).run Tryd.prog W = .ok (.bool y) W := fun W => by simp [binOp, Op.stringOp, h2]
  rw [h2, h1]
  clear h2
  go_enter Tryd.func24, Tryd.ntmps24
  go_wp2_with fail
  refine (HA.out _).mono ?_
  rintro e w1 ⟨rfl, rfl⟩
  go_wp2_with fail
  refine (HB.out _).mono ?_
  rintro e w1 ⟨rfl, rfl⟩
  cases x with
  | true =>
    go_wp2_with fail
    go_ret
    exact ⟨rfl, rfl⟩
  | false =>
    cases y with
    | true =>
      go_wp2_with fail
      go_ret
      exact ⟨rfl, rfl⟩
    | false =>
      go_wp2_with fail
      go_ret
      exact ⟨rfl, rfl⟩

/-- Of two names: -1, 0, 1. -/
def ordA (t u : ByteArray) : Int := cmpB (Op.bytesLess t.toList u.toList) (!Op.bytesLess t.toList u.toList && !t.toList == u.toList)
theorem ord_neg (t u : ByteArray) : decide (ordA t u < 0) = Op.bytesLess t.toList u.toList := by
  unfold ordA cmpB
  cases Op.bytesLess t.toList u.toList with
  | true => rfl
  | false => cases (!t.toList == u.toList) <;> rfl
theorem alloc_size' (w : World) (o : Obj) : (w.alloc o).heap.size = w.heap.size + 1 := by simp

set_option maxHeartbeats 1600000 in
theorem order_any (k j : Int) (s t : ByteArray) (w : World) (hE : Env w) (hs : s.size ≤ 1000) (ht : t.size ≤ 1000) (hm : mayA k s = true) (hn : mayA j t = true) :
    Calls Tryd.prog 15 #[acc k s, acc j t] w fun e w' => e = .returned (.int .i64 (ordA (nmA k s) (nmA j t))) ∧ Below w.heap.size w w' := by
  have hb0 := ((Below.refl w.heap.size w).alloc (Nat.le_refl _) (.cells #[.int .i64 k, .string s] 23)).alloc (by simp) (.cells #[.int .i64 j, .string t] 23)
  have hA := name_ok k s _ (hE.below hb0) hs hm
  have hB := fun W hEW => name_ok j t W hEW ht hn
  have c0 : ∀ i : Nat, ((w.alloc (.cells #[.int .i64 k, .string s] 23)).alloc (.cells #[.int .i64 j, .string t] 23)).cell? ⟨w.heap.size + 1, i, none⟩ = (#[.int .i64 j, .string t] : Array Value)[i]? := fun i => by
    rw [← alloc_size' w (.cells #[.int .i64 k, .string s] 23)]
    exact World.cell?_alloc_new _ _ _ _
  have hlt : w.heap.size + 1 < ((w.alloc (.cells #[.int .i64 k, .string s] 23)).alloc (.cells #[.int .i64 j, .string t] 23)).heap.size := by simp
  have hO := fun W => cmp_any (nmA k s) (nmA j t) W
  have HA := Lib.hid hA
  have HB := Lib.hid hB
  have HO := Lib.hid hO
  clear hm hn hA hB hO
  unfold ordA
  generalize nmA k s = p at *
  generalize nmA j t = q at *
  generalize cmpB _ _ = r at *
  go_enter Tryd.func15, Tryd.ntmps15
  go_wp2_with fail
  refine HA.out.mono ?_
  rintro e w1 ⟨rfl, hb⟩
  have u0 := (hb.cell (p := ⟨w.heap.size + 1, 0, none⟩) hlt).trans (c0 0)
  have u1 := (hb.cell (p := ⟨w.heap.size + 1, 1, none⟩) hlt).trans (c0 1)
  have hb2 := Below.on hb0 hb
  clear hb c0 hlt hb0
  go_wp2_with fail
  refine (HB.out _ (hE.below hb2)).mono ?_
  rintro e w2 ⟨rfl, hb⟩
  go_wp2_with fail
  refine (HO.out _).mono ?_
  rintro e w3 ⟨rfl, rfl⟩
  go_wp2_with fail
  go_ret
  exact ⟨rfl, Below.on hb2 hb⟩

theorem ex1 : mayA 1 ⟨#[52, 49, 49, 49, 49, 49, 49, 49, 49, 49, 49, 49, 49, 49, 49, 49]⟩ = true := by decide +kernel
theorem ex1n : nmA 1 ⟨#[52, 49, 49, 49, 49, 49, 49, 49, 49, 49, 49, 49, 49, 49, 49, 49]⟩ = ⟨#[67, 52, 49, 49, 49, 49, 49, 49, 49, 49, 49, 49, 49, 49, 49, 49, 49]⟩ := by decide +kernel
theorem ex2 : psR ⟨#[65, 49, 50, 51, 52, 53]⟩ = .tuple #[acc 0 ⟨#[]⟩, .int .i64 4] := acR_f (by decide +kernel)
theorem ex3 : psR ⟨#[72]⟩ = .tuple #[acc 3 ⟨#[]⟩, .int .i64 0] := by
  have h1 : kdA ⟨#[72]⟩ = 3 := by decide +kernel
  have h2 : tlA ⟨#[72]⟩ = ⟨#[]⟩ := by decide +kernel
  unfold psR
  rw [h1, h2]
  exact acR_t (by decide +kernel)

set_option maxHeartbeats 1600000 in
theorem awake_any (w : World) (hE : Env w) : Calls Tryd.prog 11 #[] w fun e w' => e = .returned (.bool true) ∧ Below w.heap.size w w' := by
  have HA := Lib.hid (name_ok 1 ⟨#[52, 49, 49, 49, 49, 49, 49, 49, 49, 49, 49, 49, 49, 49, 49, 49]⟩ w hE (by decide) ex1)
  have HB := Lib.hid (fun W hEW => parse_any ⟨#[65, 49, 50, 51, 52, 53]⟩ W hEW (by decide))
  have HC := Lib.hid (fun W hEW => parse_any ⟨#[72]⟩ W hEW (by decide))
  rw [ex1n] at HA
  rw [ex2] at HB
  rw [ex3] at HC
  go_enter Tryd.func11, Tryd.ntmps11
  go_wp2_with fail
  refine HA.out.mono ?_
  rintro e w1 ⟨rfl, hb1⟩
  go_wp2_with fail
  refine (HB.out _ (hE.below hb1)).mono ?_
  rintro e w2 ⟨rfl, hb2⟩
  have hb3 := Below.on hb1 hb2
  clear hb1 hb2
  go_wp2_with fail
  have hb4 := hb3.alloc hb3.size (.cells #[.int .i64 0, .string ⟨#[]⟩] 23)
  refine (HC.out _ (hE.below hb4)).mono ?_
  rintro e w3 ⟨rfl, hb5⟩
  have hb6 := Below.on hb4 hb5
  clear hb3 hb4 hb5
  go_wp2_with fail
  go_ret
  exact ⟨rfl, hb6.alloc hb6.size _⟩
end Go.Proofs.YtdlnpnomomgjkaaDoor
