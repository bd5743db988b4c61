/- Contract: the chapter's examples. Conditions: the arrays of the program that names and numbers go by hold what their initialisers lay. -/
import Derived.Test.YtdhokgkihaiomaaDoorE13
namespace Go.Proofs.YtdhokgkihaiomaaDoor.Ent
open Go.RowKit Cht
open Mny (Fits)

theorem fit_small (k n : Int) (s : ByteArray) (h1 : 0 ≤ k ∧ k ≤ 10) (h2 : s.size ≤ 1000) (h3 : -1000 ≤ n ∧ n ≤ 1000) : fitL ⟨k, s, n⟩ := by
  refine ⟨⟨?_, ?_⟩, h2, ?_⟩
  · show -9223372036854775808 ≤ k; omega
  · show k ≤ 9223372036854775807; omega
  · show Fits n; unfold Fits; omega
/-- Two lines in a new block. -/
theorem lns_two (w : World) (x y : Ln) : Lns (w.alloc (.cells #[.int .i64 x.k, .string x.s, .int .i64 x.n, .int .i64 y.k, .string y.s, .int .i64 y.n] 37)) (w.alloc (.cells #[.int .i64 x.k, .string x.s, .int .i64 x.n, .int .i64 y.k, .string y.s, .int .i64 y.n] 37)).heap.size (some ⟨w.heap.size, 0, none⟩) [x, y] := fun i hi => by
  have hrow : ∀ j u, (lcs [x, y])[j]? = some u → (w.alloc (.cells #[.int .i64 x.k, .string x.s, .int .i64 x.n, .int .i64 y.k, .string y.s, .int .i64 y.n] 37)).cell? ⟨w.heap.size, j, none⟩ = some u := fun j u hj => by
    rw [World.cell?_alloc_new]
    simpa [lcs] using hj
  obtain ⟨h1, h2, h3⟩ := lcs_at [x, y] i hi
  exact ⟨_, 0, rfl, by simp, by rw [Nat.zero_add]; exact hrow _ _ h1, by rw [Nat.zero_add]; exact hrow _ _ h2, by rw [Nat.zero_add]; exact hrow _ _ h3⟩

set_option maxRecDepth 100000 in
set_option maxHeartbeats 3200000 in
theorem awake_any (w : World) (hE : EnvA w) : Calls Tryd.prog 9 #[] w fun e w' => e = .returned (.bool true) ∧ Below w.heap.size w w' := by
  obtain ⟨w0, hw⟩ : ∃ w0, w0 = (w.alloc (.cells #[.int .i64 3, .string ⟨#[]⟩] 23)).alloc (.cells #[.int .i64 4, .string ⟨#[]⟩] 23) := ⟨_, rfl⟩
  have hb0 : Below w.heap.size w w0 := by rw [hw]; exact ((Below.refl _ _).alloc (Nat.le_refl _) _).alloc (by simp) _
  have hba : BoxA w.heap.size 3 ⟨#[]⟩ w0 := by
    have h1 : BoxA w.heap.size 3 ⟨#[]⟩ (w.alloc (.cells #[.int .i64 3, .string ⟨#[]⟩] 23)) := World.alloc_heap_new w _
    rw [hw]; exact h1.below ((Below.refl _ _).alloc (Nat.le_refl _) _) (by simp)
  have hbb : BoxA (w.heap.size + 1) 4 ⟨#[]⟩ w0 := by
    have := World.alloc_heap_new (w.alloc (.cells #[.int .i64 3, .string ⟨#[]⟩] 23)) (.cells #[.int .i64 4, .string ⟨#[]⟩] 23)
    rw [World.size_alloc] at this
    rw [hw]; exact this
  have hz0 : w0.heap.size = w.heap.size + 2 := by rw [hw, World.size_alloc, World.size_alloc]
  have HW := Lib.hid hw
  have HE := Lib.hid hE
  have HM1 := Lib.hid (fun W (hb : Below w.heap.size w W) => move_any 7 ⟨#[114, 49]⟩ ⟨3, ⟨#[]⟩, 0⟩ ⟨4, ⟨#[]⟩, 105⟩ [⟨3, ⟨#[]⟩, -105⟩, ⟨4, ⟨#[]⟩, 105⟩] rfl W (hE.below hb).c (fit_small 3 0 _ (by decide) (by decide) (by decide)) (fit_small 4 105 _ (by decide) (by decide) (by decide)) (by decide))
  have HM2 := Lib.hid (fun W (hb : Below w.heap.size w W) => move_any 7 ⟨#[114, 49]⟩ ⟨3, ⟨#[]⟩, 0⟩ ⟨4, ⟨#[]⟩, 0⟩ [⟨3, ⟨#[]⟩, -0⟩, ⟨4, ⟨#[]⟩, 0⟩] rfl W (hE.below hb).c (fit_small 3 0 _ (by decide) (by decide) (by decide)) (fit_small 4 0 _ (by decide) (by decide) (by decide)) (by decide))
  clear hw hE
  obtain ⟨p0, p1, -⟩ := hba.cells
  obtain ⟨q0, q1, -⟩ := hbb.cells
  go_enter Tryd.func9, Tryd.ntmps9
  go_upto_region 2 with fail
  rw [← HW.out]
  clear HW
  go_wp2_with fail
  refine (HM1.out _ hb0).mono ?_
  rintro e w1 (⟨h9, -, -⟩ | ⟨-, A, rfl, hln, hb1⟩)
  · exact absurd ex_ok h9
  have hba1 := hba.below hb1 (by omega)
  have hbb1 := hbb.below hb1 (by omega)
  have HB1 := Lib.hid (Below.on hb0 hb1)
  have hz1 := hb1.size
  have HT := Lib.hid (fun W (hb : Below w.heap.size w W) (hl : Lns W W.heap.size A [⟨3, ⟨#[]⟩, -105⟩, ⟨4, ⟨#[]⟩, 105⟩]) => text_any 7 ⟨#[114, 49]⟩ A [⟨3, ⟨#[]⟩, -105⟩, ⟨4, ⟨#[]⟩, 105⟩] 2 2 W (HE.out.below hb) hl rfl (by decide) (by decide) (fun x hx => by
    simp at hx
    rcases hx with rfl | rfl
    · exact fit_small 3 (-105) _ (by decide) (by decide) (by decide)
    · exact fit_small 4 105 _ (by decide) (by decide) (by decide)) ex_ok)
  rw [ex_text] at HT
  clear p0 p1 q0 q1 hba hbb hb1 hb0 HM1
  have HX := Lib.hid (BoxE.new w1 7 ⟨#[114, 49]⟩ A 2 2)
  obtain ⟨x0, x1, x2, xf⟩ := HX.out.cells
  have hbX : Below w1.heap.size w1 (w1.alloc (.cells #[.int .i64 7, .string ⟨#[114, 49]⟩, .slice A 2 2] 28)) := (Below.refl _ _).alloc (Nat.le_refl _) _
  have hbaX := hba1.below hbX (by omega)
  have hbbX := hbb1.below hbX (by omega)
  have HBX := Lib.hid (Below.on HB1.out hbX)
  have HLX := Lib.hid (hln.next hbX)
  obtain ⟨p0, p1, -⟩ := hbaX.cells
  obtain ⟨q0, q1, -⟩ := hbbX.cells
  have hzX : (w1.alloc (.cells #[.int .i64 7, .string ⟨#[114, 49]⟩, .slice A 2 2] 28)).heap.size = w1.heap.size + 1 := World.size_alloc _ _
  go_wp2_with fail
  refine (HT.out _ HBX.out HLX.out).mono ?_
  rintro e w2 ⟨rfl, hb2⟩
  have hba2 := hbaX.below hb2 (by omega)
  have hbb2 := hbbX.below hb2 (by omega)
  have HB2 := Lib.hid (Below.on HBX.out hb2)
  have hz2 := hb2.size
  clear p0 p1 q0 q1 x0 x1 x2 xf hbX hbaX hbbX HBX HLX HX HT hln hba1 hbb1 hb2
  obtain ⟨p0, p1, -⟩ := hba2.cells
  obtain ⟨q0, q1, -⟩ := hbb2.cells
  go_wp2_with fail
  refine (HM2.out _ HB2.out).mono ?_
  rintro e w3 (⟨-, rfl, hb3⟩ | ⟨h9, -⟩)
  case inr => rw [ex_zero] at h9; cases h9
  rw [ex_zero]
  have hba3 := hba2.below hb3 (by omega)
  have hbb3 := hbb2.below hb3 (by omega)
  have HB3 := Lib.hid (Below.on HB2.out hb3)
  have hz3 := hb3.size
  clear p0 p1 q0 q1 hba2 hbb2 hb3 HM2
  have hbX : Below w3.heap.size w3 (w3.alloc (.cells #[.int .i64 0, .string ⟨#[]⟩, .slice none 0 0] 28)) := (Below.refl _ _).alloc (Nat.le_refl _) _
  have hbaX := hba3.below hbX (by omega)
  have hbbX := hbb3.below hbX (by omega)
  obtain ⟨p0, p1, -⟩ := hbaX.cells
  obtain ⟨q0, q1, -⟩ := hbbX.cells
  go_wp2_with fail
  have HBX := Lib.hid (Below.on HB3.out hbX)
  have hL := lns_two (w3.alloc (.cells #[.int .i64 0, .string ⟨#[]⟩, .slice none 0 0] 28)) ⟨3, ⟨#[]⟩, 5⟩ ⟨4, ⟨#[]⟩, -4⟩
  dsimp only at hL
  rw [show (⟨(w3.alloc (.cells #[.int .i64 0, .string ⟨#[]⟩, .slice none 0 0] 28)).heap.size, 0, none⟩ : Addr) = ⟨w3.heap.size + 1, 0, none⟩ from by rw [World.size_alloc]] at hL
  have hbY : Below w.heap.size w (((w3.alloc (.cells #[.int .i64 0, .string ⟨#[]⟩, .slice none 0 0] 28)).alloc (.cells #[.int .i64 3, .string ⟨#[]⟩, .int .i64 5, .int .i64 4, .string ⟨#[]⟩, .int .i64 (-4)] 37))) := HBX.out.alloc HBX.out.size _
  have HC := Lib.hid (check_at 0 ⟨#[]⟩ (some ⟨w3.heap.size + 1, 0, none⟩) [⟨3, ⟨#[]⟩, 5⟩, ⟨4, ⟨#[]⟩, -4⟩] 2 2 _ (HE.out.below hbY).c hL rfl (by decide) (by decide) (fun x hx => by
    simp at hx
    rcases hx with rfl | rfl
    · exact fit_small 3 5 _ (by decide) (by decide) (by decide)
    · exact fit_small 4 (-4) _ (by decide) (by decide) (by decide)))
  rw [ex_even] at HC
  refine HC.out.mono ?_
  rintro e w4 ⟨rfl, hb4⟩
  have HB4 := Lib.hid (Below.on hbY hb4)
  clear HC hL hbY hb4 HBX hbX hbaX hbbX p0 p1 q0 q1
  go_wp2_with fail
  go_ret
  exact ⟨rfl, HB4.out⟩
end Go.Proofs.YtdhokgkihaiomaaDoor.Ent
