/- Contract: the chapter's examples. Conditions: the two arrays of the program hold what their initialisers lay. -/
import Derived.Test.YtejdhemnlcbffaaDoorB15
namespace Go.Proofs.YtejdhemnlcbffaaDoor.Bok
open Go.RowKit Cht Ent
open Mny (Fits)

theorem pw1 : post1 [] 0 ⟨#[]⟩ [⟨3, ⟨#[]⟩, -105⟩, ⟨4, ⟨#[]⟩, 105⟩] = (0, [⟨4, ⟨#[]⟩, 105⟩, ⟨3, ⟨#[]⟩, -105⟩]) := by decide +kernel
theorem pw2 : post1 [⟨4, ⟨#[]⟩, 105⟩, ⟨3, ⟨#[]⟩, -105⟩] 0 ⟨#[]⟩ [⟨3, ⟨#[]⟩, 105⟩, ⟨4, ⟨#[]⟩, -105⟩] = (0, []) := by decide +kernel
theorem pw3 : mayB [⟨4, ⟨#[]⟩, 105⟩] = false := by decide +kernel
theorem fitL_small (k n : Int) (h1 : 0 ≤ k ∧ k ≤ 10) (h3 : -1000 ≤ n ∧ n ≤ 1000) : fitL ⟨k, ⟨#[]⟩, n⟩ := fit_small k n _ h1 (by decide) h3
theorem Lns.take {w : World} {B : Nat} {A : Option Addr} {l : List Ln} (h : Lns w B A l) (i : Nat) : Lns w B A (l.take i) := fun j hj => by
  have hj' : j < l.length := by rw [List.length_take] at hj; omega
  obtain ⟨b, o, e, h1, h2⟩ := h j hj'
  exact ⟨b, o, e, h1, by simpa using h2⟩

theorem lns_two' (w : World) (x y : Ln) : Lns (w.alloc (.cells #[.int .i64 x.k, .string x.s, .int .i64 x.n, .int .i64 y.k, .string y.s, .int .i64 y.n] 51)) (w.alloc (.cells #[.int .i64 x.k, .string x.s, .int .i64 x.n, .int .i64 y.k, .string y.s, .int .i64 y.n] 51)).heap.size (some ⟨w.heap.size, 0, none⟩) [x, y] := fun i hi => by
  have hi2 : i = 0 ∨ i = 1 := by simp at hi; omega
  rcases hi2 with rfl | rfl
  · exact ⟨_, 0, rfl, by simp, World.cell?_alloc_new _ _ _ _, World.cell?_alloc_new _ _ _ _, World.cell?_alloc_new _ _ _ _⟩
  · exact ⟨_, 0, rfl, by simp, World.cell?_alloc_new _ _ _ _, World.cell?_alloc_new _ _ _ _, World.cell?_alloc_new _ _ _ _⟩

set_option maxRecDepth 20000 in
set_option maxHeartbeats 3200000 in
theorem awake_any (w : World) (hE : Env w) : Calls Tryd.prog 16 #[] w fun e w' => e = .returned (.bool true) ∧ Below w.heap.size w w' := by
  obtain ⟨x1, hx1⟩ : ∃ x1, x1 = (w.alloc (.cells #[.int .i64 3, .string ⟨#[]⟩] 27)).alloc (.cells #[.int .i64 4, .string ⟨#[]⟩] 27) := ⟨_, rfl⟩
  have hz1 : x1.heap.size = w.heap.size + 2 := by rw [hx1, World.size_alloc, World.size_alloc]
  have hb1 : Below w.heap.size w x1 := by rw [hx1]; exact ((Below.refl _ _).alloc (Nat.le_refl _) _).alloc (by simp) _
  have ha1 : BoxA w.heap.size 3 ⟨#[]⟩ x1 := by
    rw [hx1]
    exact BoxA.below (w := w.alloc (.cells #[.int .i64 3, .string ⟨#[]⟩] 27)) (B := w.heap.size + 1) (World.alloc_heap_new w _) ((Below.refl _ _).alloc (by simp) _) (by omega)
  have ha2 : BoxA (w.heap.size + 1) 4 ⟨#[]⟩ x1 := by
    have := World.alloc_heap_new (w.alloc (.cells #[.int .i64 3, .string ⟨#[]⟩] 27)) (.cells #[.int .i64 4, .string ⟨#[]⟩] 27)
    rw [World.size_alloc] at this
    rw [hx1]; exact this
  obtain ⟨x2, hx2⟩ : ∃ x2, x2 = (x1.alloc (.cells #[.int .i64 3, .string ⟨#[]⟩, .int .i64 (-105), .int .i64 4, .string ⟨#[]⟩, .int .i64 105] 44)).alloc (.cells #[.int .i64 0, .string ⟨#[]⟩, .slice (some ⟨w.heap.size + 2, 0, none⟩) 2 2] 25) := ⟨_, rfl⟩
  have hz2 : x2.heap.size = w.heap.size + 4 := by rw [hx2, World.size_alloc, World.size_alloc, hz1]
  have hb2 : Below x1.heap.size x1 x2 := by rw [hx2]; exact ((Below.refl _ _).alloc (Nat.le_refl _) _).alloc (by simp) _
  have hl2 : Lns x2 x2.heap.size (some ⟨w.heap.size + 2, 0, none⟩) [⟨3, ⟨#[]⟩, -105⟩, ⟨4, ⟨#[]⟩, 105⟩] := by
    have := (lns_two x1 ⟨3, ⟨#[]⟩, -105⟩ ⟨4, ⟨#[]⟩, 105⟩).next (w' := x2) (by rw [hx2]; exact (Below.refl _ _).alloc (Nat.le_refl _) _)
    rw [hz1] at this
    exact this
  have he2 : BoxE (w.heap.size + 3) 0 ⟨#[]⟩ (some ⟨w.heap.size + 2, 0, none⟩) 2 2 x2 := by
    have := BoxE.new (x1.alloc (.cells #[.int .i64 3, .string ⟨#[]⟩, .int .i64 (-105), .int .i64 4, .string ⟨#[]⟩, .int .i64 105] 44)) 0 ⟨#[]⟩ (some ⟨w.heap.size + 2, 0, none⟩) 2 2
    rw [World.size_alloc, hz1] at this
    rw [hx2]; exact this
  obtain ⟨x3, hx3⟩ : ∃ x3, x3 = (x2.alloc (.cells #[.int .i64 3, .string ⟨#[]⟩, .int .i64 105, .int .i64 4, .string ⟨#[]⟩, .int .i64 (-105)] 44)).alloc (.cells #[.int .i64 0, .string ⟨#[]⟩, .slice (some ⟨w.heap.size + 4, 0, none⟩) 2 2] 25) := ⟨_, rfl⟩
  have hz3 : x3.heap.size = w.heap.size + 6 := by rw [hx3, World.size_alloc, World.size_alloc, hz2]
  have hb3 : Below x2.heap.size x2 x3 := by rw [hx3]; exact ((Below.refl _ _).alloc (Nat.le_refl _) _).alloc (by simp) _
  have hl3 : Lns x3 x3.heap.size (some ⟨w.heap.size + 4, 0, none⟩) [⟨3, ⟨#[]⟩, 105⟩, ⟨4, ⟨#[]⟩, -105⟩] := by
    have := (lns_two x2 ⟨3, ⟨#[]⟩, 105⟩ ⟨4, ⟨#[]⟩, -105⟩).next (w' := x3) (by rw [hx3]; exact (Below.refl _ _).alloc (Nat.le_refl _) _)
    rw [hz2] at this
    exact this
  have he3 : BoxE (w.heap.size + 5) 0 ⟨#[]⟩ (some ⟨w.heap.size + 4, 0, none⟩) 2 2 x3 := by
    have := BoxE.new (x2.alloc (.cells #[.int .i64 3, .string ⟨#[]⟩, .int .i64 105, .int .i64 4, .string ⟨#[]⟩, .int .i64 (-105)] 44)) 0 ⟨#[]⟩ (some ⟨w.heap.size + 4, 0, none⟩) 2 2
    rw [World.size_alloc, hz2] at this
    rw [hx3]; exact this
  have HB3 : Hid (Below w.heap.size w x3) := hb1.trans ((hb2.mono (by omega)).trans (hb3.mono (by omega)))
  have HE := Lib.hid hE
  have HA1 : Hid (∀ W, Below x3.heap.size x3 W → BoxA w.heap.size 3 ⟨#[]⟩ W ∧ BoxA (w.heap.size + 1) 4 ⟨#[]⟩ W ∧ BoxE (w.heap.size + 5) 0 ⟨#[]⟩ (some ⟨w.heap.size + 4, 0, none⟩) 2 2 W) := fun W hW =>
    ⟨((ha1.below hb2 (by omega)).below hb3 (by omega)).below hW (by omega), ((ha2.below hb2 (by omega)).below hb3 (by omega)).below hW (by omega), he3.below hW (by omega)⟩
  have HL3 := Lib.hid hl3
  have HP1 := Lib.hid (post1_any none [] 0 0 0 ⟨#[]⟩ (some ⟨w.heap.size + 2, 0, none⟩) [⟨3, ⟨#[]⟩, -105⟩, ⟨4, ⟨#[]⟩, 105⟩] 2 2 x3 (hE.below HB3.out) (fun i hi => absurd hi (Nat.not_lt_zero _)) rfl (by omega) (fun x hx => absurd hx (by simp))
    (hl2.next hb3) rfl (by omega) (by omega) (fun x hx => by simp at hx; rcases hx with rfl | rfl <;> exact fitL_small _ _ (by omega) (by omega)))
  rw [pw1] at HP1
  have he2' : BoxE (w.heap.size + 3) 0 ⟨#[]⟩ (some ⟨w.heap.size + 2, 0, none⟩) 2 2 x3 := he2.below hb3 (by omega)
  have HX1 := Lib.hid hx1
  have HX2 := Lib.hid hx2
  have HX3 := Lib.hid hx3
  have A1 := ha1
  have A2 := ha2
  have B1 : BoxA w.heap.size 3 ⟨#[]⟩ x2 := ha1.below hb2 (by omega)
  have B2 : BoxA (w.heap.size + 1) 4 ⟨#[]⟩ x2 := ha2.below hb2 (by omega)
  obtain ⟨a0, a1, af⟩ := A1.cells
  obtain ⟨a2, a3, ag⟩ := A2.cells
  clear hx1 hx2 hx3 hl2 hl3 he2 he3 hb1 hb2 hb3 hE ha1 ha2
  go_enter Tryd.func16, Tryd.ntmps16
  go_upto_region 2 with fail
  rw [← HX1.out]
  go_upto_region 3 with fail
  clear a0 a1 a2 a3 af ag
  obtain ⟨a0, a1, af⟩ := B1.cells
  obtain ⟨a2, a3, ag⟩ := B2.cells
  rw [← HX2.out]
  go_upto_region 4 with fail
  rw [← HX3.out]
  clear a0 a1 a2 a3 af ag HX1 HX2 HX3
  obtain ⟨c0, c1, c2, cf⟩ := he2'.cells
  go_wp2_with fail
  refine HP1.out.mono ?_
  rintro e w1 ⟨hres, hb⟩
  rcases hres with ⟨-, v1, rfl, ho⟩ | ⟨hp0, -⟩
  case inr => exact absurd rfl hp0
  obtain ⟨A1, n1, hv, hn1⟩ := own_sl ho
  subst hv
  have HO1 := Lib.hid ho
  have HB1 := Lib.hid hb
  have hzb := hb.size
  obtain ⟨-, -, hen⟩ := HA1.out w1 hb
  obtain ⟨d0, d1, d2, df⟩ := hen.cells
  have HP2 := Lib.hid (post1_any A1 [⟨4, ⟨#[]⟩, 105⟩, ⟨3, ⟨#[]⟩, -105⟩] 2 n1 0 ⟨#[]⟩ (some ⟨w.heap.size + 4, 0, none⟩) [⟨3, ⟨#[]⟩, 105⟩, ⟨4, ⟨#[]⟩, -105⟩] 2 2 w1 (HE.out.below (HB3.out.trans (hb.mono (by omega)))) (own_lns ho rfl) rfl (by omega) (fun x hx => by simp at hx; rcases hx with rfl | rfl <;> exact fitL_small _ _ (by omega) (by omega))
    (HL3.out.next hb) rfl (by omega) (by omega) (fun x hx => by simp at hx; rcases hx with rfl | rfl <;> exact fitL_small _ _ (by omega) (by omega)))
  rw [pw2] at HP2
  have hl9 : ([⟨4, ⟨#[]⟩, 105⟩, ⟨3, ⟨#[]⟩, -105⟩] : List Ln).length = 2 := rfl
  clear c0 c1 c2 cf he2' ho hb hen
  dsimp only [hl9]
  go_wp2_with fail
  refine HP2.out.mono ?_
  rintro e w2 ⟨hres, hb⟩
  rcases hres with ⟨-, v2, rfl, ho⟩ | ⟨hp0, -⟩
  case inr => exact absurd rfl hp0
  obtain ⟨A2, n2, hv, hn2⟩ := own_sl ho
  subst hv
  have HB2 : Hid (Below x3.heap.size x3 w2) := HB1.out.trans (hb.mono hzb)
  have hzc := hb.size
  obtain ⟨ha, hc, -⟩ := HA1.out w2 HB2.out
  obtain ⟨a0, a1, af⟩ := ha.cells
  obtain ⟨a2, a3, ag⟩ := hc.cells
  have HL1 : Hid (Lns w2 w2.heap.size A1 [⟨4, ⟨#[]⟩, 105⟩, ⟨3, ⟨#[]⟩, -105⟩]) := (own_lns HO1.out rfl).next hb
  clear d0 d1 d2 df ho hb
  obtain ⟨x4, hx4⟩ : ∃ x4, x4 = w2.alloc (.cells #[.int .i64 4, .string ⟨#[]⟩, .int .i64 105, .int .i64 3, .string ⟨#[]⟩, .int .i64 (-105)] 51) := ⟨_, rfl⟩
  have HX4 := Lib.hid hx4
  have hb4 : Below w2.heap.size w2 x4 := by rw [hx4]; exact (Below.refl _ _).alloc (Nat.le_refl _) _
  have hz4 : x4.heap.size = w2.heap.size + 1 := by rw [hx4, World.size_alloc]
  have HSM := Lib.hid (rsame_any A1 (some ⟨w2.heap.size, 0, none⟩) [⟨4, ⟨#[]⟩, 105⟩, ⟨3, ⟨#[]⟩, -105⟩] [⟨4, ⟨#[]⟩, 105⟩, ⟨3, ⟨#[]⟩, -105⟩] 2 2 n1 2 x4 (HL1.out.next hb4) (by rw [hx4]; exact lns_two' w2 ⟨4, ⟨#[]⟩, 105⟩ ⟨3, ⟨#[]⟩, -105⟩) rfl rfl (by omega) (by omega))
  rw [decide_eq_true rfl] at HSM
  have HB4 : Hid (Below x3.heap.size x3 x4) := HB2.out.trans (hb4.mono (by omega))
  have HL4 := Lib.hid (HL1.out.next hb4)
  have hn1' : (1 : Int) ≤ n1 := by have : (2 : Nat) ≤ n1 := hn1; omega
  clear hx4 hb4
  go_wp2_with fail
  rw [← HX4.out]
  refine HSM.out.mono ?_
  rintro e w5 ⟨rfl, hb⟩
  have HB5 : Hid (Below x3.heap.size x3 w5) := HB4.out.trans (hb.mono (by omega))
  have hzd := hb.size
  have HMY := Lib.hid (may_any A1 [⟨4, ⟨#[]⟩, 105⟩] 1 n1 w5 (HE.out.below (HB3.out.trans (HB5.out.mono (by omega)))) (Lns.take (HL4.out.next hb) 1) rfl (by omega) (fun x hx => by simp at hx; rcases hx with rfl; exact fitL_small _ _ (by omega) (by omega)))
  rw [pw3] at HMY
  clear hb a0 a1 a2 a3 af ag
  go_wp2_with fail
  refine HMY.out.mono ?_
  rintro e w6 ⟨rfl, hb⟩
  have HB6 := Lib.hid (HB3.out.trans ((HB5.out.trans (hb.mono (by omega))).mono (by omega)))
  clear hb
  go_wp2_with fail
  go_ret
  exact ⟨rfl, HB6.out⟩
end Go.Proofs.YtejdhemnlcbffaaDoor.Bok
