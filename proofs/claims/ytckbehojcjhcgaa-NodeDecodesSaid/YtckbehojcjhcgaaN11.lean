/- Contracts: the chapter's examples. -/
import Derived.Test.YtckbehojcjhcgaaN10
namespace Go.Proofs.Ytckbehojcjhcgaa.Nod
open Go.RowKit Crc Chk Frm Fra

abbrev ex1 : Nd := ⟨[([97], [120, 121])], [], []⟩
abbrev ex2 : Nd := ⟨[], [], [1]⟩
theorem ex1_may : mayB ex1 = true := by decide
theorem ex2_may : mayB ex2 = false := by decide
theorem eight_at : (pageL ex1).take 8 = [0, 1, 1, 97, 2, 120, 121, 0] := by
  have e : pageL ex1 = [0, 1, 1, 97, 2, 120, 121, 0] ++ (noughts8 500 ++ four (sumB (bodyL ex1))) := by
    have h1 : layL ex1 = [0, 1, 1, 97, 2, 120, 121] := by decide
    have h2 : bodyL ex1 = [0, 1, 1, 97, 2, 120, 121] ++ noughts8 501 := by unfold bodyL; rw [h1]; rfl
    have h3 : noughts8 501 = 0 :: noughts8 500 := rfl
    show sealL (bodyL ex1) = _
    unfold sealL
    rw [h2, h3]
    simp
  rw [e]
  exact take_left' rfl
theorem z_1 : shn 508 ones = 3146197075#32 := by decide +kernel
theorem z_2 : shn 508 3146197075#32 = 2796358129#32 := by decide +kernel
theorem z_3 : shn 508 2796358129#32 = 4288307603#32 := by decide +kernel
theorem z_4 : shn 508 4288307603#32 = 4082003077#32 := by decide +kernel
theorem z_5 : shn 508 4082003077#32 = 1632075300#32 := by decide +kernel
theorem z_6 : shn 508 1632075300#32 = 3566610768#32 := by decide +kernel
theorem z_7 : shn 508 3566610768#32 = 2598952780#32 := by decide +kernel
theorem z_8 : shn 508 2598952780#32 = 3578339855#32 := by decide +kernel
theorem crc_noughts (k : Nat) (x : BitVec 32) : crc x (noughts8 k) = shn (8 * k) x := by
  induction k generalizing x with
  | zero => rfl
  | succ k ih =>
    have e : noughts8 (k + 1) = 0 :: noughts8 k := rfl
    have e2 : st x 0 = shn 8 x := by
      unfold st o
      simp
    rw [e, crc_cons, ih, e2, ← shn_add, show 8 + 8 * k = 8 * (k + 1) by omega]
theorem crc_zero : (sumB (noughts8 508)).toNat ≠ 0 := by
  have e : crc ones (noughts8 508) = 3578339855#32 := by
    rw [crc_noughts, show 8 * 508 = 508 + (508 + (508 + (508 + (508 + (508 + (508 + 508)))))) from rfl, shn_add, shn_add, shn_add, shn_add, shn_add, shn_add, shn_add, z_1, z_2, z_3, z_4, z_5, z_6, z_7, z_8]
  unfold sumB
  rw [e]
  decide
theorem dec_zer : decN zer512 = (Nd.nil, 6) := by
  have hl : zer512.length = 512 := List.length_replicate
  refine dec_sum hl (decide_eq_false ?_)
  have h1 : zer512.take 508 = noughts8 508 := by unfold zer512 noughts8; rw [List.take_replicate]; rfl
  have h2 : zer512.drop 508 = [0, 0, 0, 0] := by unfold zer512 noughts8; rw [List.drop_replicate]; rfl
  rw [h1, h2]
  intro e
  exact crc_zero (by rw [e]; decide)
theorem ex1_is (w : World) : IsN (w.alloc (.cells #[.string ⟨#[97]⟩, .string ⟨#[120, 121]⟩] 49)) (w.alloc (.cells #[.string ⟨#[97]⟩, .string ⟨#[120, 121]⟩] 49)).heap.size ex1 (some ⟨w.heap.size, 0, none⟩) 1 1 none 0 0 none 0 0 := by
  refine ⟨fun i hi => ?_, (fun i hi => by cases hi), (fun i hi => by cases hi), rfl, rfl, rfl, Nat.le_refl _, Nat.le_refl _, Nat.le_refl _, by omega, by omega, by omega⟩
  have : i = 0 := by simp at hi; omega
  subst this
  exact ⟨w.heap.size, 0, rfl, by rw [alloc_size]; omega, World.cell?_alloc_new w _ 49 0, World.cell?_alloc_new w _ 49 1⟩
theorem ex2_is (w : World) : IsN (w.alloc (.cells #[.int .i64 1] 3)) (w.alloc (.cells #[.int .i64 1] 3)).heap.size ex2 none 0 0 none 0 0 (some ⟨w.heap.size, 0, none⟩) 1 1 := by
  refine ⟨(fun i hi => by cases hi), (fun i hi => by cases hi), fun i hi => ?_, rfl, rfl, rfl, Nat.le_refl _, Nat.le_refl _, Nat.le_refl _, by omega, by omega, by omega⟩
  have : i = 0 := by simp at hi; omega
  subst this
  exact ⟨w.heap.size, 0, rfl, by rw [alloc_size]; omega, World.cell?_alloc_new w _ 3 0, by show (-9223372036854775808 : Int) ≤ 1; decide, by show (1 : Int) ≤ 9223372036854775807; decide⟩
theorem octs_zer (w : World) : Octs (w.alloc (.cells (zer512.map b8).toArray 5)) (w.alloc (.cells (zer512.map b8).toArray 5)).heap.size (some ⟨w.heap.size, 0, none⟩) zer512 :=
  octs_cells (heap_alloc_new w _) (by rw [alloc_size]; omega)
set_option maxHeartbeats 1600000 in
theorem awake_any (w : World) : Calls Try.prog 16 #[] w fun e w' => e = .returned (.bool true) ∧ Below w.heap.size w w' := by
  obtain ⟨W1, hW1⟩ : ∃ W1, W1 = w.alloc (.cells #[.string ⟨#[97]⟩, .string ⟨#[120, 121]⟩] 49) := ⟨_, rfl⟩
  have hE := enc_yes ex1 (some ⟨w.heap.size, 0, none⟩) 1 1 none 0 0 none 0 0 _ (ex1_is w) ex1_may
  rw [← hW1] at hE
  have HE := Lib.hid hE
  have HB1 : Hid (Below w.heap.size w W1) := by rw [hW1]; exact (Below.refl _ _).alloc (Nat.le_refl _) _
  have HW1 := Lib.hid hW1
  have hmk := make512
  clear hW1 hE
  go_enter Try.func16, Try.ntmps16
  go_wp2_with fail
  rw [← HW1.out]
  refine HE.out.mono ?_
  rintro e w2 ⟨v2, rfl, hown2, hb2⟩
  obtain ⟨A, c, rfl, ho2, hc2⟩ := own_sl hown2
  rw [page_len ex1_may] at hc2 ⊢
  have HO2 : Hid (Octs w2 w2.heap.size A (pageL ex1)) := ho2
  have HB2 := Lib.hid (step' HB1.out hb2 HB1.out.size)
  have HCV : Hid (∀ W, Below w2.heap.size w2 W → (convert 29 9 (.slice A 8 c)).run Try.prog W = .ok (.string ⟨#[0, 1, 1, 97, 2, 120, 121, 0]⟩) W) := fun W hW => by
    have := octs_text (c := c) ((HO2.out.below hW (Nat.le_refl _)).take 8)
    rw [eight_at] at this
    exact this
  obtain ⟨W3, hW3⟩ : ∃ W3, W3 = w2.alloc (.cells #[.int .i64 1] 3) := ⟨_, rfl⟩
  have hE2 := enc_no ex2 none 0 0 none 0 0 (some ⟨w2.heap.size, 0, none⟩) 1 1 _ (ex2_is w2) ex2_may
  rw [← hW3] at hE2
  have HE2 := Lib.hid hE2
  have HB3 : Hid (Below w2.heap.size w2 W3) := by rw [hW3]; exact (Below.refl _ _).alloc (Nat.le_refl _) _
  have HW3 := Lib.hid hW3
  clear hown2 ho2 hb2 hW3 hE2
  go_wp2_with fail
  rw [← HW3.out]
  refine HE2.out.mono ?_
  rintro e w4 ⟨rfl, hb4⟩
  have HB4 := Lib.hid (step' HB3.out hb4 HB3.out.size)
  obtain ⟨W5, hW5⟩ : ∃ W5, W5 = w4.alloc (.cells (zer512.map b8).toArray 5) := ⟨_, rfl⟩
  have hD := dec_any (some ⟨w4.heap.size, 0, none⟩) zer512 512 512 _ _ (octs_zer w4) (Nat.le_refl _) List.length_replicate (Nat.le_refl _)
  rw [← hW5, dec_zer] at hD
  have HD := Lib.hid hD
  have HB5 : Hid (Below w4.heap.size w4 W5) := by rw [hW5]; exact (Below.refl _ _).alloc (Nat.le_refl _) _
  have HW5 := Lib.hid hW5
  clear hb4 hW5 hD
  go_wp2_with fail
  rw [← HW5.out]
  refine HD.out.mono ?_
  rintro e w6 ⟨A1, n1, c1, A2, n2, c2, A3, n3, c3, rfl, hn6, hb6⟩
  have HB6 : Hid (Below w2.heap.size w2 w6) := step' (step' HB4.out HB5.out HB4.out.size) hb6 (by have := HB4.out.size; have := HB5.out.size; omega)
  clear hb6 hn6 hmk
  obtain ⟨W7, hW7⟩ : ∃ W7, W7 = w6.alloc (.cells #[.slice A1 n1 c1, .slice A2 n2 c2, .slice A3 n3 c3] 26) := ⟨_, rfl⟩
  have HB7 : Hid (Below w2.heap.size w2 W7) := by rw [hW7]; exact HB6.out.alloc HB6.out.size _
  have hcv := HCV.out W7 HB7.out
  have HW7 := Lib.hid hW7
  clear hW7
  go_upto_region 4 with fail
  rw [← HW7.out]
  go_wp2_with fail
  go_ret
  exact ⟨rfl, HB2.out.trans (HB7.out.mono HB2.out.size)⟩
end Go.Proofs.Ytckbehojcjhcgaa.Nod
