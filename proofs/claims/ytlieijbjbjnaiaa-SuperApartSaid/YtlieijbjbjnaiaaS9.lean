/- Contracts: the chapter's examples. -/
import Derived.Test.YtlieijbjbjnaiaaS4
namespace Go.Proofs.Ytlieijbjbjnaiaa.Sup
open Go.RowKit Crc Chk Frm Fra

theorem ten_at : (encS ⟨4, 0, 1, 0⟩).take 10 = [98, 115, 117, 112, 0, 0, 0, 0, 0, 4] := by
  show (encN 4 0 1 0).take 10 = _
  have e : encN 4 0 1 0 = (mark ++ be 6 4) ++ (be 1 0 ++ (be 6 1 ++ (be 2 0 ++ (noughts8 41 ++ four (sumB (body 4 0 1 0)))))) := by simp [encN, sealL, body, head, List.append_assoc]
  rw [e, take_left' (by simp [mark, be_len])]
  decide
set_option maxHeartbeats 1600000 in
theorem awake_any (w : World) : Calls Try.prog 15 #[] w fun e w' => e = .returned (.bool true) ∧ Below w.heap.size w w' := by
  have HE := Lib.hid (fun W => encS_any ⟨4, 0, 1, 0⟩ W (by decide))
  have HL : Hid (∀ W, Calls Try.prog 19 #[.agg #[.int .i64 10, .int .i64 3], .int .i64 1] W fun e w' => e = .returned (.tuple #[.int .i64 36, .int .i64 0]) ∧ Below W.heap.size W w') := fun W => by
    have := log_yes 10 3 1 W (by decide) (by decide)
    simpa using this
  have HP : Hid (∀ W, Calls Try.prog 20 #[.agg #[.int .i64 10, .int .i64 3], .int .i64 0, .int .i64 2] W fun e w' => e = .returned (.tuple #[.int .i64 28, .int .i64 0]) ∧ Below W.heap.size W w') := fun W => by
    have := page_yes 10 3 0 2 W (by decide) (by decide) (by decide)
    simpa using this
  have HS : Hid (∀ W, Calls Try.prog 23 #[.agg #[.int .i64 10, .int .i64 3]] W fun e w' => e = .returned (.int .i64 70) ∧ Below W.heap.size W w') := fun W => by
    have := size_yes 10 3 W (by decide)
    simpa using this
  go_enter Try.func15, Try.ntmps15
  go_wp2_with fail
  refine (HE.out _).mono ?_
  rintro e w1 ⟨v1, rfl, hown1, hb1⟩
  obtain ⟨A, c, rfl, ho1, hc1⟩ := own_sl hown1
  rw [encS_len] at hc1 ⊢
  have HO : Hid (Octs w1 w1.heap.size A (encS ⟨4, 0, 1, 0⟩)) := ho1
  have HB1 := Lib.hid hb1
  have HCV : Hid (∀ W, Below w1.heap.size w1 W → (convert 24 9 (.slice A 10 c)).run Try.prog W = .ok (.string ⟨#[98, 115, 117, 112, 0, 0, 0, 0, 0, 4]⟩) W) := fun W hW => by
    have := octs_text (c := c) ((HO.out.below hW (Nat.le_refl _)).take 10)
    rw [ten_at] at this
    exact this
  clear hown1 ho1 hb1
  obtain ⟨W2, hW2⟩ : ∃ W2, W2 = w1.alloc (.cells #[.int .i64 10, .int .i64 3] 42) := ⟨_, rfl⟩
  have HF2 : Hid (BoxP w1.heap.size 10 3 W2) := by rw [hW2]; exact boxP_new w1 10 3
  have HB2 : Hid (Below w1.heap.size w1 W2) := by rw [hW2]; exact (Below.refl _ _).alloc (Nat.le_refl _) _
  have hz2 : w1.heap.size < W2.heap.size := by rw [hW2, alloc_size]; omega
  have HW2 := Lib.hid hW2
  clear hW2
  go_wp2_with fail
  rw [← HW2.out]
  refine (HL.out _).mono ?_
  rintro e w3 ⟨rfl, hb3⟩
  have HF3 := Lib.hid (HF2.out.below hb3 hz2)
  have HB3 := Lib.hid (step' HB2.out hb3 HB2.out.size)
  have hz3 : w1.heap.size < w3.heap.size := by have := hb3.size; omega
  clear hb3
  obtain ⟨k0, k1⟩ := HF3.out
  go_wp2_with fail
  clear k0 k1
  refine (HP.out _).mono ?_
  rintro e w4 ⟨rfl, hb4⟩
  have HF4 := Lib.hid (HF3.out.below hb4 hz3)
  have HB4 := Lib.hid (step' HB3.out hb4 HB3.out.size)
  have hz4 : w1.heap.size < w4.heap.size := by have := hb4.size; omega
  have hcv := HCV.out w4 HB4.out
  clear hb4
  obtain ⟨k0, k1⟩ := HF4.out
  go_wp2_with fail
  clear k0 k1 hcv
  refine (HS.out _).mono ?_
  rintro e w5 ⟨rfl, hb5⟩
  have HB5 := Lib.hid (step' HB4.out hb5 HB4.out.size)
  clear hb5
  go_wp2_with fail
  go_ret
  exact ⟨rfl, HB1.out.trans (HB5.out.mono HB1.out.size)⟩
end Go.Proofs.Ytlieijbjbjnaiaa.Sup
