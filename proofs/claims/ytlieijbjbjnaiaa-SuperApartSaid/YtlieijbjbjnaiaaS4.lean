/- Contracts: Encode. -/
import Derived.Test.YtlieijbjbjnaiaaS3
namespace Go.Proofs.Ytlieijbjbjnaiaa.Sup
open Go.RowKit Crc Chk Frm Fra

theorem own_sl {w : World} {base : Nat} {v : Value} {l : List UInt8} (h : Own w base v l) : ∃ A c, v = .slice A l.length c ∧ Octs w w.heap.size A l ∧ l.length ≤ c := by
  have h' := h
  rcases h.2 with ⟨rfl, h1⟩ | ⟨g, cap, cur, rfl, hb, hh, hc, _⟩
  · obtain rfl := List.eq_nil_of_length_eq_zero h1
    exact ⟨none, 0, rfl, (fun i hi => by cases hi), Nat.le_refl _⟩
  · exact ⟨_, cap, rfl, octs_of_own h', hc⟩
theorem own_kept {w w' : World} {base B : Nat} {v : Value} {l : List UInt8} (h : Own w base v l) (hb : Below B w w') (hB : w.heap.size ≤ B) : Own w' base v l := by
  refine ⟨h.1, ?_⟩
  rcases h.2 with h2 | ⟨g, cap, cur, hv, hbg, hh, h3⟩
  · exact .inl h2
  · refine .inr ⟨g, cap, cur, hv, hbg, ?_, h3⟩
    have hlt : g < w.heap.size := by
      rcases Nat.lt_or_ge g w.heap.size with hlt | hge
      · exact hlt
      · rw [Array.getElem?_eq_none hge] at hh; cases hh
    rw [← hh]
    exact hb.block g (by omega)
theorem own_less {w : World} {base B : Nat} {v : Value} {l : List UInt8} (h : Own w base v l) (hB : B ≤ base) : Own w B v l := by
  refine ⟨h.1, ?_⟩
  rcases h.2 with h2 | ⟨g, cap, cur, hv, hbg, h3⟩
  · exact .inl h2
  · exact .inr ⟨g, cap, cur, hv, by omega, h3⟩
theorem step' {B : Nat} {w w1 w2 : World} (h1 : Below B w w1) (h2 : Below w1.heap.size w1 w2) (hB : B ≤ w1.heap.size) : Below B w w2 := h1.trans (h2.mono hB)
theorem enc_no (g h n p : Int) (w : World) (hm : mayB ⟨g, h, n, p⟩ = false) :
    Calls Try.prog 14 #[.agg #[.int .i64 g, .int .i64 h, .int .i64 n, .int .i64 p]] w fun e w' => e = .returned (.tuple #[.slice none 0 0, .int .i64 1]) ∧ Below w.heap.size w w' := by
  have HM := Lib.hid (fun w => may_at g h n p false w hm)
  clear hm
  go_enter Try.func14, Try.ntmps14
  go_wp2_with fail
  refine (HM.out _).mono ?_
  rintro e w1 ⟨rfl, hb1⟩
  have HB := Lib.hid (below_box hb1)
  clear hb1
  go_wp2_with fail
  go_ret2
  exact ⟨rfl, HB.out⟩
def EncD (w : World) (l : List UInt8) (e : Ending) (w' : World) : Prop := ∃ v, e = .returned (.tuple #[v, .int .i64 0]) ∧ Own w' w.heap.size v l ∧ Below w.heap.size w w'
set_option maxHeartbeats 3200000 in
theorem enc_yes (g h n p : Nat) (w : World) (hm : mayB ⟨g, h, n, p⟩ = true) :
    Calls Try.prog 14 #[.agg #[.int .i64 g, .int .i64 h, .int .i64 n, .int .i64 p]] w (EncD w (encN g h n p)) := by
  obtain ⟨i0, hi, hz0, hz1, hz2⟩ := info5b
  have HM := Lib.hid (fun w => may_at g h n p true w hm)
  clear hm
  obtain ⟨W0, hW0⟩ : ∃ W0, W0 = w.alloc (.cells #[.int .i64 (g : Int), .int .i64 (h : Int), .int .i64 (n : Int), .int .i64 (p : Int)] 23) := ⟨_, rfl⟩
  have hz0' : W0.heap.size = w.heap.size + 1 := by rw [hW0]; exact alloc_size _ _
  have HF : Hid (BoxS w.heap.size ⟨g, h, n, p⟩ W0) := by rw [hW0]; exact boxS_new w ⟨g, h, n, p⟩
  have HB0 : Hid (Below w.heap.size w W0) := by rw [hW0]; exact (Below.refl _ _).alloc (Nat.le_refl _) _
  have HW0 := Lib.hid hW0
  have HZ0 := Lib.hid hz0'
  clear hW0 hz0'
  go_enter Try.func14, Try.ntmps14
  go_wp2_with fail
  rw [← HW0.out]
  refine (HM.out _).mono ?_
  rintro e w1 ⟨rfl, hb1⟩
  have HB1 : Hid (Below W0.heap.size W0 w1) := hb1
  clear hb1
  go_wp2_with (at_make; refine wpList_make_own w1 rfl _ _ 24 rfl W0.heap.size 5 i0 (.int .u8 0) 1 Try.underlying24 hi hz0 hz1 .i64 .i64 _ 64 rfl rfl ?b1 ?b2 ?b3 ?b4 ?_)
  case b1 => omega
  case b2 => rw [hz2]; omega
  case b3 => simp only [maxLen]; omega
  case b4 => exact HB1.out.size
  intro w2 hown2 hgrow2
  have HB2 : Hid (Below W0.heap.size W0 w2) := HB1.out.grown hgrow2 HB1.out.size (fun k h => by cases h)
  obtain ⟨v3, w3, hrun3, hown3, hgrow3⟩ := run_app_str w2 W0.heap.size _ [] hown2 mark (by simp [mark]) HB2.out.size
  have HB3 : Hid (Below W0.heap.size W0 w3) := HB2.out.grown hgrow3 HB2.out.size (fun k h => (hown2.lt k h).1)
  have HO3 : Hid (Own w3 W0.heap.size v3 mark) := hown3
  have HR3 := Lib.hid hrun3
  have hF0 : w.heap.size < W0.heap.size := by have := HZ0.out; omega
  obtain ⟨c3, -⟩ := HF.out.below HB3.out hF0
  clear hrun3 hown3 hgrow3 hown2 hgrow2
  go_wp2_with (at_builtin; refine Go.Lib.wpList_append_run w2 rfl (.tmp 9) (.const (.string ⟨#[98, 115, 117, 112]⟩)) 24 9 rfl _ _ rfl rfl v3 w3 HR3.out ?_)
  clear c3
  refine (put_any g 6 v3 mark W0.heap.size w3 HO3.out HB3.out.size (by omega) (by simp [mark])).mono ?_
  rintro e w4 ⟨v4, rfl, hown4, hb4⟩
  have HB4 : Hid (Below W0.heap.size W0 w4) := HB3.out.trans hb4
  have HO4 := Lib.hid hown4
  obtain ⟨-, c4, -⟩ := HF.out.below HB4.out hF0
  clear hown4 hb4 HO3 HR3 HB2 HB1
  go_wp2_with fail
  clear c4
  refine (put_any h 1 v4 _ W0.heap.size w4 HO4.out HB4.out.size (by omega) (by simp [mark, be_len])).mono ?_
  rintro e w5 ⟨v5, rfl, hown5, hb5⟩
  have HB5 : Hid (Below W0.heap.size W0 w5) := HB4.out.trans hb5
  have HO5 := Lib.hid hown5
  obtain ⟨-, -, c5, -⟩ := HF.out.below HB5.out hF0
  clear hown5 hb5 HO4
  go_wp2_with fail
  clear c5
  refine (put_any n 6 v5 _ W0.heap.size w5 HO5.out HB5.out.size (by omega) (by simp [mark, be_len])).mono ?_
  rintro e w6 ⟨v6, rfl, hown6, hb6⟩
  have HB6 : Hid (Below W0.heap.size W0 w6) := HB5.out.trans hb6
  have HO6 := Lib.hid hown6
  obtain ⟨-, -, -, c6⟩ := HF.out.below HB6.out hF0
  clear hown6 hb6 HO5
  go_wp2_with fail
  clear c6
  refine (put_any p 2 v6 _ W0.heap.size w6 HO6.out HB6.out.size (by omega) (by simp [mark, be_len])).mono ?_
  rintro e w7 ⟨v7, rfl, hown7, hb7⟩
  have HB7 : Hid (Below W0.heap.size W0 w7) := HB6.out.trans hb7
  have HO7 : Hid (Own w7 W0.heap.size v7 (head g h n p)) := hown7
  clear hown7 hb7 HO6
  have hl7 := head_len g h n p
  obtain ⟨v8, w8, hrun8, hown8, hgrow8⟩ := run_app_zeros w7 W0.heap.size v7 _ HO7.out (by rw [hl7]; omega) 41 (by rw [hl7]; omega) HB7.out.size
  have HB8 : Hid (Below W0.heap.size W0 w8) := HB7.out.grown hgrow8 HB7.out.size (fun k h => (HO7.out.lt k h).1)
  have HO8 : Hid (Own w8 W0.heap.size v8 (body g h n p)) := hown8
  obtain ⟨A7, e7, hv7, o7, hc7⟩ := own_sl HO7.out
  subst hv7
  rw [hl7] at hrun8 hc7 ⊢
  have HR8 := Lib.hid hrun8
  clear hrun8 hown8 hgrow8 o7 HO7
  obtain ⟨A8, e8, hv8, o8, hc8⟩ := own_sl HO8.out
  subst hv8
  have hl8 := body_len g h n p
  have HO8' := Lib.hid o8
  have HL8 := Lib.hid hl8
  clear o8 hl7
  rw [hl8] at HR8 hc8 HO8
  clear hl8
  go_wp2_with (at_builtin; refine Go.Lib.wpList_append_run w7 rfl (.tmp 27) (.tmp 30) 24 3 rfl _ _ rfl rfl _ w8 HR8.out ?_)
  have HSL := Lib.hid (seal_any A8 (body g h n p) e8 w8.heap.size w8 HO8'.out (Nat.le_refl _) (by rw [HL8.out]; omega))
  rw [HL8.out] at HSL
  refine HSL.out.mono ?_
  rintro e w9 ⟨v9, rfl, hown9, hb9⟩
  have HB9 : Hid (Below W0.heap.size W0 w9) := step' HB8.out hb9 HB8.out.size
  have HO9 := Lib.hid hown9
  clear hown9 hb9
  go_wp2_with fail
  go_ret2
  exact ⟨v9, rfl, own_less HO9.out (by have := HB8.out.size; omega), HB0.out.trans (HB9.out.mono (by omega))⟩
theorem encS_any (s : Sp) (w : World) (hm : mayB s = true) :
    Calls Try.prog 14 #[sv s] w (EncD w (encS s)) := by
  obtain ⟨g, h, n, p⟩ := s
  have hx := may_iff.1 hm
  dsimp only at hx
  obtain ⟨g', rfl⟩ : ∃ k : Nat, g = k := ⟨g.toNat, by omega⟩
  obtain ⟨h', rfl⟩ : ∃ k : Nat, h = k := ⟨h.toNat, by omega⟩
  obtain ⟨n', rfl⟩ : ∃ k : Nat, n = k := ⟨n.toNat, by omega⟩
  obtain ⟨p', rfl⟩ : ∃ k : Nat, p = k := ⟨p.toNat, by omega⟩
  exact enc_yes g' h' n' p' w hm
end Go.Proofs.Ytlieijbjbjnaiaa.Sup
