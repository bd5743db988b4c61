/- The walk of the law CheckSame. -/
import Derived.Test.YtkobhelkagdblaaW8
namespace Go.Proofs.Ytkobhelkagdblaa
open Go.RowKit Crc

theorem own_slice {w : World} {base : Nat} {v : Value} {l : List UInt8} (h : Own w base v l) : ∃ A c, v = .slice A l.length c ∧ Octs w w.heap.size A l ∧ l.length ≤ c := by
  have h' := h
  rcases h.2 with ⟨rfl, h1⟩ | ⟨g, cap, cur, rfl, hb, hh, hc, _⟩
  · obtain rfl := List.eq_nil_of_length_eq_zero h1
    exact ⟨none, 0, rfl, (fun i hi => by cases hi), Nat.le_refl _⟩
  · exact ⟨_, cap, rfl, octs_of_own h', hc⟩
theorem own_addr {w : World} {base : Nat} {v : Value} {l : List UInt8} (h : Own w base v l) (h0 : 0 < l.length) : ∃ ad c, v = .slice (some ad) l.length c ∧ Octs w w.heap.size (some ad) l ∧ l.length ≤ c := by
  obtain ⟨g, c, rfl, _, _, hc⟩ := own_form h h0
  exact ⟨_, c, rfl, octs_of_own h, hc⟩
theorem open_sealed (ad : Addr) (l : List UInt8) (c B : Nat) (w : World) (h : Octs w B (some ad) (sealL l)) (hB : B ≤ w.heap.size) (hc : (sealL l).length ≤ c) (hl : l.length ≤ 800000) :
    Calls Try.prog 13 #[.slice (some ad) (sealL l).length c] w (Opened w l) :=
  open_yes ad l (four (sumB l)) _ c B w h hB rfl (seal_len l).symm hc (by rw [seal_len]; omega) (by rw [word_four])
theorem seal_same (l : List UInt8) : sumB (sealL l) = ~~~ shn 32 ones := by
  unfold sumB
  rw [seal_crc]
theorem step {w w1 w2 : World} (h1 : Below w.heap.size w w1) (h2 : Below w1.heap.size w1 w2) : Below w.heap.size w w2 := h1.trans (h2.mono h1.size)
theorem take300 (l : List UInt8) : (l.take 300).length ≤ 300 := List.length_take_le _ _

set_option maxHeartbeats 1600000 in
theorem same_walk (A A2 : Option Addr) (l l2 : List UInt8) (c c2 : Nat) (w : World) (h : Octs w w.heap.size A l) (h2 : Octs w w.heap.size A2 l2) (hc : l.length ≤ c) (hc2 : l2.length ≤ c2) (hm : l.length ≤ 9223372036854775807) (hm2 : l2.length ≤ 9223372036854775807) :
    Calls Try.prog 7 #[.slice A l.length c, .slice A2 l2.length c2] w fun e w' => e = .returned (.bool true) ∧ Below w.heap.size w w' := by
  have F1 := Lib.hid (fun W => few_any A l c W hc hm)
  have F2 := Lib.hid (fun W => few_any A2 l2 c2 W hc2 hm2)
  obtain ⟨a, ha⟩ : ∃ a, a = l.take 300 := ⟨_, rfl⟩
  obtain ⟨b, hb⟩ : ∃ b, b = l2.take 300 := ⟨_, rfl⟩
  have hal : a.length ≤ 300 := by rw [ha]; exact take300 l
  have hbl : b.length ≤ 300 := by rw [hb]; exact take300 l2
  have OA := Lib.hid (h.take 300)
  have OB := Lib.hid (h2.take 300)
  rw [← ha] at F1 OA
  rw [← hb] at F2 OB
  clear ha hb h h2
  go_enter Try.func7, Try.ntmps7
  go_wp2_with fail
  refine (F1.out _).mono ?_
  rintro e w' ⟨rfl, rfl⟩
  go_wp2_with fail
  refine (F2.out _).mono ?_
  rintro e w' ⟨rfl, rfl⟩
  clear F1 F2
  go_wp2_with fail
  refine (seal_any A a c w.heap.size _ OA.out (Nat.le_refl _) (by omega)).mono ?_
  rintro e w1 ⟨v1, rfl, hown1, hb1⟩
  have hs1 := seal_len a
  obtain ⟨d1, e1, rfl, o1, hle1⟩ := own_addr hown1 (by omega)
  have O1 := Lib.hid o1
  have HS1 := Lib.hid hs1
  clear o1 hown1 hs1
  go_wp2_with fail
  refine (seal_any (some d1) (sealL a) e1 w1.heap.size _ O1.out (Nat.le_refl _) (by have := HS1.out; omega)).mono ?_
  rintro e w2 ⟨v2, rfl, hown2, hb2⟩
  have hs2 := seal_len (sealL a)
  obtain ⟨d2, e2, rfl, o2, hle2⟩ := own_addr hown2 (by omega)
  have O2 := Lib.hid o2
  have hb2' := step hb1 hb2
  clear o2 hown2 hs2 O1
  go_wp2_with fail
  refine (open_sealed d2 (sealL a) e2 w2.heap.size _ O2.out (Nat.le_refl _) hle2 (by have := HS1.out; omega)).mono ?_
  rintro e w3 ⟨v3, rfl, hown3, hb3⟩
  obtain ⟨d3, e3, rfl, o3, hle3⟩ := own_addr hown3 (by have := HS1.out; omega)
  have O3 := Lib.hid o3
  have hb3' := step hb2' hb3
  clear o3 hown3 O2
  go_wp2_with fail
  refine (open_sealed d3 a e3 w3.heap.size _ O3.out (Nat.le_refl _) hle3 (by omega)).mono ?_
  rintro e w4 ⟨v4, rfl, hown4, hb4⟩
  obtain ⟨A4, e4, rfl, o4, hle4⟩ := own_slice hown4
  have O4 := Lib.hid o4
  have hb4' := step hb3' hb4
  clear o4 hown4 O3
  go_wp2_with fail
  refine (seal_any A a c w.heap.size _ (OA.out.below hb4' (Nat.le_refl _)) hb4'.size (by omega)).mono ?_
  rintro e w5 ⟨v5, rfl, hown5, hb5⟩
  obtain ⟨d5, e5, rfl, o5, hle5⟩ := own_addr hown5 (by have := HS1.out; omega)
  have O5 := Lib.hid o5
  have hb5' := step hb4' hb5
  clear o5 hown5
  go_wp2_with fail
  refine (sum_at (some d5) (sealL a) _ e5 w5.heap.size _ rfl O5.out (Nat.le_refl _) (by have := HS1.out; omega)).mono ?_
  rintro e w6 ⟨rfl, hb6⟩
  have hb6' := step hb5' hb6
  go_wp2_with fail
  refine (seal_any A2 b c2 w.heap.size _ (OB.out.below hb6' (Nat.le_refl _)) hb6'.size (by omega)).mono ?_
  rintro e w7 ⟨v7, rfl, hown7, hb7⟩
  have hs7 := seal_len b
  obtain ⟨d7, e7, rfl, o7, hle7⟩ := own_addr hown7 (by omega)
  have O7 := Lib.hid o7
  have HS7 := Lib.hid hs7
  have hb7' := step hb6' hb7
  clear o7 hown7 hs7
  go_wp2_with fail
  refine (sum_at (some d7) (sealL b) _ e7 w7.heap.size _ rfl O7.out (Nat.le_refl _) (by have := HS7.out; omega)).mono ?_
  rintro e w8 ⟨rfl, hb8⟩
  have hb8' := step hb7' hb8
  have hq : (((sumB (sealL a)).toNat : Int) == ((sumB (sealL b)).toNat : Int)) = true := by rw [seal_same, seal_same]; simp
  have hcv1 := octs_text (c := e4) ((((O4.out.below hb5 (Nat.le_refl _)).below hb6 hb5.size).below hb7 (Nat.le_trans hb5.size hb6.size)).below hb8 (Nat.le_trans hb5.size (Nat.le_trans hb6.size hb7.size)))
  have hcv2 := octs_text (c := c) (OA.out.below hb8' (Nat.le_refl _))
  go_wp2_with fail
  refine (awake_any _).mono ?_
  rintro e w9 ⟨rfl, hb9⟩
  go_wp2_with fail
  go_ret
  exact ⟨rfl, step hb8' hb9⟩
end Go.Proofs.Ytkobhelkagdblaa
