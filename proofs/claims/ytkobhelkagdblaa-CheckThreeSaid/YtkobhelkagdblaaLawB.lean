/- The walk of the law CheckSeals. -/
import Derived.Test.YtkobhelkagdblaaLawA
import Derived.Deep.RegionHeld3
namespace Go.Proofs.Ytkobhelkagdblaa
open Go.RowKit Crc

theorem octs_txt {w : World} {B c : Nat} {A : Option Addr} {l : List UInt8} (h : Octs w B A l) : (convert 23 9 (.slice A l.length c)).run Try.prog w = .ok (.string (text l)) w := octs_text h
def OpenedAs (w : World) (r : List UInt8) (k : Int) (e : Ending) (w' : World) : Prop := ∃ A c, e = .returned (.tuple #[.slice A r.length c, .int .i64 k]) ∧ Octs w' w'.heap.size A r ∧ Below w.heap.size w w'
theorem opens_both (A : Option Addr) (l : List UInt8) (c : Nat) (hc : l.length ≤ c) (hl : l.length ≤ 800000) : ∃ (r : List UInt8) (k : Int),
    (∀ (W : World) (B : Nat), Octs W B A l → B ≤ W.heap.size → Calls Try.prog 13 #[.slice A l.length c] W (OpenedAs W r k)) ∧
    (∀ W : World, Calls Try.prog 14 #[.string (text l)] W fun e w' => e = .returned (.tuple #[.string (text r), .int .i64 k]) ∧ Below W.heap.size W w') := by
  by_cases h4 : l.length < 4
  · refine ⟨[], 3, fun W B _ _ => ?_, fun W => ?_⟩
    · exact (open_short A l.length c W h4).mono fun e w' ⟨he, hw⟩ => ⟨none, 0, he, (fun i hi => by cases hi), by rw [← hw]; exact Below.refl _ _⟩
    · exact (ropen_short l W h4).mono fun e w' ⟨he, hw⟩ => ⟨he, by rw [← hw]; exact Below.refl _ _⟩
  · obtain ⟨m, t, rfl, ht⟩ : ∃ m t : List UInt8, l = m ++ t ∧ t.length = 4 := ⟨l.take (l.length - 4), l.drop (l.length - 4), (List.take_append_drop _ _).symm, by rw [List.length_drop]; omega⟩
    have hn : m.length + 4 = (m ++ t).length := by rw [List.length_append, ht]
    have addr : ∀ (W : World) (B : Nat), Octs W B A (m ++ t) → ∃ ad, A = some ad := fun W B h => by
      obtain ⟨ad, e, _⟩ := h 0 (by omega)
      exact ⟨ad, e⟩
    by_cases hs : sumB m = word 0#32 t
    · refine ⟨m, 0, fun W B h hB => ?_, fun W => ropen_yes m t W ht (by omega) hs⟩
      obtain ⟨ad, rfl⟩ := addr W B h
      refine (open_yes ad m t _ c B W h hB ht hn hc (by omega) hs).mono fun e w' ⟨v, he, hown, hb⟩ => ?_
      obtain ⟨A', c', rfl, ho, _⟩ := own_slice hown
      exact ⟨A', c', he, ho, hb⟩
    · refine ⟨[], 6, fun W B h hB => ?_, fun W => ropen_no m t W ht (by omega) hs⟩
      obtain ⟨ad, rfl⟩ := addr W B h
      exact (open_no ad m t _ c B W h hB ht hn hc (by omega) hs).mono fun e w' ⟨he, hb⟩ => ⟨none, 0, he, (fun i hi => by cases hi), hb⟩

set_option maxHeartbeats 1600000 in
theorem seals_walk (A A2 : Option Addr) (l l2 : List UInt8) (c c2 : Nat) (w : World) (h : Octs w w.heap.size A l) (h2 : Octs w w.heap.size A2 l2) (hc : l.length ≤ c) (hc2 : l2.length ≤ c2) (hm : l.length ≤ 9223372036854775807) (hm2 : l2.length ≤ 9223372036854775807) :
    Calls Try.prog 4 #[.slice A l.length c, .slice A2 l2.length c2] w fun e w' => e = .returned (.bool true) ∧ Below w.heap.size w w' := by
  have F1 := Lib.hid (fun W => few_any A l c W hc hm)
  have F2 := Lib.hid (fun W => few_any A2 l2 c2 W hc2 hm2)
  obtain ⟨a, ha⟩ : ∃ a, a = l.take 300 := ⟨_, rfl⟩
  obtain ⟨b, hb⟩ : ∃ b, b = l2.take 300 := ⟨_, rfl⟩
  have hal : a.length ≤ 300 := by rw [ha]; exact take300 l
  have hbl : b.length ≤ 300 := by rw [hb]; exact take300 l2
  have hbc : b.length ≤ c2 := by rw [hb, List.length_take]; omega
  have OA := Lib.hid (h.take 300)
  have OB := Lib.hid (h2.take 300)
  rw [← ha] at F1 OA
  rw [← hb] at F2 OB
  clear ha hb h h2
  obtain ⟨r, k, hop, hrop⟩ := opens_both A2 b c2 hbc (by omega)
  have HOP := Lib.hid hop
  have HROP := Lib.hid hrop
  clear hop hrop
  go_enter Try.func4, Try.ntmps4
  go_wp2_with fail
  refine (F1.out _).mono ?_
  rintro e w' ⟨rfl, rfl⟩
  go_wp2_with fail
  refine (F2.out _).mono ?_
  rintro e w' ⟨rfl, rfl⟩
  clear F1 F2
  have hcv0 := octs_txt (c := c) OA.out
  go_wp2_with fail
  clear hcv0
  refine (seal_any A a c w.heap.size _ OA.out (Nat.le_refl _) (by omega)).mono ?_
  rintro e w1 ⟨v1, rfl, hown1, hb1⟩
  have hs1 := seal_len a
  obtain ⟨d1, e1, rfl, o1, hle1⟩ := own_addr hown1 (by omega)
  have O1 := Lib.hid o1
  have HS1 := Lib.hid hs1
  clear o1 hown1 hs1
  go_wp2_with fail
  refine (open_sealed d1 a e1 w1.heap.size _ O1.out (Nat.le_refl _) hle1 (by omega)).mono ?_
  rintro e w3 ⟨v3, rfl, hown3, hb3⟩
  obtain ⟨A3, e3, rfl, o3, hle3⟩ := own_slice hown3
  have O3 := Lib.hid o3
  have hb3' := step hb1 hb3
  have O1' : Hid (Octs w3 w3.heap.size (some d1) (sealL a)) := (O1.out.below hb3 (Nat.le_refl _)).more hb3.size
  clear o3 hown3 O1
  go_wp2_with fail
  refine (HOP.out _ w.heap.size (OB.out.below hb3' (Nat.le_refl _)) hb3'.size).mono ?_
  rintro e w4 ⟨A4, e4, rfl, o4, hb4⟩
  have O4 := Lib.hid o4
  have hb4' := step hb3' hb4
  clear o4
  have hcv4 := octs_txt (c := c2) (OB.out.below hb4' (Nat.le_refl _))
  go_wp2_with fail
  clear hcv4
  refine (HROP.out _).mono ?_
  rintro e w5 ⟨rfl, hb5⟩
  have hb5' := step hb4' hb5
  have S1 := (O1'.out.below hb4 (Nat.le_refl _)).below hb5 hb4.size
  have S3 := (O3.out.below hb4 (Nat.le_refl _)).below hb5 hb4.size
  have S4 := O4.out.below hb5 (Nat.le_refl _)
  have S0 := OA.out.below hb5' (Nat.le_refl _)
  have L1 : w3.heap.size ≤ w5.heap.size := Nat.le_trans hb4.size hb5.size
  have L4 := hb5.size
  have L0 := hb5'.size
  have KS : Hid (∀ w' : World, Below w5.heap.size w5 w' →
      ((convert 23 9 (.slice (some d1) (sealL a).length e1)).run Try.prog w' = .ok (.string (text (sealL a))) w' ∧
       (convert 23 9 (.slice A3 a.length e3)).run Try.prog w' = .ok (.string (text a)) w' ∧
       (convert 23 9 (.slice A4 r.length e4)).run Try.prog w' = .ok (.string (text r)) w' ∧
       (convert 23 9 (.slice A a.length c)).run Try.prog w' = .ok (.string (text a)) w')) := fun w' hb =>
    ⟨octs_txt (S1.below hb L1), octs_txt (S3.below hb L1), octs_txt (S4.below hb L4), octs_txt (S0.below hb L0)⟩
  clear S1 S3 S4 S0 L1 L4 L0 O1' O3 O4 HOP HROP
  go_wp2_with fail
  go_region_held3 (fun w' => (convert 23 9 (.slice (some d1) (sealL a).length e1)).run Try.prog w' = .ok (.string (text (sealL a))) w' ∧
       (convert 23 9 (.slice A3 a.length e3)).run Try.prog w' = .ok (.string (text a)) w' ∧
       (convert 23 9 (.slice A4 r.length e4)).run Try.prog w' = .ok (.string (text r)) w' ∧
       (convert 23 9 (.slice A a.length c)).run Try.prog w' = .ok (.string (text a)) w') (first | exact KS.out _ (below_drewN w5 1) | exact KS.out _ hx7 | exact KS.out _ hx6)
    (first
    | (go_at_call 15
       refine (rseal_any a _ (by omega)).mono ?_
       rintro e w6 ⟨rfl, hb6⟩
       have hx6 : Below w5.heap.size w5 w6 := (below_drewN w5 1).trans hb6)
    | (go_at_call 11
       refine (awake_any _).mono ?_
       rintro e w7 ⟨rfl, hb7⟩
       have hx7 : Below w5.heap.size w5 w7 := step hx6 hb7))
  go_wp2_with fail
  go_ret
  exact ⟨rfl, step hb5' hx7⟩
theorem seals_walk2 (A : Option Addr) (l : List UInt8) (c : Nat) (A2 : Option Addr) (l2 : List UInt8) (c2 : Nat) (w : World) (h : Octs w w.heap.size A l) (hc : l.length ≤ c) (hm : l.length ≤ 9223372036854775807)
    (h2 : Octs w w.heap.size A2 l2) (hc2 : l2.length ≤ c2) (hm2 : l2.length ≤ 9223372036854775807) :
    Calls Try.prog 4 #[.slice A l.length c, .slice A2 l2.length c2] w fun e w' => e = .returned (.bool true) ∧ Below w.heap.size w w' :=
  seals_walk A A2 l l2 c c2 w h h2 hc hc2 hm hm2
end Go.Proofs.Ytkobhelkagdblaa
