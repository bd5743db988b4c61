/- Contracts: the chapter's examples; what is read and laid in a law's own words. -/
import Derived.Test.YtckgfbpgomkpnaaW8
namespace Go.Proofs.Ytckgfbpgomkpnaa
open Go.RowKit Crc Chk Frm

theorem sect_at (n : Nat) (k : Nat) (w : World) (h : sectI (n : Int) = k) : Calls Try.prog 12 #[.int .i64 n] w fun e w' => e = .returned (.int .i64 (k : Int)) ∧ w = w' := by
  have := sect_any n w
  rwa [h] at this
def Noughts (w : World) (g : Nat) (k : Nat) : Prop := Octs w (g + 1) (some ⟨g, 0, none⟩) (noughts8 k)
theorem rd_noughts : rd (noughts8 64) = (0, [], 0, 4) := by
  unfold rd
  rw [if_neg (by simp [noughts8]), if_pos]
  intro h
  have := h.1
  revert this
  decide
theorem lay_at (s : Nat) (A : Option Addr) (d : List UInt8) (n c B : Nat) (w : World) (hn : d.length = n) (h : Octs w B A d) (hB : B ≤ w.heap.size) (h0 : 1 ≤ s) (hs : s ≤ 281474976710655) (hdl : n ≤ 6000) :
    Calls Try.prog 9 #[.agg #[.int .i64 s, .slice A n c]] w (Laid w s d) := by
  subst hn
  exact lay_yes s A d c B w h hB h0 hs hdl
theorem made_k (k : Nat) : (madeCells #[Value.int IntKind.u8 0] k).toList = (noughts8 k).map b8 := by
  unfold madeCells noughts8
  apply List.ext_getElem
  · simp
  · intro i h1 h2
    simp [Nat.mod_one]
set_option maxHeartbeats 1600000 in
theorem awake_any (w : World) : Calls Try.prog 13 #[] w fun e w' => e = .returned (.bool true) ∧ Below w.heap.size w w' := by
  obtain ⟨i0, hi, hz0, hz1, hz2⟩ := info5b
  obtain ⟨W0, hW0⟩ : ∃ W0, W0 = w.alloc (.cells #[.int .u8 97, .int .u8 98, .int .u8 99] 5 (3, 4)) := ⟨_, rfl⟩
  have HO0 : Hid (Octs W0 (w.heap.size + 1) (some ⟨w.heap.size, 0, none⟩) [97, 98, 99]) := by rw [hW0]; exact octs_new w [97, 98, 99] (3, 4)
  have HZ0 : Hid (W0.heap.size = w.heap.size + 1) := by show _ = _; rw [hW0]; exact alloc_size _ _
  have HB0 : Hid (Below w.heap.size w W0) := by rw [hW0]; exact (Below.refl _ _).alloc (Nat.le_refl _) _
  have HW0 := Lib.hid hW0
  clear hW0
  have kc := Lib.run_convert_bytes_const (P := Try.prog) w 22 5 #[.int .u8 97, .int .u8 98, .int .u8 99] 3 3 Try.underlying22 Try.underlying5
  go_enter Try.func13, Try.ntmps13
  go_wp2_with fail
  clear kc
  rw [← HW0.out]
  refine (lay_at 1 (some ⟨w.heap.size, 0, none⟩) [97, 98, 99] 3 3 (w.heap.size + 1) W0 rfl HO0.out (by have := HZ0.out; omega) (by decide) (by decide) (by decide)).mono ?_
  rintro e w1 ⟨v1, rfl, hown1, hb1⟩
  have HB1 := Lib.hid (step HB0.out hb1)
  obtain ⟨A1, c1, rfl, -, -⟩ := own_sl hown1
  have hl : (lay 1 [97, 98, 99]).length = 64 := by rw [lay_len]; rfl
  rw [hl]
  clear hb1 hown1 hl
  go_wp2_with (at_make; refine wpList_make_full w1 rfl _ _ 22 rfl w1.heap.size 5 i0 (.int .u8 0) 1 Try.underlying22 hi hz0 hz1 .i64 .i64 _ _ 64 rfl rfl rfl rfl ?b2 ?b3 (Nat.le_refl _) ?_)
  case b2 => rw [hz2]; decide
  case b3 => decide
  intro w2 hown2 hgrow2
  have hb2 : Below w1.heap.size w1 w2 := (Below.refl _ _).grown hgrow2 (Nat.le_refl _) (fun k h => by cases h)
  have HB2 := Lib.hid (step HB1.out hb2)
  have HO2 : Hid (Octs w2 w2.heap.size (some ⟨w1.heap.size, 0, none⟩) (noughts8 64)) := by
    have h1 : Own w2 w1.heap.size (.slice (some ⟨w1.heap.size, 0, none⟩) 64 64) (noughts8 64) := by
      unfold Own
      rw [made_k] at hown2
      exact hown2
    exact octs_of_own h1
  clear hown2 hgrow2 hb2
  go_wp2_with fail
  refine (read_o _ (noughts8 64) 64 64 w2.heap.size w2 (by simp [noughts8]) HO2.out (Nat.le_refl _) (Nat.le_refl _) (by decide)).mono ?_
  rintro e w3 ⟨A3, c3, rfl, -, hb3⟩
  rw [rd_noughts]
  have HB3 := Lib.hid (step HB2.out hb3)
  clear hb3
  go_wp2_with fail
  refine (sect_at 44 1 _ (by decide)).mono ?_
  rintro e w' ⟨rfl, rfl⟩
  go_wp2_with fail
  refine (sect_at 45 2 _ (by decide)).mono ?_
  rintro e w' ⟨rfl, rfl⟩
  go_wp2_with fail
  go_ret
  exact ⟨rfl, HB3.out.alloc HB3.out.size _⟩
end Go.Proofs.Ytckgfbpgomkpnaa
