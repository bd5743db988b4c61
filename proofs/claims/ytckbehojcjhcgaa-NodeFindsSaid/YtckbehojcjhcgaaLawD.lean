/- The walk of NodeFinds. -/
import Derived.Test.YtckbehojcjhcgaaN12
namespace Go.Proofs.Ytckbehojcjhcgaa.Nod
open Go.RowKit Crc Chk Frm Fra

/-- What the first octets of a turned word add. -/
def tn (V m : Nat) : Nat → BitVec 32
  | 0 => 0#32
  | q + 1 => tn V m q ^^^ shn (8 * (m - q)) (o 24 (oct (56 - 8 * q) V))
theorem tn4 (V m : Nat) : tn V m 4 = turned V m := by simp [tn, turned]
theorem tn5 (V m : Nat) : tn V m 5 = turned V m ^^^ shn (8 * (m - 4)) (o 24 (oct 24 V)) := by
  show tn V m 4 ^^^ _ = _
  rw [tn4]
/-- What is added is not nought. -/
theorem tn_some (y : BitVec 32) (j m q : Nat) (hy : y ≠ 0#32) (hj : j ≤ 7) (hj4 : m = 4 → j = 0) (hq : (q = 5 ∧ 5 ≤ m) ∨ (q = 4 ∧ m = 4)) : tn (y.toNat * 2 ^ (32 - j)) m q ≠ 0#32 := by
  rcases hq with ⟨rfl, h5⟩ | ⟨rfl, rfl⟩
  · have h := turned_all y j m hj (by omega) hj4
    rw [if_neg (by omega)] at h
    rw [tn5, h]
    exact fun e => hy (shn_nought e)
  · have h := turned_all y j 4 hj (by decide) hj4
    rw [if_pos rfl, BitVec.xor_zero] at h
    rw [tn4, h]
    exact fun e => hy (shn_nought e)
theorem xor_ne {a b : BitVec 32} (hb : b ≠ 0#32) : a ^^^ b ≠ a := by
  intro e
  apply hb
  have := congrArg (a ^^^ ·) e
  simp only [← BitVec.xor_assoc, BitVec.xor_self] at this
  simpa using this
set_option maxRecDepth 100000 in
set_option maxHeartbeats 6400000 in
theorem finds_any (n : Nd) (A1 : Option Addr) (n1 c1 : Nat) (A2 : Option Addr) (n2 c2 : Nat) (A3 : Option Addr) (n3 c3 : Nat) (k u : Nat) (w : World) (h : IsN w w.heap.size n A1 n1 c1 A2 n2 c2 A3 n3 c3) (bk : k < 18446744073709551616) (bu : u < 4294967296) :
    Calls Try.prog 6 #[nv A1 n1 c1 A2 n2 c2 A3 n3 c3, .int .u64 (k : Int), .int .u32 (u : Int)] w fun e w' => e = .returned (.bool true) ∧ Below w.heap.size w w' := by
  obtain ⟨W0, hW0⟩ : ∃ W0, W0 = w.alloc (.cells #[.slice A1 n1 c1, .slice A2 n2 c2, .slice A3 n3 c3] 26) := ⟨_, rfl⟩
  have HF : Hid (BoxN w.heap.size A1 n1 c1 A2 n2 c2 A3 n3 c3 W0) := by rw [hW0]; exact boxN_new w ..
  have HB0 : Hid (Below w.heap.size w W0) := by rw [hW0]; exact (Below.refl _ _).alloc (Nat.le_refl _) _
  have hz0 : w.heap.size ≤ W0.heap.size := by rw [hW0, alloc_size]; omega
  have HW := Lib.hid (few_any n A1 n1 c1 A2 n2 c2 A3 n3 c3 W0 ((h.below HB0.out (Nat.le_refl _)).more hz0))
  obtain ⟨m, hm⟩ : ∃ m, m = fewN n := ⟨_, rfl⟩
  rw [← hm] at HW
  obtain ⟨k0, k1, k2, -⟩ := HF.out.cells
  have HW0 := Lib.hid hW0
  clear h hW0 hm
  go_enter Try.func6, Try.ntmps6
  go_upto_region 1 with fail
  rw [← HW0.out]
  go_wp2_with fail
  refine HW.out.mono ?_
  rintro e w1 ⟨B1, m1, d1, B2, m2, d2, B3, m3, d3, rfl, hN1, hb1⟩
  have HZ1 := Lib.hid (step' HB0.out hb1 HB0.out.size)
  have HN1 := Lib.hid hN1
  clear hb1 hN1 k0 k1 k2
  cases hmy : mayB m with
  | false =>
    go_wp2_with fail
    refine (enc_no m B1 m1 d1 B2 m2 d2 B3 m3 d3 w1 HN1.out hmy).mono ?_
    rintro e w2 ⟨rfl, hb2⟩
    have HZ2 := Lib.hid (step' HZ1.out hb2 HZ1.out.size)
    clear hb2
    go_wp2_with fail
    refine (awake_any _).mono ?_
    rintro e w3 ⟨rfl, hb3⟩
    have HZ3 := Lib.hid (step' HZ2.out hb3 HZ2.out.size)
    clear hb3
    go_wp2_with fail
    go_ret
    exact ⟨rfl, HZ3.out⟩
  | true =>
    have HMY := Lib.hid hmy
    clear hmy
    go_wp2_with fail
    refine (enc_yes m B1 m1 d1 B2 m2 d2 B3 m3 d3 w1 HN1.out HMY.out).mono ?_
    rintro e w4 ⟨v2, rfl, hown2, hb2⟩
    obtain ⟨g, e1, rfl, hg0, hg1, hle1⟩ := own_form hown2 (by rw [page_len HMY.out]; omega)
    rw [page_len HMY.out] at hle1 ⊢
    obtain ⟨lo, hlo2⟩ : ∃ x, x = w1.heap.size := ⟨_, rfl⟩
    have hlo : w.heap.size ≤ lo := by rw [hlo2]; exact HZ1.out.size
    have HO4 : Hid (Own w4 lo (.slice (some ⟨g, 0, none⟩) 512 e1) (pageL m)) := by have := hown2; rw [page_len HMY.out, ← hlo2] at this; exact this
    have HZ4 := Lib.hid (step' HZ1.out hb2 HZ1.out.size)
    rw [← hlo2] at hg0
    clear hb2 hown2 hlo2
    by_cases h0 : u = 0
    · subst h0
      go_wp2_with fail
      refine (awake_any _).mono ?_
      rintro e w5 ⟨rfl, hb5⟩
      have HZ5 := Lib.hid (step' HZ4.out hb5 HZ4.out.size)
      clear hb5
      go_wp2_with fail
      go_ret
      exact ⟨rfl, HZ5.out⟩
    · obtain ⟨K, hK⟩ : ∃ K, K = k % 4065 := ⟨_, rfl⟩
      have hkl : K < 4065 := by omega
      have hki : (k : Int) % 4065 = K := by omega
      obtain ⟨j, hj⟩ : ∃ j, j = K % 8 := ⟨_, rfl⟩
      have hji : (K : Int) % 8 = j := by omega
      have hj7 : j ≤ 7 := by omega
      have HK := Lib.hid hK
      have HJ := Lib.hid hj
      have hT0 : ((u : Int) == 0) = false := by
        have : ¬ (u : Int) = 0 := by omega
        simpa using this
      obtain ⟨V, hV⟩ : ∃ V, V = u * 2 ^ (32 - j) := ⟨_, rfl⟩
      have hVl : V < 18446744073709551616 := by
        have h1 : 2 ^ (32 - j) ≤ 2 ^ 32 := Nat.pow_le_pow_right (by decide) (by omega)
        have h2 : u * 2 ^ (32 - j) ≤ 4294967295 * 2 ^ 32 := Nat.mul_le_mul (by omega) h1
        rw [hV]
        exact Nat.lt_of_le_of_lt h2 (by decide)
      have hVi : IntKind.u64.wrap ((u : Int) * 2 ^ (32 - j)) = (V : Int) := by
        have e : (u : Int) * 2 ^ (32 - j) = (V : Int) := by rw [hV]; simp
        rw [e]
        exact IntWalk.u64_in _ (by omega)
      have hpn : K / 8 + 4 ≤ 512 := by omega
      have hj4 : 512 - K / 8 = 4 → j = 0 := by omega
      have HV := Lib.hid hV
      have HJ4 := Lib.hid hj4
      have HU0 := Lib.hid h0
      clear hK hj h0 hV hj4
      go_wp2_with fail
      simp only [hki]
      go_loopw [11] (fun i wr => ∃ (q : Nat) (x : List UInt8), q ≤ 5 ∧ K / 8 + q ≤ 512 ∧ i = .int .u64 q ∧ x.length = 512 ∧ wr.ownsRow lo 5 1 (.slice (some ⟨g, 0, none⟩) 512 e1) 512 (x.map b8) ∧ Hid (crc ones x = crc ones (pageL m) ^^^ tn V (512 - K / 8) q) ∧ Below w.heap.size w wr) (fun i _ => 5 - (intOf i).toNat)
      case atStart => exact ⟨0, pageL m, by decide, by omega, rfl, page_len HMY.out, by have := HO4.out; unfold Own at this; rw [page_len HMY.out] at this; exact this, by show _ = _; simp [tn], HZ4.out⟩
      case round =>
        obtain ⟨q, x, hq5, hqn, rfl, hxl, hown, HC, hbel⟩ := hrel
        by_cases hgo : q < 5 ∧ K / 8 + q < 512
        · obtain ⟨hq, hqn'⟩ := hgo
          have hlt2 : (K : Int) / 8 + q < 512 := by omega
          have hfr := hown.frozenAt (K / 8 + q)
          have hlt : K / 8 + q < x.length := by omega
          have hce := hown.cellAt (K / 8 + q) (by omega)
          rw [List.getElem?_map, List.getElem?_eq_getElem hlt] at hce
          obtain ⟨b, hb⟩ : ∃ b, b = x[K / 8 + q] := ⟨_, rfl⟩
          rw [← hb] at hce
          have hb8 := UInt8.toNat_lt b
          have hce' : wr.cell? ⟨g, K / 8 + q, none⟩ = some (.int .u8 (b.toNat : Int)) := hce
          have HX := Lib.hid hxl
          have HO := Lib.hid hown
          have HB := Lib.hid hb
          clear hce hxl hown hb hki hji hVi
          go_wp2_with fail
          go_roundw
          case rel =>
            have hv : Value.int .u8 (bits .xor .u8 (b.toNat : Int) ((V : Int) / 2 ^ (56 - 8 * q) % 256)) = b8 (b ^^^ oct (56 - 8 * q) V) := by
              have e : ((V : Int) / 2 ^ (56 - 8 * q) % 256) = ((oct (56 - 8 * q) V).toNat : Int) := by rw [oct_nat]; simp
              have ho := UInt8.toNat_lt (oct (56 - 8 * q) V)
              rw [e, u8_xor_nat _ _ (by omega) (by omega), ← UInt8.toNat_xor]
            have hst := (HO.out.stored (K / 8 + q) (b8 (b ^^^ oct (56 - 8 * q) V))).1
            rw [← List.map_set] at hst
            have hcs := crc_set ones x (K / 8 + q) b (oct (56 - 8 * q) V) (by rw [HB.out]; exact List.getElem?_eq_getElem hlt)
            refine ⟨q + 1, x.set (K / 8 + q) (b ^^^ oct (56 - 8 * q) V), by omega, by omega, by go_num, by rw [List.length_set]; exact HX.out, by rw [hv]; exact hst, ?_, hbel.setCell (Nat.le_trans hlo hg0) _⟩
            show _ = _
            rw [hcs, HC.out, BitVec.xor_assoc, HX.out]
            rw [show 512 - (K / 8 + q) = 512 - K / 8 - q by omega]
            rfl
          case measure => simp [intOf]; omega
        · have hq : (q = 5 ∧ 5 ≤ 512 - K / 8) ∨ (q = 4 ∧ 512 - K / 8 = 4) := by omega
          have hy : BitVec.ofNat 32 u ≠ 0#32 := by
            intro e
            have := congrArg BitVec.toNat e
            rw [BitVec.toNat_ofNat, Nat.mod_eq_of_lt (by omega)] at this
            have h0 : (0#32).toNat = 0 := rfl
            rw [h0] at this
            exact HU0.out this
          have hyn : (BitVec.ofNat 32 u).toNat = u := by rw [BitVec.toNat_ofNat]; omega
          have hts := tn_some (BitVec.ofNat 32 u) j (512 - K / 8) q hy hj7 HJ4.out hq
          rw [hyn, ← HV.out] at hts
          have hcr : crc ones x ≠ shn 32 ones := by
            rw [HC.out, show pageL m = sealL (bodyL m) from rfl, seal_crc]
            exact xor_ne hts
          have hsn : soundB x = false := decide_eq_false (fun e => hcr (by
            have := (sealed_iff (x.take 508) (x.drop 508) (by rw [List.length_drop]; omega)).1 e
            rwa [List.take_append_drop] at this))
          have HQ : Hid (decN x = (Nd.nil, 6)) := dec_sum hxl hsn
          have HOC : Hid (Octs wr wr.heap.size (some ⟨g, 0, none⟩) x) := by
            have h1 : Own wr lo (.slice (some ⟨g, 0, none⟩) x.length e1) x := by
              unfold Own
              rw [hxl]
              exact hown
            exact octs_of_own h1
          have HDD := Lib.hid (dec_any (some ⟨g, 0, none⟩) x 512 e1 wr.heap.size wr HOC.out (Nat.le_refl _) hxl hle1)
          rw [HQ.out] at HDD
          have hend : ¬ q < 5 ∨ (q < 5 ∧ ¬ (K : Int) / 8 + q < 512) := by omega
          clear hsn hcr hts hyn hy hown hxl HC hgo hq hki hji hVi
          rcases hend with hend | ⟨hend, hend2⟩
          all_goals
            go_wp2_with fail
            refine HDD.out.mono ?_
            rintro e w5 ⟨A1, n1, c1, A2, n2, c2, A3, n3, c3, rfl, hn5, hb5⟩
            have HZ5 := Lib.hid (step' hbel hb5 hbel.size)
            obtain rfl : n1 = 0 := hn5.l1.symm
            obtain rfl : n3 = 0 := hn5.l3.symm
            have hbx := boxN_new w5 A1 0 c1 A2 n2 c2 A3 0 c3
            obtain ⟨W6, hW6⟩ : ∃ W6, W6 = w5.alloc (.cells #[.slice A1 0 c1, .slice A2 n2 c2, .slice A3 0 c3] 26) := ⟨_, rfl⟩
            rw [← hW6] at hbx
            have HZ6 : Hid (Below w.heap.size w W6) := by rw [hW6]; exact HZ5.out.alloc HZ5.out.size _
            have HW6 := Lib.hid hW6
            clear hb5 hn5 hW6
            go_upto_region 11 with fail
            rw [← HW6.out]
            obtain ⟨k0, k1, k2, -⟩ := hbx.cells
            clear hbx
            go_wp2_with fail
            refine (awake_any _).mono ?_
            rintro e w7 ⟨rfl, hb7⟩
            have HZ7 := Lib.hid (step' HZ6.out hb7 HZ6.out.size)
            clear hb7 k0 k1 k2
            go_wp2_with fail
            go_ret
            exact ⟨rfl, HZ7.out⟩
end Go.Proofs.Ytckbehojcjhcgaa.Nod
