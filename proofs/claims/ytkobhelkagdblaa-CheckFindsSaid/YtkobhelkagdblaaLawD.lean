/- The walk of the law CheckFinds. -/
import Derived.Test.YtkobhelkagdblaaLawB
namespace Go.Proofs.Ytkobhelkagdblaa
open Go.RowKit Crc

/-- What the first octets of a turned word add. -/
def tn (V m : Nat) : Nat → BitVec 32
  | 0 => 0#32
  | q + 1 => tn V m q ^^^ shn (8 * (m - q)) (o 24 (oct (56 - 8 * q) V))
theorem tn4 (V m : Nat) : tn V m 4 = turned V m := by simp [tn, turned]
theorem tn5 (V m : Nat) : tn V m 5 = turned V m ^^^ shn (8 * (m - 4)) (o 24 (oct 24 V)) := by
  show tn V m 4 ^^^ _ = _
  rw [tn4]
/-- What is added is not nought. -/
theorem tn_some (y : BitVec 32) (j m q : Nat) (hy : y ≠ 0#32) (hj : j ≤ 7) (hj4 : m = 4 → j = 0) (hq : (q = 5 ∧ 5 ≤ m) ∨ (q = 4 ∧ m = 4)) : tn (y.toNat * 2 ^ (32 - j)) m q ≠ 0#32 := by
  rcases hq with ⟨rfl, h5⟩ | ⟨rfl, rfl⟩
  · have h := turned_all y j m hj (by omega) hj4
    rw [if_neg (by omega)] at h
    rw [tn5, h]
    exact fun e => hy (shn_nought e)
  · have h := turned_all y j 4 hj (by decide) hj4
    rw [if_pos rfl, BitVec.xor_zero] at h
    rw [tn4, h]
    exact fun e => hy (shn_nought e)
theorem xor_ne {a b : BitVec 32} (hb : b ≠ 0#32) : a ^^^ b ≠ a := by
  intro e
  apply hb
  have := congrArg (a ^^^ ·) e
  simp only [← BitVec.xor_assoc, BitVec.xor_self] at this
  simpa using this
set_option maxHeartbeats 1600000 in
theorem finds_walk (A : Option Addr) (l : List UInt8) (c : Nat) (at' turn : Nat) (w : World) (h : Octs w w.heap.size A l) (hc : l.length ≤ c) (hm : l.length ≤ 9223372036854775807) (hat : at' < 18446744073709551616) (ht : turn < 4294967296) :
    Calls Try.prog 5 #[.slice A l.length c, .int .u64 at', .int .u32 turn] w fun e w' => e = .returned (.bool true) ∧ Below w.heap.size w w' := by
  have F1 := Lib.hid (fun W => few_any A l c W hc hm)
  obtain ⟨a, ha⟩ : ∃ a, a = l.take 300 := ⟨_, rfl⟩
  have hal : a.length ≤ 300 := by rw [ha]; exact take300 l
  have OA := Lib.hid (h.take 300)
  rw [← ha] at F1 OA
  clear ha h
  by_cases h0 : turn = 0
  · subst h0
    go_enter Try.func5, Try.ntmps5
    go_wp2_with fail
    refine (F1.out _).mono ?_
    rintro e w' ⟨rfl, rfl⟩
    go_wp2_with fail
    refine (seal_any A a c w.heap.size _ OA.out (Nat.le_refl _) (by omega)).mono ?_
    rintro e w1 ⟨v1, rfl, hown1, hb1⟩
    obtain ⟨d1, e1, rfl, o1, hle1⟩ := own_addr hown1 (by have := seal_len a; omega)
    have hs1 := seal_len a
    obtain ⟨n, hn⟩ : ∃ n, n = (sealL a).length := ⟨_, rfl⟩
    rw [← hn] at hs1 ⊢
    have hne : (((n : Int)) != ((a.length : Int) + 4)) = false := by rw [hs1]; simp
    clear hn o1 hown1
    go_wp2_with fail
    refine (awake_any _).mono ?_
    rintro e w2 ⟨rfl, hb2⟩
    go_wp2_with fail
    go_ret
    exact ⟨rfl, step hb1 hb2⟩
  · have hs0 := seal_len a
    obtain ⟨n, hn⟩ : ∃ n, n = (sealL a).length := ⟨_, rfl⟩
    rw [← hn] at hs0
    obtain ⟨N8, hN8⟩ : ∃ N8, N8 = 8 * n - 31 := ⟨_, rfl⟩
    obtain ⟨k, hk⟩ : ∃ k, k = at' % N8 := ⟨_, rfl⟩
    have hkl : k < N8 := by rw [hk]; exact Nat.mod_lt _ (by omega)
    have hN8i : 8 * (n : Int) - 31 = N8 := by omega
    have hki : (at' : Int) % (N8 : Int) = k := by rw [hk]; omega
    obtain ⟨j, hj⟩ : ∃ j, j = k % 8 := ⟨_, rfl⟩
    have hji : (k : Int) % 8 = j := by omega
    have hj7 : j ≤ 7 := by omega
    have hN4 : 1 ≤ N8 := by omega
    have hN5 : N8 ≤ 3000 := by omega
    have hne : (((n : Int)) != ((a.length : Int) + 4)) = false := by rw [hs0]; simp
    have HN := Lib.hid hn
    have HK := Lib.hid hk
    have HJ := Lib.hid hj
    have HN8 := Lib.hid hN8
    have HS0 := Lib.hid hs0
    have hn4 : 4 ≤ n := by omega
    have hn3 : n ≤ 304 := by omega
    have hT0 : ((turn : Int) == 0) = false := by
      have : ¬ (turn : Int) = 0 := by omega
      simpa using this
    obtain ⟨V, hV⟩ : ∃ V, V = turn * 2 ^ (32 - j) := ⟨_, rfl⟩
    have hVl : V < 18446744073709551616 := by
      have h1 : 2 ^ (32 - j) ≤ 2 ^ 32 := Nat.pow_le_pow_right (by decide) (by omega)
      have h2 : turn * 2 ^ (32 - j) ≤ 4294967295 * 2 ^ 32 := Nat.mul_le_mul (by omega) h1
      rw [hV]
      exact Nat.lt_of_le_of_lt h2 (by decide)
    have hVi : IntKind.u64.wrap ((turn : Int) * 2 ^ (32 - j)) = (V : Int) := by
      have e : (turn : Int) * 2 ^ (32 - j) = (V : Int) := by rw [hV]; simp
      rw [e]
      exact IntWalk.u64_in _ (by omega)
    have hpn : k / 8 + 4 ≤ n := by omega
    have hj4 : n - k / 8 = 4 → j = 0 := by omega
    have HV := Lib.hid hV
    have HJ4 := Lib.hid hj4
    clear hn hk hj hN8 hs0 h0 hV hj4
    go_enter Try.func5, Try.ntmps5
    go_wp2_with fail
    refine (F1.out _).mono ?_
    rintro e w' ⟨rfl, rfl⟩
    go_wp2_with fail
    refine (seal_any A a c w.heap.size _ OA.out (Nat.le_refl _) (by omega)).mono ?_
    rintro e w1 ⟨v1, rfl, hown1, hb1⟩
    obtain ⟨g, e1, rfl, hg0, hg1, hle1⟩ := own_form hown1 (by have := HS0.out; have := HN.out; omega)
    have HO1 := Lib.hid hown1
    rw [← HN.out] at hle1 ⊢
    clear hown1
    go_wp2_with fail
    simp only [hki]
    go_loopw [10] (fun i wr => ∃ (q : Nat) (x : List UInt8), q ≤ 5 ∧ k / 8 + q ≤ n ∧ i = .int .u64 q ∧ x.length = n ∧ wr.ownsRow w.heap.size 5 1 (.slice (some ⟨g, 0, none⟩) n e1) n (x.map b8) ∧ Hid (crc ones x = crc ones (sealL a) ^^^ tn V (n - k / 8) q) ∧ Below w.heap.size w wr) (fun i _ => 5 - (intOf i).toNat)
    case atStart => exact ⟨0, sealL a, by decide, by omega, rfl, HN.out.symm, by rw [HN.out]; exact HO1.out, by show _ = _; simp [tn], hb1⟩
    case round =>
      obtain ⟨q, x, hq5, hqn, rfl, hxl, hown, HC, hbel⟩ := hrel
      by_cases hgo : q < 5 ∧ k / 8 + q < n
      · obtain ⟨hq, hqn'⟩ := hgo
        have hlt2 : (k : Int) / 8 + q < n := by omega
        have hfr := hown.frozenAt (k / 8 + q)
        have hlt : k / 8 + q < x.length := by omega
        have hce := hown.cellAt (k / 8 + q) (by omega)
        rw [List.getElem?_map, List.getElem?_eq_getElem hlt] at hce
        obtain ⟨b, hb⟩ : ∃ b, b = x[k / 8 + q] := ⟨_, rfl⟩
        rw [← hb] at hce
        have hb8 := UInt8.toNat_lt b
        have hce' : wr.cell? ⟨g, k / 8 + q, none⟩ = some (.int .u8 (b.toNat : Int)) := hce
        have HX := Lib.hid hxl
        have HO := Lib.hid hown
        have HB := Lib.hid hb
        clear hce hxl hown hb hki hji hVi hne hN8i
        go_wp2_with fail
        go_roundw
        case rel =>
          have hv : Value.int .u8 (bits .xor .u8 (b.toNat : Int) ((V : Int) / 2 ^ (56 - 8 * q) % 256)) = b8 (b ^^^ oct (56 - 8 * q) V) := by
            have e : ((V : Int) / 2 ^ (56 - 8 * q) % 256) = ((oct (56 - 8 * q) V).toNat : Int) := by rw [oct_nat]; simp
            have ho := UInt8.toNat_lt (oct (56 - 8 * q) V)
            rw [e, u8_xor_nat _ _ (by omega) (by omega), ← UInt8.toNat_xor]
          have hst := (HO.out.stored (k / 8 + q) (b8 (b ^^^ oct (56 - 8 * q) V))).1
          rw [← List.map_set] at hst
          have hcs := crc_set ones x (k / 8 + q) b (oct (56 - 8 * q) V) (by rw [HB.out]; exact List.getElem?_eq_getElem hlt)
          refine ⟨q + 1, x.set (k / 8 + q) (b ^^^ oct (56 - 8 * q) V), by omega, by omega, by go_num, by rw [List.length_set]; exact HX.out, by rw [hv]; exact hst, ?_, hbel.setCell hg0 _⟩
          show _ = _
          rw [hcs, HC.out, BitVec.xor_assoc, HX.out]
          rw [show n - (k / 8 + q) = n - k / 8 - q by omega]
          rfl
        case measure => simp [intOf]; omega
      · have hq : (q = 5 ∧ 5 ≤ n - k / 8) ∨ (q = 4 ∧ n - k / 8 = 4) := by omega
        have hy : BitVec.ofNat 32 turn ≠ 0#32 := by
          intro e
          have := congrArg BitVec.toNat e
          rw [BitVec.toNat_ofNat, Nat.mod_eq_of_lt (by omega)] at this
          have h0 : (0#32).toNat = 0 := rfl
          rw [h0] at this
          subst this
          simp at hT0
        have hyn : (BitVec.ofNat 32 turn).toNat = turn := by rw [BitVec.toNat_ofNat]; omega
        have hts := tn_some (BitVec.ofNat 32 turn) j (n - k / 8) q hy hj7 HJ4.out hq
        rw [hyn, ← HV.out] at hts
        have hcr : crc ones x ≠ shn 32 ones := by
          rw [HC.out, seal_crc]
          exact xor_ne hts
        obtain ⟨m, t, hmt, htl⟩ : ∃ m t : List UInt8, x = m ++ t ∧ t.length = 4 := ⟨x.take (x.length - 4), x.drop (x.length - 4), (List.take_append_drop _ _).symm, by rw [List.length_drop]; omega⟩
        have hml : m.length + 4 = n := by rw [← hxl, hmt, List.length_append, htl]
        have hsn : sumB m ≠ word 0#32 t := fun e => hcr (by rw [hmt]; exact (sealed_iff m t htl).1 e)
        have HOC : Hid (Octs wr wr.heap.size (some ⟨g, 0, none⟩) (m ++ t)) := by
          have h1 : Own wr w.heap.size (.slice (some ⟨g, 0, none⟩) (m ++ t).length e1) (m ++ t) := by
            unfold Own
            rw [← hmt, hxl]
            exact hown
          exact octs_of_own h1
        have HTL := Lib.hid htl
        have HML := Lib.hid hml
        have HSN := Lib.hid hsn
        have hend : ¬ q < 5 ∨ (q < 5 ∧ ¬ (k : Int) / 8 + q < n) := by omega
        clear htl hml hsn hmt hcr hts hyn hy hown hxl HC hgo hq hki hji hVi hne hN8i
        rcases hend with hend | ⟨hend, hend2⟩
        all_goals
          go_wp2_with fail
          refine (open_no ⟨g, 0, none⟩ m t n e1 wr.heap.size _ HOC.out (Nat.le_refl _) HTL.out HML.out hle1 (by omega) HSN.out).mono ?_
          rintro e w3 ⟨rfl, hb3⟩
          have hb3' := step hbel hb3
          go_wp2_with fail
          refine (awake_any _).mono ?_
          rintro e w4 ⟨rfl, hb4⟩
          go_wp2_with fail
          go_ret
          exact ⟨rfl, step hb3' hb4⟩
end Go.Proofs.Ytkobhelkagdblaa
