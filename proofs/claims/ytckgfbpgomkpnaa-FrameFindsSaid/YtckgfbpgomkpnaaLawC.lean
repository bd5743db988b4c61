/- The walk of the law FrameFinds. -/
import Derived.Test.YtckgfbpgomkpnaaLawA
import Derived.Test.YtckgfbpgomkpnaaMathB
namespace Go.Proofs.Ytckgfbpgomkpnaa
open Go.RowKit Crc Chk Frm

theorem oct_ne (v : UInt8) : (((v.toNat : Int)) != 0) = decide (v ≠ 0) := by
  by_cases h : v = 0
  · subst h; rfl
  · have h1 : ¬ ((v.toNat : Int)) = 0 := fun e => h (UInt8.toNat_inj.1 (by have h0 : (0 : UInt8).toNat = 0 := rfl; omega))
    rw [bne_iff_ne.2 h1, decide_eq_true h]
set_option maxRecDepth 100000 in
set_option maxHeartbeats 3200000 in
theorem finds_walk (s : Int) (A : Option Addr) (l : List UInt8) (c : Nat) (at' turn : Nat) (w : World) (h : Octs w w.heap.size A l) (hc : l.length ≤ c) (hm : l.length ≤ 9223372036854775807) (hat : at' < 18446744073709551616) (ht : turn < 4294967296) :
    Calls Try.prog 5 #[.agg #[.int .i64 s, .slice A l.length c], .int .u64 at', .int .u32 turn] w fun e w' => e = .returned (.bool true) ∧ Below w.heap.size w w' := by
  have F1 := Lib.hid (fun W => few_any A l c W hc hm)
  obtain ⟨d, hd⟩ : ∃ d, d = fw l := ⟨_, rfl⟩
  have hdl : d.length ≤ 6001 := by rw [hd]; exact fw_len l
  have OD : Hid (Octs w w.heap.size A d) := by rw [hd]; exact fw_octs h
  rw [← hd] at F1
  obtain ⟨m, hk⟩ : ∃ m, m = d.length := ⟨_, rfl⟩
  have HK := Lib.hid hk
  rw [← hk] at F1 hdl
  obtain ⟨n1, hn1⟩ : ∃ n1, n1 = l.length := ⟨_, rfl⟩
  rw [← hn1] at F1 hc hm ⊢
  obtain ⟨W1, hW1⟩ : ∃ W1, W1 = w.alloc (.cells #[.int .i64 s, .slice A m c] 24) := ⟨_, rfl⟩
  have HF : Hid (BoxF w.heap.size s A m c W1) := by rw [hW1]; exact boxF_new _ _ _ _ _
  have HZ1 : Hid (W1.heap.size = w.heap.size + 1) := by show _ = _; rw [hW1]; exact alloc_size _ _
  have HB1 : Hid (Below w.heap.size w W1) := by rw [hW1]; exact (Below.refl _ _).alloc (Nat.le_refl _) _
  have HW1 := Lib.hid hW1
  clear hd hk hn1 h hW1
  have h9 : m ≤ 9223372036854775807 := by omega
  cases hM : mayB s m with
  | false =>
    have HM := Lib.hid hM
    clear hM
    go_enter Try.func5, Try.ntmps5
    go_wp2_with fail
    refine (F1.out _).mono ?_
    rintro e w' ⟨rfl, rfl⟩
    go_wp2_with fail
    rw [← HW1.out]
    refine (lay_no s A m c _ h9 HM.out).mono ?_
    rintro e w2 ⟨rfl, hb2⟩
    have HF2 := Lib.hid (HF.out.below hb2 (by have := HZ1.out; omega))
    have HB2 := Lib.hid (step HB1.out hb2)
    clear hb2
    obtain ⟨f0, f1⟩ := HF2.out
    go_wp2_with fail
    clear f0 f1
    refine (rmay_any s A m c _ h9).mono ?_
    rintro e w4 ⟨rfl, hb4⟩
    rw [HM.out]
    have HB4 := Lib.hid (step HB2.out hb4)
    clear hb4
    go_wp2_with fail
    refine (awake_any _).mono ?_
    rintro e w5 ⟨rfl, hb5⟩
    have HB5 := Lib.hid (step HB4.out hb5)
    clear hb5
    go_wp2_with fail
    go_ret
    exact ⟨rfl, HB5.out⟩
  | true =>
    have HM := Lib.hid hM
    obtain ⟨m1, m2, m3⟩ := mayB_iff.1 hM
    obtain ⟨s', rfl⟩ : ∃ s' : Nat, s = (s' : Int) := ⟨s.toNat, by omega⟩
    have m4 : 1 ≤ s' := by omega
    have m5 : s' ≤ 281474976710655 := by omega
    clear hM m1 m2
    obtain ⟨L, hL⟩ : ∃ L, L = lay s' d := ⟨_, rfl⟩
    have HLd := Lib.hid hL
    obtain ⟨n, hn⟩ : ∃ n, n = L.length := ⟨_, rfl⟩
    have hn2 : n = size d.length := by rw [hn, hL, lay_len]
    have hn3 : n ≤ 7000 := by have := size_ge d.length; have := HK.out; omega
    have hn4 : 64 ≤ n := by rw [hn2]; unfold size sect; omega
    have HN := Lib.hid hn
    have HN2 := Lib.hid hn2
    have LY : Hid (Calls Try.prog 9 #[.agg #[.int .i64 (s' : Int), .slice A m c]] W1 (Laid W1 s' d)) := lay_at s' A d m c w.heap.size W1 HK.out.symm (OD.out.below HB1.out (Nat.le_refl _)) HB1.out.size m4 m5 m3
    clear hL hn hn2
    by_cases h0 : turn = 0
    · subst h0
      go_enter Try.func5, Try.ntmps5
      go_wp2_with fail
      refine (F1.out _).mono ?_
      rintro e w' ⟨rfl, rfl⟩
      go_wp2_with fail
      rw [← HW1.out]
      refine LY.out.mono ?_
      rintro e w2 ⟨v8, rfl, hown8, hb2⟩
      have HB2 := Lib.hid (step HB1.out hb2)
      obtain ⟨A8, c8, rfl, -, -⟩ := own_sl hown8
      rw [← HLd.out, ← HN.out]
      clear hb2 hown8
      go_wp2_with fail
      refine (awake_any _).mono ?_
      rintro e w5 ⟨rfl, hb5⟩
      have HB5 := Lib.hid (step HB2.out hb5)
      clear hb5
      go_wp2_with fail
      go_ret
      exact ⟨rfl, HB5.out⟩
    · obtain ⟨N8, hN8⟩ : ∃ N8, N8 = 8 * n - 31 := ⟨_, rfl⟩
      obtain ⟨k, hk⟩ : ∃ k, k = at' % N8 := ⟨_, rfl⟩
      have hkl : k < N8 := by rw [hk]; exact Nat.mod_lt _ (by omega)
      have hN8i : 8 * (n : Int) - 31 = N8 := by omega
      have hki : (at' : Int) % (N8 : Int) = k := by rw [hk]; omega
      obtain ⟨j, hj⟩ : ∃ j, j = k % 8 := ⟨_, rfl⟩
      have hji : (k : Int) % 8 = j := by omega
      have hj7 : j ≤ 7 := by omega
      have hN4 : 1 ≤ N8 := by omega
      have hN5 : N8 ≤ 60000 := by omega
      have HK8 := Lib.hid hk
      have HJ := Lib.hid hj
      have HN8 := Lib.hid hN8
      have hT0 : ((turn : Int) == 0) = false := by
        have : ¬ (turn : Int) = 0 := by omega
        simpa using this
      obtain ⟨V, hV⟩ : ∃ V, V = turn * 2 ^ (32 - j) := ⟨_, rfl⟩
      have hVl : V < 18446744073709551616 := by
        have h1 : 2 ^ (32 - j) ≤ 2 ^ 32 := Nat.pow_le_pow_right (by decide) (by omega)
        have h2 : turn * 2 ^ (32 - j) ≤ 4294967295 * 2 ^ 32 := Nat.mul_le_mul (by omega) h1
        rw [hV]
        exact Nat.lt_of_le_of_lt h2 (by decide)
      have hVi : IntKind.u64.wrap ((turn : Int) * 2 ^ (32 - j)) = (V : Int) := by
        have e : (turn : Int) * 2 ^ (32 - j) = (V : Int) := by rw [hV]; simp
        rw [e]
        exact IntWalk.u64_in _ (by omega)
      have hpn : k / 8 + 4 ≤ n := by omega
      have hj4 : n - k / 8 = 4 → j = 0 := by omega
      have HV := Lib.hid hV
      have HJ4 := Lib.hid hj4
      clear hk hj hN8 h0 hV hj4
      go_enter Try.func5, Try.ntmps5
      go_wp2_with fail
      refine (F1.out _).mono ?_
      rintro e w' ⟨rfl, rfl⟩
      go_wp2_with fail
      rw [← HW1.out]
      refine LY.out.mono ?_
      rintro e w1 ⟨v1, rfl, hown1, hb1⟩
      have hbel1 := step HB1.out hb1
      rw [← HLd.out] at hown1
      obtain ⟨g, e1, rfl, hg0, hg1, hle1⟩ := own_form hown1 (by have := HN.out; omega)
      have HO1 := Lib.hid hown1
      have HBE1 := Lib.hid hbel1
      have hgw : w.heap.size ≤ g := by have := HZ1.out; omega
      rw [← HN.out] at hle1 ⊢
      clear hown1 hb1 hbel1
      go_wp2_with fail
      simp only [hki]
      go_loopw [11] (fun i wr => ∃ (q : Nat) (x : List UInt8), q ≤ 5 ∧ k / 8 + q ≤ n ∧ i = .int .u64 q ∧ x.length = n ∧ wr.ownsRow W1.heap.size 5 1 (.slice (some ⟨g, 0, none⟩) n e1) n (x.map b8) ∧ Hid (crc ones x = crc ones L ^^^ tn V (n - k / 8) q) ∧ Hid (cntOf x = m) ∧ Below w.heap.size w wr) (fun i _ => 5 - (intOf i).toNat)
      case atStart => exact ⟨0, L, by decide, by omega, rfl, HN.out.symm, by rw [HN.out]; exact HO1.out, by show _ = _; simp [tn], by show _ = _; rw [HLd.out, HK.out]; exact cnt_lay s' d (by omega) (by have := HK.out; omega), HBE1.out⟩
      case round =>
        obtain ⟨q, x, hq5, hqn, rfl, hxl, hown, HC, HCN, hbel⟩ := hrel
        by_cases hgo : q < 5 ∧ k / 8 + q < n
        · obtain ⟨hq, hqn'⟩ := hgo
          have hlt2 : (k : Int) / 8 + q < n := by omega
          have hfr := hown.frozenAt (k / 8 + q)
          have hlt : k / 8 + q < x.length := by omega
          have hce := hown.cellAt (k / 8 + q) (by omega)
          rw [List.getElem?_map, List.getElem?_eq_getElem hlt] at hce
          obtain ⟨b, hb⟩ : ∃ b, b = x[k / 8 + q] := ⟨_, rfl⟩
          rw [← hb] at hce
          have hb8 := UInt8.toNat_lt b
          have hce' : wr.cell? ⟨g, k / 8 + q, none⟩ = some (.int .u8 (b.toNat : Int)) := hce
          have HX := Lib.hid hxl
          have HO := Lib.hid hown
          have HBb := Lib.hid hb
          have HBEL := Lib.hid hbel
          have HCE := Lib.hid hce'
          have HFR := Lib.hid hfr
          obtain ⟨T, hT⟩ : ∃ T, T = decide ((k / 8 + q = 10 ∨ k / 8 + q = 11) ∧ oct (56 - 8 * q) V ≠ 0) := ⟨_, rfl⟩
          have HT := Lib.hid hT
          have HE : Hid (((V : Int) / 2 ^ (56 - 8 * q) % 256 != 0) = decide (oct (56 - 8 * q) V ≠ 0)) := by
            show _ = _
            have e : ((V : Int) / 2 ^ (56 - 8 * q) % 256) = ((oct (56 - 8 * q) V).toNat : Int) := by rw [oct_nat]; simp
            rw [e]
            exact oct_ne _
          clear hce hxl hown hb hce' hfr hbel hT hki hji hVi hN8i
          go_upto_region 13 with fail
          go_cut [91] from 59 to 112 (fun s91 wx => s91 = .bool T ∧ wr = wx)
          case first =>
            have hE := HE.out
            by_cases p10 : k / 8 + q = 10
            · have e10 : ((k : Int) / 8 + q == 10) = true := by simp; omega
              have HP := Lib.hid p10
              clear p10
              go_wp2_with fail
              go_meet
              exact ⟨by rw [HT.out]; simp [HP.out], rfl⟩
            · have e10 : ((k : Int) / 8 + q == 10) = false := by simp; omega
              by_cases p11 : k / 8 + q = 11
              · have e11 : ((k : Int) / 8 + q == 11) = true := by simp; omega
                have HP := Lib.hid p11
                clear p11 p10
                go_wp2_with fail
                go_meet
                exact ⟨by rw [HT.out]; simp [HP.out], rfl⟩
              · have e11 : ((k : Int) / 8 + q == 11) = false := by simp; omega
                have HP := Lib.hid p10
                have HP2 := Lib.hid p11
                clear p11 p10
                go_wp2_with fail
                go_meet
                exact ⟨by rw [HT.out]; simp [HP.out, HP2.out], rfl⟩
          case rest =>
          obtain ⟨rfl, rfl⟩ := hcut
          cases hTv : T with
          | true =>
            clear hTv
            go_wp2_with fail
            refine (awake_any _).mono ?_
            rintro e w5 ⟨rfl, hb5⟩
            have HB5 := Lib.hid (step HBEL.out hb5)
            clear hb5
            go_wp2_with fail
            go_ret
            exact ⟨rfl, HB5.out⟩
          | false =>
            have HTF : Hid (¬ ((k / 8 + q = 10 ∨ k / 8 + q = 11) ∧ oct (56 - 8 * q) V ≠ 0)) := by
              have := HT.out
              rw [hTv] at this
              exact of_decide_eq_false this.symm
            have hfr := HFR.out
            have hce' := HCE.out
            clear hTv
            go_wp2_with fail
            go_roundw
            case rel =>
              have hv : Value.int .u8 (bits .xor .u8 (b.toNat : Int) ((V : Int) / 2 ^ (56 - 8 * q) % 256)) = b8 (b ^^^ oct (56 - 8 * q) V) := by
                have e : ((V : Int) / 2 ^ (56 - 8 * q) % 256) = ((oct (56 - 8 * q) V).toNat : Int) := by rw [oct_nat]; simp
                have ho := UInt8.toNat_lt (oct (56 - 8 * q) V)
                rw [e, u8_xor_nat _ _ (by omega) (by omega), ← UInt8.toNat_xor]
              have hst := (HO.out.stored (k / 8 + q) (b8 (b ^^^ oct (56 - 8 * q) V))).1
              rw [← List.map_set] at hst
              have hxb : x[k / 8 + q]? = some b := by rw [HBb.out]; exact List.getElem?_eq_getElem hlt
              have hcs := crc_set ones x (k / 8 + q) b (oct (56 - 8 * q) V) hxb
              refine ⟨q + 1, x.set (k / 8 + q) (b ^^^ oct (56 - 8 * q) V), by omega, by omega, by go_num, by rw [List.length_set]; exact HX.out, by rw [hv]; exact hst, ?_, ?_, HBEL.out.setCell hgw _⟩
              · show _ = _
                rw [hcs, HC.out, BitVec.xor_assoc, HX.out]
                rw [show n - (k / 8 + q) = n - k / 8 - q by omega]
                rfl
              · show _ = _
                by_cases hp : k / 8 + q ≠ 10 ∧ k / 8 + q ≠ 11
                · rw [cnt_set _ _ _ hp]; exact HCN.out
                · have hz : oct (56 - 8 * q) V = 0 := by
                    apply Classical.byContradiction
                    intro hz
                    exact HTF.out ⟨by omega, hz⟩
                  rw [hz, set_none _ _ _ hxb]
                  exact HCN.out
            case measure => simp [intOf]; omega
        · have hq : (q = 5 ∧ 5 ≤ n - k / 8) ∨ (q = 4 ∧ n - k / 8 = 4) := by omega
          have hy : BitVec.ofNat 32 turn ≠ 0#32 := by
            intro e
            have := congrArg BitVec.toNat e
            rw [BitVec.toNat_ofNat, Nat.mod_eq_of_lt (by omega)] at this
            have h0 : (0#32).toNat = 0 := rfl
            rw [h0] at this
            subst this
            simp at hT0
          have hyn : (BitVec.ofNat 32 turn).toNat = turn := by rw [BitVec.toNat_ofNat]; omega
          have hts := tn_some (BitVec.ofNat 32 turn) j (n - k / 8) q hy hj7 HJ4.out hq
          rw [hyn, ← HV.out] at hts
          have hcr : crc ones x ≠ crc ones (lay s' d) := by
            rw [HC.out, HLd.out]
            exact xor_ne hts
          obtain ⟨e0, he0, hrd⟩ := rd_turned s' d x (by rw [hxl]; exact HN2.out) (by rw [HCN.out]; exact HK.out) hcr
          have HRD := Lib.hid hrd
          have hne : ((e0 : Int) != 0) = true := bne_iff_ne.2 (by omega)
          have HOC : Hid (Octs wr wr.heap.size (some ⟨g, 0, none⟩) x) := by
            have h1 : Own wr W1.heap.size (.slice (some ⟨g, 0, none⟩) x.length e1) x := by
              unfold Own
              rw [hxl]
              exact hown
            exact octs_of_own h1
          have HXL := Lib.hid hxl
          have HBEL := Lib.hid hbel
          have hend : ¬ q < 5 ∨ (q < 5 ∧ ¬ (k : Int) / 8 + q < n) := by omega
          clear hrd hcr hts hyn hy hown hxl HC hgo hq hki hji hVi hN8i hbel he0
          rcases hend with hend | ⟨hend, hend2⟩
          all_goals
            go_wp2_with fail
            refine (read_o (some ⟨g, 0, none⟩) x n e1 wr.heap.size _ HXL.out HOC.out (Nat.le_refl _) hle1 (by omega)).mono ?_
            rintro e w3 ⟨A3, c3, he, -, hb3⟩
            rw [HRD.out] at he
            simp only [List.length_nil] at he
            subst he
            have HB3 := Lib.hid (step HBEL.out hb3)
            clear hb3
            go_wp2_with fail
            refine (awake_any _).mono ?_
            rintro e w4 ⟨rfl, hb4⟩
            have HB4 : Hid (Below w.heap.size w w4) := step (HB3.out.alloc HB3.out.size _) hb4
            clear hb4
            go_wp2_with fail
            go_ret
            exact ⟨rfl, HB4.out⟩
theorem finds_walk2 (s : Int) (A : Option Addr) (l : List UInt8) (c : Nat) (at' turn : Nat) (w : World) (h : Octs w w.heap.size A l) (hc : l.length ≤ c) (hm : l.length ≤ 9223372036854775807) (hat : at' < 18446744073709551616) (ht : turn < 4294967296) :
    Calls Try.prog 5 #[.agg #[.int .i64 s, .slice A l.length c], .int .u64 at', .int .u32 turn] w fun e w' => e = .returned (.bool true) ∧ Below w.heap.size w w' :=
  finds_walk s A l c at' turn w h hc hm hat ht
end Go.Proofs.Ytckgfbpgomkpnaa
