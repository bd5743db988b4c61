/- Contracts: few, bytes.Equal, put, get. -/
import Derived.Test.YtlieijbjbjnaiaaS2
import Derived.LoopTactic
namespace Go.Proofs.Ytlieijbjbjnaiaa.Sup
open Go.RowKit Crc Chk Frm Fra

theorem few_any (A : Option Addr) (l : List UInt8) (c : Nat) (w : World) (hc : l.length ≤ c) (hl : l.length ≤ 9223372036854775807) :
    Calls Try.prog 9 #[.slice A l.length c] w fun e w' => e = .returned (.slice A (l.take 100).length c) ∧ w = w' := by
  obtain ⟨n, hn⟩ : ∃ n, n = l.length := ⟨_, rfl⟩
  have HT : Hid ((l.take 100).length = min 100 n) := by show _ = _; rw [List.length_take, hn]
  rw [← hn] at hc hl ⊢
  rw [HT.out]
  clear HT hn
  by_cases h : 100 < n
  · have HM : Hid (min 100 n = 100) := by show _ = _; omega
    rw [HM.out]
    go_enter Try.func9, Try.ntmps9
    go_wp2
    go_ret
    exact ⟨rfl, rfl⟩
  · have HM : Hid (min 100 n = n) := by show _ = _; omega
    rw [HM.out]
    go_enter Try.func9, Try.ntmps9
    go_wp2
    go_ret
    exact ⟨rfl, rfl⟩
theorem eq_any (A A' : Option Addr) (l m : List UInt8) (n n' c c' B B' : Nat) (w : World) (hn : l.length = n) (hn' : m.length = n') (h : Octs w B A l) (h' : Octs w B' A' m) :
    Calls Try.prog 27 #[.slice A n c, .slice A' n' c'] w fun e w' => e = .returned (.bool (decide (l = m))) ∧ w = w' := by
  subst hn
  subst hn'
  have HA := Lib.hid (octs_text (c := c) h)
  have HA' := Lib.hid (octs_text (c := c') h')
  have HE : Hid (((⟨l.toArray⟩ : ByteArray).toList == (⟨m.toArray⟩ : ByteArray).toList) = decide (l = m)) := by
    show _ = _
    rw [show (⟨l.toArray⟩ : ByteArray).toList = l from text_toList l, show (⟨m.toArray⟩ : ByteArray).toList = m from text_toList m]
    rw [Bool.eq_iff_iff]; simp
  obtain ⟨s, hs⟩ : ∃ s : ByteArray, s = ⟨l.toArray⟩ := ⟨_, rfl⟩
  obtain ⟨t, ht⟩ : ∃ t : ByteArray, t = ⟨m.toArray⟩ := ⟨_, rfl⟩
  obtain ⟨b, hb⟩ : ∃ b, b = decide (l = m) := ⟨_, rfl⟩
  rw [← hs] at HA HE
  rw [← ht] at HA' HE
  rw [← hb] at HE ⊢
  obtain ⟨n, hn⟩ : ∃ n, n = l.length := ⟨_, rfl⟩
  obtain ⟨n', hn'⟩ : ∃ n, n = m.length := ⟨_, rfl⟩
  rw [← hn] at HA ⊢
  rw [← hn'] at HA' ⊢
  clear hs ht hb h h' hn hn'
  have c1 := HA.out
  have c2 := HA'.out
  clear HA HA'
  go_enter Try.func27, Try.ntmps27
  go_wp2_with fail
  go_ret
  exact ⟨retb HE.out, rfl⟩
set_option maxRecDepth 20000 in
set_option maxHeartbeats 800000 in
theorem put_any (n size : Nat) (v : Value) (m : List UInt8) (base : Nat) (w : World) (ho : Own w base v m) (hb : base ≤ w.heap.size) (hsz : size ≤ 8) (hm : m.length ≤ 900000) :
    Calls Try.prog 32 #[v, .int .i64 n, .int .i64 size] w fun e w' => ∃ v', e = .returned v' ∧ Own w' base v' (m ++ be size n) ∧ Below base w w' := by
  have HO := Lib.hid ho
  clear ho
  go_enter Try.func32, Try.ntmps32
  go_wp2_with fail
  go_loopw [0, 9] (fun y i wr => ∃ (k : Nat) (m' : List UInt8) (x : Value), k ≤ size ∧ i = .int .i64 k ∧ x = y ∧ Hid (Own wr base x m') ∧ Hid (m' ++ be (size - k) n = m ++ be size n) ∧ Hid (Below base w wr) ∧ Hid (m'.length = m.length + k)) (fun _ i _ => size - (intOf i).toNat)
  case atStart => exact ⟨0, m, v, Nat.zero_le _, rfl, rfl, HO, rfl, Below.refl _ _, rfl⟩
  case round =>
    obtain ⟨k, m', x, hk, rfl, rfl, HO2, HR, HB, HM⟩ := hrel
    by_cases hlt : k < size
    · have h1 : (0 : Int) ≤ (size : Int) - 1 - k := by omega
      have hM := HM.out
      have hbw := HB.out.size
      have hbe := be_at size k n hlt
      have hq : Value.int .u8 ((n : Int) / 2 ^ (8 * (size - 1 - k)) % 256) = b8 (oct (8 * (size - 1 - k)) n) := by
        show Value.int .u8 _ = Value.int .u8 _
        rw [oct_nat]
        simp
      obtain ⟨W1, hW1⟩ : ∃ W1, W1 = wr.alloc (.cells #[Value.int .u8 ((n : Int) / 2 ^ (8 * (size - 1 - k)) % 256)] 5) := ⟨_, rfl⟩
      have hbD : Below base w W1 := by rw [hW1]; exact HB.out.alloc (Nat.le_trans hb hbw) _
      have hbs : base ≤ W1.heap.size := Nat.le_trans hb hbD.size
      have hO1 : Own W1 base x m' := by rw [hW1]; exact HO2.out.alloc _
      obtain ⟨v4, w4, hrun4, hown4, hgrow4, hat4⟩ := run_app W1 base (wr.heap.size + 1) x m' hO1 (some ⟨wr.heap.size, 0, none⟩) [oct (8 * (size - 1 - k)) n] 1 (by rw [hW1, hq]; exact octs_new wr [oct (8 * (size - 1 - k)) n] (0, 0)) (by simp; omega) hbs
      have HR4 : Hid ((Builtin.append_ #[24, 24] 24 #[x, .slice (some ⟨wr.heap.size, 0, none⟩) 1 1]).run Try.prog (wr.alloc (.cells #[Value.int .u8 ((n : Int) / 2 ^ (8 * (size - 1 - k)) % 256)] 5)) = .ok v4 w4) := by rw [← hW1]; exact hrun4
      have HB4 : Hid (Below base w w4) := hbD.grown hgrow4 hbs (fun k h => (hO1.lt k h).1)
      have HO4 := Lib.hid hown4
      have HBE := Lib.hid hbe
      clear hrun4 hgrow4 hat4 hW1 hbD hown4 hO1 hq hbe hbs
      go_wp2_with (at_builtin; refine Go.Lib.wpList_append_run _ rfl (.tmp 12) (.tmp 21) 24 24 rfl _ _ rfl rfl v4 w4 HR4.out ?_)
      go_roundw
      case rel => exact ⟨k + 1, m' ++ [oct (8 * (size - 1 - k)) n], v4, by omega, by go_num, rfl, HO4, by
        show _ = _
        rw [← HR.out, HBE.out]; simp, HB4, by
        show _ = _
        rw [List.length_append, HM.out]; simp; omega⟩
      case measure => simp [intOf]; omega
    · obtain rfl : k = size := by omega
      go_wp2_with fail
      go_ret
      exact ⟨_, rfl, by have h := HR.out; rw [Nat.sub_self] at h; rw [← h, show be 0 n = [] from rfl, List.append_nil]; exact HO2.out, HB.out⟩


theorem get_any (ad : Addr) (l m : List UInt8) (n k c B : Nat) (w : World) (hr : Octs w B (some ad) (l ++ m)) (hk : l.length = k) (hm : m.length + k = n) (h0 : 0 < m.length) (hc : n ≤ c) (_hn : n ≤ 64) (hk7 : k ≤ 7) (r : Int) (hR : (num l : Int) = r) :
    Calls Try.prog 26 #[.slice (some ad) n c, .int .i64 k] w fun e w' => e = .returned (.tuple #[.int .i64 r, .slice (some (ad.add k)) (n - k) (c - k)]) ∧ w.heap = w'.heap ∧ Below w.heap.size w w' := by
  subst hR
  have HO := Lib.hid (hr.left)
  have HN : Hid (num l < 72057594037927936) := Nat.lt_of_lt_of_le (num_lt l) (pow_le7 (by omega))
  have HK := Lib.hid hk
  have hkn : k < n := by omega
  have hkc : ¬ c = k := by omega
  have hk3 : (0 : Int) ≤ k := by omega
  clear hr hk hm h0
  go_enter Try.func26, Try.ntmps26
  go_wp2_with fail
  go_loop [6, 13] (fun x i => ∃ (j : Nat) (y : Nat), j ≤ k ∧ i = .int .i64 j ∧ x = .int .i64 (y : Int) ∧ Hid (numFrom y (l.drop j) = num l)) (fun _ i => k - (intOf i).toNat)
  case atStart => exact ⟨0, 0, Nat.zero_le _, rfl, rfl, rfl⟩
  case round =>
    obtain ⟨j, y, hj, rfl, rfl, HR⟩ := hrel
    by_cases hlt : j < k
    · have hjl : j < l.length := by rw [HK.out]; exact hlt
      have hy := left_lt HR.out (by rw [List.length_drop]; omega) HN.out
      obtain ⟨ad', he, hb1, hcc⟩ := HO.out j hjl
      injection he with he
      subst he
      have HD := Lib.hid (drop_cons l j hjl)
      obtain ⟨b, hb⟩ : ∃ b, b = l[j] := ⟨_, rfl⟩
      rw [← hb] at hcc HD
      have hb8 := UInt8.toNat_lt b
      have HA := Lib.hid (or_i64 y b (by omega))
      clear hb
      go_wp2
      go_round
      case rel => exact ⟨j + 1, y * 256 + b.toNat, by omega, by go_num, int_eq HA.out, by
        show _ = _
        rw [← HR.out, HD.out]; rfl⟩
      case measure => simp [intOf]; omega
    · obtain rfl : j = k := by omega
      go_wp2
      go_quiet (fail)
      go_wp2
      go_ret2
      refine ⟨?_, rfl, below_drewN w _⟩
      have h1 := HR.out
      rw [List.drop_of_length_le (by rw [HK.out]; exact Nat.le_refl _)] at h1
      rw [← h1]; rfl
end Go.Proofs.Ytlieijbjbjnaiaa.Sup
