/- Contracts: numbers as octets (get, Number), Sectors, May, few, and the library's search for an octet that is not nought. -/
import Derived.Test.YtckgfbpgomkpnaaMath
import Derived.Test.YtckgfbpgomkpnaaC8
import Derived.LoopTactic
namespace Go.Proofs.Ytckgfbpgomkpnaa
open Go.RowKit Crc Chk Frm

theorem retb {a b : Bool} (h : a = b) : Ending.returned (.bool a) = .returned (.bool b) := by rw [h]
theorem ofInt_i64 (a : Nat) (ha : a < 9223372036854775808) : (BitVec.ofInt 64 (a : Int)).toNat = a := by
  rw [BitVec.toNat_ofInt]
  omega
theorem or_i64 (n : Nat) (b : UInt8) (h : n < 36028797018963968) : bits .or .i64 ((n : Int) * 256) (b.toNat : Int) = ((n * 256 + b.toNat : Nat) : Int) := by
  have hb := UInt8.toNat_lt b
  show IntKind.i64.wrap ((BitVec.ofInt 64 ((n : Int) * 256) ||| BitVec.ofInt 64 (b.toNat : Int)).toNat : Int) = _
  rw [show ((n : Int) * 256) = ((n * 256 : Nat) : Int) by omega, BitVec.toNat_or, ofInt_i64 _ (by omega), ofInt_i64 _ (by omega), nat_join 8 _ _ (by omega) (by omega)]
  exact IntWalk.i64_in _ (by omega)
theorem pow_le7 {k : Nat} (h : k ≤ 7) : 256 ^ k ≤ 72057594037927936 := by
  calc 256 ^ k ≤ 256 ^ 7 := Nat.pow_le_pow_right (by decide) h
    _ = 72057594037927936 := by decide
theorem numFrom_cons (y : Nat) (b : UInt8) (l : List UInt8) : numFrom y (b :: l) = numFrom (y * 256 + b.toNat) l := rfl
theorem left_lt {y : Nat} {l : List UInt8} {n : Nat} (h : numFrom y l = n) (h0 : 0 < l.length) (hn : n < 72057594037927936) : y < 281474976710656 := by
  have h1 := numFrom_eq l y
  have h2 : 256 ^ 1 ≤ 256 ^ l.length := Nat.pow_le_pow_right (by decide) h0
  have h3 : y * 256 ≤ y * 256 ^ l.length := Nat.mul_le_mul_left _ (by omega)
  omega
set_option maxHeartbeats 800000 in
theorem get_any (A : Option Addr) (l : List UInt8) (c B : Nat) (w : World) (hr : Octs w B A l) (hl : l.length ≤ 7) :
    Calls Try.prog 28 #[.slice A l.length c] w fun e w' => e = .returned (.int .i64 (num l : Int)) ∧ w = w' := by
  have HO := Lib.hid hr
  have HN : Hid (num l < 72057594037927936) := Nat.lt_of_lt_of_le (num_lt l) (pow_le7 hl)
  clear hr
  go_enter Try.func28, Try.ntmps28
  go_wp2
  go_loop [3, 8] (fun x i => ∃ (k : Nat) (y : Nat), k ≤ l.length ∧ i = .int .i64 k ∧ x = .int .i64 (y : Int) ∧ Hid (numFrom y (l.drop k) = num l)) (fun _ i => l.length - (intOf i).toNat)
  case atStart => exact ⟨0, 0, Nat.zero_le _, rfl, rfl, rfl⟩
  case round =>
    obtain ⟨k, y, hk, rfl, rfl, HR⟩ := hrel
    by_cases hlt : k < l.length
    · have hy := left_lt HR.out (by rw [List.length_drop]; omega) HN.out
      obtain ⟨ad, rfl, hb1, hc⟩ := HO.out k hlt
      have HD := Lib.hid (drop_cons l k hlt)
      obtain ⟨b, hb⟩ : ∃ b, b = l[k] := ⟨_, rfl⟩
      rw [← hb] at hc HD
      have hb8 := UInt8.toNat_lt b
      have HA := Lib.hid (or_i64 y b (by omega))
      clear hb
      go_wp2
      go_round
      case rel => exact ⟨k + 1, y * 256 + b.toNat, by omega, by go_num, int_eq HA.out, by
        show _ = _
        rw [← HR.out, HD.out]; rfl⟩
      case measure => simp [intOf]; omega
    · obtain rfl : k = l.length := by omega
      go_wp2
      go_ret
      exact ⟨ret1 (by rw [← HR.out, List.drop_length]; rfl), rfl⟩
set_option maxHeartbeats 800000 in
theorem rget_any (l : List UInt8) (w : World) (hl : l.length ≤ 7) :
    Calls Try.prog 29 #[.string (text l)] w fun e w' => e = .returned (.int .i64 (num l : Int)) ∧ w = w' := by
  have HN : Hid (num l < 72057594037927936) := Nat.lt_of_lt_of_le (num_lt l) (pow_le7 hl)
  have HS : Hid ((text l).data.toList = l) := text_list l
  obtain ⟨s, hs⟩ : ∃ s, s = text l := ⟨_, rfl⟩
  have hsz : s.size ≤ 7 := by rw [hs, text_size]; exact hl
  rw [← hs] at HS ⊢
  clear hs
  go_enter Try.func29, Try.ntmps29
  go_wp2
  go_loop [3, 4] (fun x i => ∃ (k : Nat) (y : Nat), k ≤ s.size ∧ i = .int .i64 k ∧ x = .int .i64 (y : Int) ∧ Hid (numFrom y (s.data.toList.drop k) = num l)) (fun _ i => s.size - (intOf i).toNat)
  case atStart => exact ⟨0, 0, Nat.zero_le _, rfl, rfl, by show _ = _; rw [HS.out]; rfl⟩
  case round =>
    obtain ⟨k, y, hk, rfl, rfl, HR⟩ := hrel
    by_cases hlt : k < s.size
    · have hy := left_lt HR.out (by rw [List.length_drop, lsz]; omega) HN.out
      have HD := Lib.hid (at_eq s k hlt)
      obtain ⟨b, hbb⟩ : ∃ b, b = s[k] := ⟨_, rfl⟩
      rw [← hbb] at HD
      have hsk : s[k] = b := hbb.symm
      have hb8 := UInt8.toNat_lt b
      clear hbb
      go_wp2
      go_round
      case rel => exact ⟨k + 1, y * 256 + b.toNat, by omega, by go_num, int_eq (by omega), by
        show _ = _
        rw [← HR.out, HD.out]; rfl⟩
      case measure => simp [intOf]; omega
    · obtain rfl : k = s.size := by omega
      go_wp2
      go_ret
      exact ⟨ret1 (by
        have h := HR.out
        rw [List.drop_of_length_le (by rw [lsz]; omega)] at h
        rw [← h]; rfl), rfl⟩

def sectI (n : Int) : Int := if 0 ≤ n ∧ n ≤ 6000 then (n + 83) / 64 else 0
theorem sect_any (n : Int) (w : World) : Calls Try.prog 12 #[.int .i64 n] w fun e w' => e = .returned (.int .i64 (sectI n)) ∧ w = w' := by
  by_cases h1 : n < 0
  · have HS : Hid (sectI n = 0) := by show _ = _; unfold sectI; rw [if_neg (by omega)]
    rw [HS.out]
    go_enter Try.func12, Try.ntmps12
    go_wp2
    go_ret
    exact ⟨rfl, rfl⟩
  · have h1' : decide (n < 0) = false := by simpa using h1
    by_cases h2 : 6000 < n
    · have HS : Hid (sectI n = 0) := by show _ = _; unfold sectI; rw [if_neg (by omega)]
      rw [HS.out]
      go_enter Try.func12, Try.ntmps12
      go_wp2
      go_ret
      exact ⟨rfl, rfl⟩
    · have h2' : decide (6000 < n) = false := by simpa using h2
      have HS : Hid (sectI n = (n + 83) / 64) := by show _ = _; unfold sectI; rw [if_pos (by omega)]
      have h3 : n ≤ 6000 := by omega
      have h4 : 0 ≤ n := by omega
      clear h1 h2
      go_enter Try.func12, Try.ntmps12
      go_wp2
      go_ret
      exact ⟨ret1 (by rw [HS.out]; first | rfl | (congr 1; omega)), rfl⟩

def mayB (s : Int) (n : Nat) : Bool := decide (1 ≤ s) && (decide (s ≤ 281474976710655) && decide (n ≤ 6000))
theorem may_any (s : Int) (A : Option Addr) (n c : Nat) (w : World) (hn : n ≤ 9223372036854775807) :
    Calls Try.prog 10 #[.agg #[.int .i64 s, .slice A n c]] w fun e w' => e = .returned (.bool (mayB s n)) ∧ Below w.heap.size w w' := by
  by_cases h1 : 1 ≤ s
  · by_cases h2 : s ≤ 281474976710655
    · by_cases h3 : n ≤ 6000
      · have HM : Hid (mayB s n = true) := by show _ = _; simp [mayB, h1, h2, h3]
        rw [HM.out]
        go_enter Try.func10, Try.ntmps10
        go_wp2
        go_ret
        exact ⟨retb (decide_eq_true (by omega)), (Below.refl _ _).alloc (Nat.le_refl _) _⟩
      · have HM : Hid (mayB s n = false) := by show _ = _; simp [mayB, h3]
        rw [HM.out]
        have h3' : decide (n ≤ 6000) = false := by simpa using h3
        go_enter Try.func10, Try.ntmps10
        go_wp2
        go_ret
        exact ⟨retb (decide_eq_false (by omega)), (Below.refl _ _).alloc (Nat.le_refl _) _⟩
    · have HM : Hid (mayB s n = false) := by show _ = _; simp [mayB, h2]
      rw [HM.out]
      have h2' : decide (s ≤ 281474976710655) = false := by simpa using h2
      go_enter Try.func10, Try.ntmps10
      go_wp2
      go_ret
      exact ⟨rfl, (Below.refl _ _).alloc (Nat.le_refl _) _⟩
  · have HM : Hid (mayB s n = false) := by show _ = _; simp [mayB, h1]
    rw [HM.out]
    have h1' : decide (1 ≤ s) = false := by simpa using h1
    go_enter Try.func10, Try.ntmps10
    go_wp2
    go_ret
    exact ⟨rfl, (Below.refl _ _).alloc (Nat.le_refl _) _⟩
theorem rmay_any (s : Int) (A : Option Addr) (n c : Nat) (w : World) (hn : n ≤ 9223372036854775807) :
    Calls Try.prog 11 #[.agg #[.int .i64 s, .slice A n c]] w fun e w' => e = .returned (.bool (mayB s n)) ∧ Below w.heap.size w w' := by
  by_cases h1 : 1 ≤ s
  · by_cases h2 : s ≤ 281474976710655
    · by_cases h3 : n ≤ 6000
      · have HM : Hid (mayB s n = true) := by show _ = _; simp [mayB, h1, h2, h3]
        rw [HM.out]
        go_enter Try.func11, Try.ntmps11
        go_wp2
        go_ret
        exact ⟨retb (decide_eq_true (by omega)), (Below.refl _ _).alloc (Nat.le_refl _) _⟩
      · have HM : Hid (mayB s n = false) := by show _ = _; simp [mayB, h3]
        rw [HM.out]
        have h3' : decide (n ≤ 6000) = false := by simpa using h3
        go_enter Try.func11, Try.ntmps11
        go_wp2
        go_ret
        exact ⟨retb (decide_eq_false (by omega)), (Below.refl _ _).alloc (Nat.le_refl _) _⟩
    · have HM : Hid (mayB s n = false) := by show _ = _; simp [mayB, h2]
      rw [HM.out]
      have h2' : decide (s ≤ 281474976710655) = false := by simpa using h2
      go_enter Try.func11, Try.ntmps11
      go_wp2
      go_ret
      exact ⟨rfl, (Below.refl _ _).alloc (Nat.le_refl _) _⟩
  · have HM : Hid (mayB s n = false) := by show _ = _; simp [mayB, h1]
    rw [HM.out]
    have h1' : decide (1 ≤ s) = false := by simpa using h1
    go_enter Try.func11, Try.ntmps11
    go_wp2
    go_ret
    exact ⟨rfl, (Below.refl _ _).alloc (Nat.le_refl _) _⟩

/-- No more octets than are looked at. -/
def fw (l : List UInt8) : List UInt8 := if 400 < l.length ∧ l.length ≤ 6000 then l.take 400 else l.take 6001
theorem fw_len (l : List UInt8) : (fw l).length ≤ 6001 := by unfold fw; split <;> simp <;> omega
theorem fw_octs {w : World} {B : Nat} {A : Option Addr} {l : List UInt8} (h : Octs w B A l) : Octs w B A (fw l) := by
  unfold fw; split
  · exact h.take 400
  · exact h.take 6001
theorem few_any (A : Option Addr) (l : List UInt8) (c : Nat) (w : World) (hc : l.length ≤ c) (hl : l.length ≤ 9223372036854775807) :
    Calls Try.prog 8 #[.slice A l.length c] w fun e w' => e = .returned (.slice A (fw l).length c) ∧ w = w' := by
  obtain ⟨n, hn⟩ : ∃ n, n = l.length := ⟨_, rfl⟩
  have HT : Hid ((fw l).length = if 400 < n ∧ n ≤ 6000 then 400 else min 6001 n) := by show _ = _; unfold fw; rw [← hn]; split <;> simp <;> omega
  rw [← hn] at hc hl ⊢
  rw [HT.out]
  clear HT hn
  by_cases h : 400 < n
  · by_cases h2 : n ≤ 6000
    · rw [if_pos ⟨h, h2⟩]
      go_enter Try.func8, Try.ntmps8
      go_wp2
      go_ret
      exact ⟨rfl, rfl⟩
    · rw [if_neg (by omega)]
      have h2' : decide (n ≤ 6000) = false := by simpa using h2
      by_cases h3 : 6001 < n
      · have HM : Hid (min 6001 n = 6001) := by show _ = _; omega
        rw [HM.out]
        go_enter Try.func8, Try.ntmps8
        go_wp2
        go_ret
        exact ⟨rfl, rfl⟩
      · have HM : Hid (min 6001 n = n) := by show _ = _; omega
        rw [HM.out]
        go_enter Try.func8, Try.ntmps8
        go_wp2
        go_ret
        exact ⟨rfl, rfl⟩
  · rw [if_neg (by omega)]
    have h' : decide (400 < n) = false := by simpa using h
    have HM : Hid (min 6001 n = n) := by show _ = _; omega
    have h3 : ¬ 6001 < n := by omega
    rw [HM.out]
    go_enter Try.func8, Try.ntmps8
    go_wp2
    go_ret
    exact ⟨rfl, rfl⟩

theorem isnt_any (b : UInt8) (w : World) : Calls Try.prog 23 #[.int .u8 (b.toNat : Int)] w fun e w' => e = .returned (.bool (!(b == 0))) ∧ w = w' := by
  have HE : Hid ((((b.toNat : Int)) != 0) = !(b == 0)) := by
    show _ = _
    by_cases h : b = 0
    · subst h; rfl
    · have : ¬ (b.toNat : Int) = 0 := fun e => h (UInt8.toNat_inj.1 (by have h0 : (0 : UInt8).toNat = 0 := rfl; omega))
      have h1 : (b == 0) = false := beq_eq_false_iff_ne.2 h
      have h2 : ((b.toNat : Int) != 0) = true := bne_iff_ne.2 this
      rw [h1, h2]; rfl
  obtain ⟨n, hn⟩ : ∃ n, n = b.toNat := ⟨_, rfl⟩
  rw [← hn] at HE ⊢
  clear hn
  go_enter Try.func23, Try.ntmps23
  go_wp2
  go_ret
  exact ⟨retb HE.out, rfl⟩
def FoundB (b : Bool) (w : World) (e : Ending) (w' : World) : Prop := ∃ r : Int, e = .returned (.int .i64 r) ∧ decide (0 ≤ r) = b ∧ w = w'
def some8 (l : List UInt8) : Bool := l.any fun b => !(b == 0)
theorem some8_noughts (k : Nat) : some8 (noughts8 k) = false := by
  unfold some8
  rw [List.any_eq_false]
  intro b hb
  obtain rfl := List.eq_of_mem_replicate hb
  decide
theorem some8_iff (l : List UInt8) : some8 l = false ↔ l = noughts8 l.length := by
  constructor
  · intro h
    unfold some8 at h
    rw [List.any_eq_false] at h
    refine List.eq_replicate_iff.2 ⟨rfl, fun b hb => ?_⟩
    have := h b hb
    simpa using this
  · intro h
    rw [h]; exact some8_noughts _
set_option maxHeartbeats 800000 in
theorem index_any (A : Option Addr) (l : List UInt8) (c B : Nat) (w : World) (hr : Octs w B A l) (hl : l.length ≤ 1000000) :
    Calls Try.prog 31 #[.slice A l.length c, .func (.func 23) #[] #[]] w (FoundB (some8 l) w) := by
  have HP := Lib.hid hr
  clear hr
  go_enter Try.func31, Try.ntmps31
  go_wp2_with fail
  go_loop [8] (fun i => ∃ k : Nat, k ≤ l.length ∧ i = .int .i64 k ∧ Hid (some8 (l.drop k) = some8 l)) (fun i => l.length - (intOf i).toNat)
  case atStart => exact ⟨0, Nat.zero_le _, rfl, rfl⟩
  case round =>
    obtain ⟨k, hk, rfl, HR⟩ := hrel
    by_cases hlt : k < l.length
    · obtain ⟨ad, rfl, hb1, hc⟩ := HP.out k hlt
      have HD := Lib.hid (drop_cons l k hlt)
      obtain ⟨b, hbb⟩ : ∃ b, b = l[k] := ⟨_, rfl⟩
      rw [← hbb] at hc HD
      have HI := Lib.hid (fun W => isnt_any b W)
      have HN : Hid (some8 l = (!(b == 0) || some8 (l.drop (k + 1)))) := by show _ = _; rw [← HR.out, HD.out]; rfl
      clear hbb
      cases hz : (!(b == 0)) with
      | true =>
        have HZ := Lib.hid hz
        clear hz
        go_wp2_with fail
        refine (HI.out _).mono ?_
        rintro e w' ⟨rfl, rfl⟩
        rw [HZ.out]
        go_wp2_with fail
        go_ret
        exact ⟨k, rfl, by rw [HN.out, HZ.out]; simp, rfl⟩
      | false =>
        have HZ := Lib.hid hz
        clear hz
        go_wp2_with fail
        refine (HI.out _).mono ?_
        rintro e w' ⟨rfl, rfl⟩
        rw [HZ.out]
        go_wp2_with fail
        go_round
        case rel => exact ⟨k + 1, by omega, by go_num, by
          show _ = _
          rw [HN.out, HZ.out]; rfl⟩
        case measure => simp [intOf]; omega
    · obtain rfl : k = l.length := by omega
      go_wp2_with fail
      go_ret
      exact ⟨-1, rfl, by
        have h := HR.out
        rw [List.drop_length] at h
        rw [← h]; rfl, rfl⟩
theorem has_any (A : Option Addr) (l : List UInt8) (c B : Nat) (w : World) (hr : Octs w B A l) (hl : l.length ≤ 1000000) :
    Calls Try.prog 22 #[.slice A l.length c, .func (.func 23) #[] #[]] w fun e w' => e = .returned (.bool (some8 l)) ∧ w = w' := by
  have HI := Lib.hid (index_any A l c B w hr hl)
  clear hr
  go_enter Try.func22, Try.ntmps22
  go_wp2_with fail
  refine HI.out.mono ?_
  rintro e w' ⟨r, rfl, hr, rfl⟩
  have HR := Lib.hid hr
  clear hr
  go_wp2_with fail
  go_ret
  exact ⟨retb HR.out, rfl⟩
end Go.Proofs.Ytckgfbpgomkpnaa
