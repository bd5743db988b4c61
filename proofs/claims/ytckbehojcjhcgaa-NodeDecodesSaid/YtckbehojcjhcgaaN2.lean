/- Contracts: the library's IndexFunc, ContainsFunc, Index, Contains; whether keys rise. -/
import Derived.Test.YtckbehojcjhcgaaN1
namespace Go.Proofs.Ytckbehojcjhcgaa.Nod
open Go.RowKit Crc Chk Frm Fra

def Found (b : Bool) (B : Nat) (w : World) (e : Ending) (w' : World) : Prop := ∃ r : Int, e = .returned (.int .i64 r) ∧ decide (0 ≤ r) = b ∧ Below B w w'
theorem any_take_succ {α : Type} (f : α → Bool) (l : List α) (k : Nat) (h : k < l.length) : (l.take (k + 1)).any f = ((l.take k).any f || f l[k]) := by
  rw [List.take_succ_eq_append_getElem h, List.any_append]; simp
theorem any_of {α : Type} {f : α → Bool} {l : List α} {k : Nat} (h : k < l.length) (hf : f l[k] = true) : l.any f = true := List.any_eq_true.2 ⟨_, List.getElem_mem h, hf⟩
abbrev badP (p : T × T) : Bool := !valB p.2
set_option maxHeartbeats 800000 in
theorem idxP_any (A : Option Addr) (l : List (T × T)) (n c : Nat) (w : World) (hs : Prs w w.heap.size A l) (hl : l.length = n) (hn : n ≤ 9223372036854775807) :
    Calls Try.prog 52 #[.slice A n c, .func (.func 36) #[] #[]] w (Found (l.any badP) w.heap.size w) := by
  have HP := Lib.hid hs
  have HL := Lib.hid hl
  clear hs hl
  go_enter Try.func52, Try.ntmps52
  go_wp2_with fail
  go_loopw [8] (fun i wr => ∃ k : Nat, k ≤ n ∧ i = .int .i64 k ∧ Hid ((l.take k).any badP = false) ∧ Below w.heap.size w wr) (fun i _ => n - (intOf i).toNat)
  case atStart => exact ⟨0, Nat.zero_le _, rfl, by show _ = _; simp, Below.refl _ _⟩
  case round =>
    obtain ⟨k, hk, rfl, HR, hbel⟩ := hrel
    have HBL := Lib.hid hbel
    by_cases hlt : k < n
    · have hlt' : k < l.length := by rw [HL.out]; exact hlt
      obtain ⟨b0, o0, rfl, hb1, hc0, hd0⟩ := HP.out k hlt'
      have hc := (hbel.cell (p := ⟨b0, o0 + k * 2, none⟩) hb1).trans hc0
      have hd := (hbel.cell (p := ⟨b0, o0 + k * 2 + 1, none⟩) hb1).trans hd0
      have HD := Lib.hid (any_take_succ badP l k hlt')
      have HA : Hid (badP l[k] = true → l.any badP = true) := fun h => any_of hlt' h
      have HV : Hid (∀ W, Calls Try.prog 36 #[.agg #[.string (text l[k].1), .string (text l[k].2)]] W fun e w' => e = .returned (.bool (!valB l[k].2)) ∧ Below W.heap.size W w') := fun W => tooLong_any l[k].1 l[k].2 W
      obtain ⟨t, ht⟩ : ∃ t, t = text l[k].1 := ⟨_, rfl⟩
      obtain ⟨u, hu⟩ : ∃ t, t = text l[k].2 := ⟨_, rfl⟩
      obtain ⟨x, hx⟩ : ∃ x, x = badP l[k] := ⟨_, rfl⟩
      rw [← ht] at hc
      rw [← hu] at hd
      rw [← ht, ← hu, show (!valB l[k].2) = x from hx.symm] at HV
      rw [← hx] at HD HA
      clear ht hu hx hc0 hd0 hbel hlt'
      cases x with
      | true =>
        go_wp2_with fail
        refine (HV.out _).mono ?_
        rintro e w' ⟨rfl, hb2⟩
        have HB2 := Lib.hid (HBL.out.trans (hb2.mono HBL.out.size))
        clear hb2
        go_wp2_with fail
        go_ret
        exact ⟨k, rfl, by rw [HA.out (by first | trivial | rfl)]; simp, HB2.out⟩
      | false =>
        go_wp2_with fail
        refine (HV.out _).mono ?_
        rintro e w' ⟨rfl, hb2⟩
        have HB2 := Lib.hid (HBL.out.trans (hb2.mono HBL.out.size))
        clear hb2
        go_wp2_with fail
        go_roundw
        case rel => exact ⟨k + 1, by omega, by go_num, by
          show _ = _
          rw [HD.out, HR.out]; rfl, HB2.out⟩
        case measure => simp [intOf]; omega
    · obtain rfl : k = n := by omega
      clear hbel
      go_wp2_with fail
      go_ret
      exact ⟨-1, rfl, by
        have h := HR.out
        rw [← HL.out, List.take_length] at h
        rw [h]; rfl, HBL.out⟩
theorem hasP_any (A : Option Addr) (l : List (T × T)) (n c : Nat) (w : World) (hs : Prs w w.heap.size A l) (hl : l.length = n) (hn : n ≤ 9223372036854775807) :
    Calls Try.prog 37 #[.slice A n c, .func (.func 36) #[] #[]] w fun e w' => e = .returned (.bool (l.any badP)) ∧ Below w.heap.size w w' := by
  have HX := Lib.hid (idxP_any A l n c w hs hl hn)
  clear hs hl
  go_enter Try.func37, Try.ntmps37
  go_wp2_with fail
  refine HX.out.mono ?_
  rintro e w' ⟨r, rfl, hr, hb⟩
  have HB := Lib.hid hb
  have HR := Lib.hid hr
  clear hb hr
  go_wp2_with fail
  go_ret
  exact ⟨retb HR.out, HB.out⟩
set_option maxHeartbeats 800000 in
theorem idxK_any (A : Option Addr) (l : List Int) (n c : Nat) (x : Int) (w : World) (hs : Kds w w.heap.size A l) (hl : l.length = n) (hn : n ≤ 9223372036854775807) :
    Calls Try.prog 53 #[.slice A n c, .int .i64 x] w fun e w' => ∃ r : Int, e = .returned (.int .i64 r) ∧ decide (0 ≤ r) = l.contains x ∧ w = w' := by
  have HP := Lib.hid hs
  have HL := Lib.hid hl
  clear hs hl
  obtain ⟨q, hq⟩ : ∃ q, q = l.contains x := ⟨_, rfl⟩
  rw [← hq]
  have HQ := Lib.hid hq
  clear hq
  go_enter Try.func53, Try.ntmps53
  go_wp2_with fail
  go_loop [8] (fun i => ∃ k : Nat, k ≤ n ∧ i = .int .i64 k ∧ Hid ((l.take k).any (fun a => x == a) = false)) (fun i => n - (intOf i).toNat)
  case atStart => exact ⟨0, Nat.zero_le _, rfl, by show _ = _; simp⟩
  case round =>
    obtain ⟨k, hk, rfl, HR⟩ := hrel
    by_cases hlt : k < n
    · have hlt' : k < l.length := by rw [HL.out]; exact hlt
      obtain ⟨b0, o0, rfl, hb1, hc, hr1, hr2⟩ := HP.out k hlt'
      have HD := Lib.hid (any_take_succ (fun a => x == a) l k hlt')
      have HA : Hid ((x == l[k]) = true → l.contains x = true) := fun h => by rw [List.contains_eq_any_beq]; exact any_of (f := fun a => x == a) hlt' h
      obtain ⟨a, ha⟩ : ∃ a, a = l[k] := ⟨_, rfl⟩
      rw [← ha] at hc HD HA hr1 hr2
      clear ha hlt'
      by_cases hxa : x = a
      · subst hxa
        go_wp2_with fail
        go_ret
        exact ⟨k, rfl, by rw [HQ.out, HA.out (by simp)]; exact decide_eq_true (by omega), rfl⟩
      · have HN : Hid ((x == a) = false) := by show _ = _; simpa using hxa
        go_wp2_with fail
        go_round
        case rel => exact ⟨k + 1, by omega, by go_num, by
          show _ = _
          rw [HD.out, HR.out, HN.out]; rfl⟩
        case measure => simp [intOf]; omega
    · obtain rfl : k = n := by omega
      go_wp2_with fail
      go_ret
      exact ⟨-1, rfl, by
        have h := HR.out
        rw [← HL.out, List.take_length] at h
        rw [HQ.out, List.contains_eq_any_beq, h]; rfl, rfl⟩
theorem hasK_any (A : Option Addr) (l : List Int) (n c : Nat) (x : Int) (w : World) (hs : Kds w w.heap.size A l) (hl : l.length = n) (hn : n ≤ 9223372036854775807) :
    Calls Try.prog 40 #[.slice A n c, .int .i64 x] w fun e w' => e = .returned (.bool (l.contains x)) ∧ w = w' := by
  have HX := Lib.hid (idxK_any A l n c x w hs hl hn)
  clear hs hl
  go_enter Try.func40, Try.ntmps40
  go_wp2_with fail
  refine HX.out.mono ?_
  rintro e w' ⟨r, rfl, hr, rfl⟩
  have HR := Lib.hid hr
  clear hr
  go_wp2_with fail
  go_ret
  exact ⟨retb HR.out, rfl⟩
def riseAt (l : List T) (i : Nat) : Bool := keyB (l.getD i []) && (decide (i = 0) || ltB (l.getD (i - 1) []) (l.getD i []))
theorem rise_eq (l : List T) : riseB l = (List.range l.length).all (riseAt l) := rfl
theorem all_range_succ (f : Nat → Bool) (k : Nat) : (List.range (k + 1)).all f = ((List.range k).all f && f k) := by
  rw [List.range_succ, List.all_append]; simp
theorem all_range_no {f : Nat → Bool} {k n : Nat} (h : k < n) (hf : f k = false) : (List.range n).all f = false := by
  rw [List.all_eq_false]; exact ⟨k, List.mem_range.2 h, by simp [hf]⟩
theorem getD_at {α : Type} (l : List α) (d : α) (i : Nat) (h : i < l.length) : l.getD i d = l[i] := by
  rw [List.getD_eq_getElem?_getD, List.getElem?_eq_getElem h]; rfl
set_option maxHeartbeats 1600000 in
theorem rise39_any (r : Nat) (l : List T) (n : Nat) (w : World) (hl : l.length = n) (hn : n ≤ 9223372036854775807)
    (hf : ∀ i, (hi : i < l.length) → Calls Try.prog 39 #[.int .i64 i, .pointer (some ⟨r, 0, none⟩)] w fun e w' => e = .returned (.string (text (l[i]))) ∧ w = w') :
    Calls Try.prog 38 #[.int .i64 n, .func (.func 39) #[] #[.pointer (some ⟨r, 0, none⟩)]] w fun e w' => e = .returned (.bool (riseB l)) ∧ w = w' := by
  have HL := Lib.hid hl
  have HF : Hid (∀ i : Nat, ∀ x : Int, i < n → x = i → Calls Try.prog 39 #[.int .i64 x, .pointer (some ⟨r, 0, none⟩)] w fun e w' => e = .returned (.string (text (l.getD i []))) ∧ w = w') := fun i x hi hx => by
    subst hx
    rw [getD_at l [] i (by omega)]; exact hf i (by omega)
  clear hf hl
  go_enter Try.func38, Try.ntmps38
  go_wp2_with fail
  go_loop [7] (fun i => ∃ k : Nat, k ≤ n ∧ i = .int .i64 k ∧ Hid ((List.range k).all (riseAt l) = true)) (fun i => n - (intOf i).toNat)
  case atStart => exact ⟨0, Nat.zero_le _, rfl, rfl⟩
  case round =>
    obtain ⟨k, hk, rfl, HR⟩ := hrel
    by_cases hlt : k < n
    · have F1 : Hid (∀ x : Int, x = k → Calls Try.prog 39 #[.int .i64 x, .pointer (some ⟨r, 0, none⟩)] w fun e w' => e = .returned (.string (text (l.getD k []))) ∧ w = w') := fun x hx => HF.out k x hlt hx
      have F0 : Hid (0 < k → ∀ x : Int, x = (k : Int) - 1 → Calls Try.prog 39 #[.int .i64 x, .pointer (some ⟨r, 0, none⟩)] w fun e w' => e = .returned (.string (text (l.getD (k - 1) []))) ∧ w = w') := fun h0 x hx => HF.out (k - 1) x (by omega) (by omega)
      have HE : Hid (riseAt l k = (keyB (l.getD k []) && (decide (k = 0) || Op.bytesLess (text (l.getD (k - 1) [])).toList (text (l.getD k [])).toList))) := by
        show _ = _
        rw [text_toList, text_toList]; rfl
      have HK := Lib.hid (key_any (l.getD k []) w)
      obtain ⟨t, ht⟩ : ∃ t, t = text (l.getD k []) := ⟨_, rfl⟩
      obtain ⟨u, hu⟩ : ∃ t, t = text (l.getD (k - 1) []) := ⟨_, rfl⟩
      obtain ⟨x, hx⟩ : ∃ x, x = keyB (l.getD k []) := ⟨_, rfl⟩
      rw [← ht, ← hx] at HK
      rw [← ht] at F1
      rw [← hu] at F0
      rw [← hx, ← ht, ← hu] at HE
      clear ht hu hx
      have HY : Hid (riseAt l k = true → (List.range (k + 1)).all (riseAt l) = true) := fun h => by rw [all_range_succ, HR.out, h]; rfl
      have HNo : Hid (riseAt l k = false → riseB l = false) := fun h => by rw [rise_eq]; exact all_range_no (by rw [HL.out]; exact hlt) h
      cases x with
      | false =>
        go_wp2_with fail
        refine (F1.out _ rfl).mono ?_
        rintro e w1 ⟨rfl, rfl⟩
        go_wp2_with fail
        refine HK.out.mono ?_
        rintro e w1 ⟨rfl, rfl⟩
        go_wp2_with fail
        go_ret
        exact ⟨retb (HNo.out HE.out).symm, rfl⟩
      | true =>
        by_cases h0 : k = 0
        · subst h0
          go_wp2_with fail
          refine (F1.out _ rfl).mono ?_
          rintro e w1 ⟨rfl, rfl⟩
          go_wp2_with fail
          refine HK.out.mono ?_
          rintro e w1 ⟨rfl, rfl⟩
          go_wp2_with fail
          go_round
          case rel => exact ⟨1, by omega, by go_num, HY.out HE.out⟩
          case measure => simp [intOf]; omega
        · have h1 : 0 < k := by omega
          have hk0 : decide (k = 0) = false := decide_eq_false h0
          rw [hk0] at HE
          replace F0 := Lib.hid (F0.out h1)
          obtain ⟨y, hy⟩ : ∃ y, Op.bytesLess u.toList t.toList = y := ⟨_, rfl⟩
          rw [hy] at HE
          have hge : ∀ W, (binOp .geq 9 (.string u) (.string t)).run Try.prog W = .ok (.bool (!y)) W := fun W => by rw [← hy]; simp [binOp, Op.stringOp]
          clear hk0 hy
          cases y with
          | false =>
            go_wp2_with fail
            refine (F1.out _ rfl).mono ?_
            rintro e w1 ⟨rfl, rfl⟩
            go_wp2_with fail
            refine HK.out.mono ?_
            rintro e w1 ⟨rfl, rfl⟩
            go_wp2_with fail
            refine (F0.out _ rfl).mono ?_
            rintro e w1 ⟨rfl, rfl⟩
            go_wp2_with fail
            refine (F1.out _ rfl).mono ?_
            rintro e w1 ⟨rfl, rfl⟩
            go_wp2_with fail
            go_ret
            exact ⟨retb (HNo.out HE.out).symm, rfl⟩
          | true =>
            go_wp2_with fail
            refine (F1.out _ rfl).mono ?_
            rintro e w1 ⟨rfl, rfl⟩
            go_wp2_with fail
            refine HK.out.mono ?_
            rintro e w1 ⟨rfl, rfl⟩
            go_wp2_with fail
            refine (F0.out _ rfl).mono ?_
            rintro e w1 ⟨rfl, rfl⟩
            go_wp2_with fail
            refine (F1.out _ rfl).mono ?_
            rintro e w1 ⟨rfl, rfl⟩
            go_wp2_with fail
            go_round
            case rel => exact ⟨k + 1, by omega, by go_num, HY.out HE.out⟩
            case measure => simp [intOf]; omega
    · obtain rfl : k = n := by omega
      have HZ : Hid (riseB l = true) := by
        show _ = _
        rw [rise_eq, HL.out]; exact HR.out
      go_wp2_with fail
      go_ret
      exact ⟨retb HZ.out.symm, rfl⟩
set_option maxHeartbeats 1600000 in
theorem rise41_any (r : Nat) (l : List T) (n : Nat) (w : World) (hl : l.length = n) (hn : n ≤ 9223372036854775807)
    (hf : ∀ i, (hi : i < l.length) → Calls Try.prog 41 #[.int .i64 i, .pointer (some ⟨r, 0, none⟩)] w fun e w' => e = .returned (.string (text (l[i]))) ∧ w = w') :
    Calls Try.prog 38 #[.int .i64 n, .func (.func 41) #[] #[.pointer (some ⟨r, 0, none⟩)]] w fun e w' => e = .returned (.bool (riseB l)) ∧ w = w' := by
  have HL := Lib.hid hl
  have HF : Hid (∀ i : Nat, ∀ x : Int, i < n → x = i → Calls Try.prog 41 #[.int .i64 x, .pointer (some ⟨r, 0, none⟩)] w fun e w' => e = .returned (.string (text (l.getD i []))) ∧ w = w') := fun i x hi hx => by
    subst hx
    rw [getD_at l [] i (by omega)]; exact hf i (by omega)
  clear hf hl
  go_enter Try.func38, Try.ntmps38
  go_wp2_with fail
  go_loop [7] (fun i => ∃ k : Nat, k ≤ n ∧ i = .int .i64 k ∧ Hid ((List.range k).all (riseAt l) = true)) (fun i => n - (intOf i).toNat)
  case atStart => exact ⟨0, Nat.zero_le _, rfl, rfl⟩
  case round =>
    obtain ⟨k, hk, rfl, HR⟩ := hrel
    by_cases hlt : k < n
    · have F1 : Hid (∀ x : Int, x = k → Calls Try.prog 41 #[.int .i64 x, .pointer (some ⟨r, 0, none⟩)] w fun e w' => e = .returned (.string (text (l.getD k []))) ∧ w = w') := fun x hx => HF.out k x hlt hx
      have F0 : Hid (0 < k → ∀ x : Int, x = (k : Int) - 1 → Calls Try.prog 41 #[.int .i64 x, .pointer (some ⟨r, 0, none⟩)] w fun e w' => e = .returned (.string (text (l.getD (k - 1) []))) ∧ w = w') := fun h0 x hx => HF.out (k - 1) x (by omega) (by omega)
      have HE : Hid (riseAt l k = (keyB (l.getD k []) && (decide (k = 0) || Op.bytesLess (text (l.getD (k - 1) [])).toList (text (l.getD k [])).toList))) := by
        show _ = _
        rw [text_toList, text_toList]; rfl
      have HK := Lib.hid (key_any (l.getD k []) w)
      obtain ⟨t, ht⟩ : ∃ t, t = text (l.getD k []) := ⟨_, rfl⟩
      obtain ⟨u, hu⟩ : ∃ t, t = text (l.getD (k - 1) []) := ⟨_, rfl⟩
      obtain ⟨x, hx⟩ : ∃ x, x = keyB (l.getD k []) := ⟨_, rfl⟩
      rw [← ht, ← hx] at HK
      rw [← ht] at F1
      rw [← hu] at F0
      rw [← hx, ← ht, ← hu] at HE
      clear ht hu hx
      have HY : Hid (riseAt l k = true → (List.range (k + 1)).all (riseAt l) = true) := fun h => by rw [all_range_succ, HR.out, h]; rfl
      have HNo : Hid (riseAt l k = false → riseB l = false) := fun h => by rw [rise_eq]; exact all_range_no (by rw [HL.out]; exact hlt) h
      cases x with
      | false =>
        go_wp2_with fail
        refine (F1.out _ rfl).mono ?_
        rintro e w1 ⟨rfl, rfl⟩
        go_wp2_with fail
        refine HK.out.mono ?_
        rintro e w1 ⟨rfl, rfl⟩
        go_wp2_with fail
        go_ret
        exact ⟨retb (HNo.out HE.out).symm, rfl⟩
      | true =>
        by_cases h0 : k = 0
        · subst h0
          go_wp2_with fail
          refine (F1.out _ rfl).mono ?_
          rintro e w1 ⟨rfl, rfl⟩
          go_wp2_with fail
          refine HK.out.mono ?_
          rintro e w1 ⟨rfl, rfl⟩
          go_wp2_with fail
          go_round
          case rel => exact ⟨1, by omega, by go_num, HY.out HE.out⟩
          case measure => simp [intOf]; omega
        · have h1 : 0 < k := by omega
          have hk0 : decide (k = 0) = false := decide_eq_false h0
          rw [hk0] at HE
          replace F0 := Lib.hid (F0.out h1)
          obtain ⟨y, hy⟩ : ∃ y, Op.bytesLess u.toList t.toList = y := ⟨_, rfl⟩
          rw [hy] at HE
          have hge : ∀ W, (binOp .geq 9 (.string u) (.string t)).run Try.prog W = .ok (.bool (!y)) W := fun W => by rw [← hy]; simp [binOp, Op.stringOp]
          clear hk0 hy
          cases y with
          | false =>
            go_wp2_with fail
            refine (F1.out _ rfl).mono ?_
            rintro e w1 ⟨rfl, rfl⟩
            go_wp2_with fail
            refine HK.out.mono ?_
            rintro e w1 ⟨rfl, rfl⟩
            go_wp2_with fail
            refine (F0.out _ rfl).mono ?_
            rintro e w1 ⟨rfl, rfl⟩
            go_wp2_with fail
            refine (F1.out _ rfl).mono ?_
            rintro e w1 ⟨rfl, rfl⟩
            go_wp2_with fail
            go_ret
            exact ⟨retb (HNo.out HE.out).symm, rfl⟩
          | true =>
            go_wp2_with fail
            refine (F1.out _ rfl).mono ?_
            rintro e w1 ⟨rfl, rfl⟩
            go_wp2_with fail
            refine HK.out.mono ?_
            rintro e w1 ⟨rfl, rfl⟩
            go_wp2_with fail
            refine (F0.out _ rfl).mono ?_
            rintro e w1 ⟨rfl, rfl⟩
            go_wp2_with fail
            refine (F1.out _ rfl).mono ?_
            rintro e w1 ⟨rfl, rfl⟩
            go_wp2_with fail
            go_round
            case rel => exact ⟨k + 1, by omega, by go_num, HY.out HE.out⟩
            case measure => simp [intOf]; omega
    · obtain rfl : k = n := by omega
      have HZ : Hid (riseB l = true) := by
        show _ = _
        rw [rise_eq, HL.out]; exact HR.out
      go_wp2_with fail
      go_ret
      exact ⟨retb HZ.out.symm, rfl⟩
end Go.Proofs.Ytckbehojcjhcgaa.Nod
