/- Contracts: digits of a number in a width, and their number; the document's own. Conditions: none. -/
import Derived.Test.YtkhkncgndllkjaaDoorK1
import Derived.Maps.AppendAt
import Derived.Lib.ItoaMem
namespace Go.Proofs.YtkhkncgndllkjaaDoor.Hol.Dg
open Go.RowKit Cht

/-! ### What digits spell -/
theorem sz0 {n : Nat} (h : 1 ≤ n) : ((n : Int) == 0) = false := by
  have : (n : Int) ≠ 0 := by omega
  simpa using this
theorem get_arg (s : ByteArray) (w : World) (h : s.size = 0 ∨ 19 < s.size) (hs : s.size ≤ 1000) :
    Calls Tryd.prog 26 #[.string s] w fun e w' => e = .returned (.tuple #[.int .u64 0, .int .i64 1]) ∧ w = w' := by
  rcases h with h | h
  · have h0 : ((s.size : Int) == 0) = true := by rw [h]; rfl
    go_enter Tryd.func26, Tryd.ntmps26
    go_wp2
    go_ret2
    exact ⟨rfl, rfl⟩
  · have h0 : ((s.size : Int) == 0) = false := sz0 (by omega)
    go_enter Tryd.func26, Tryd.ntmps26
    go_wp2
    go_ret2
    exact ⟨rfl, rfl⟩
theorem get_form (s : ByteArray) (w : World) (h0 : 1 ≤ s.size) (h19 : s.size ≤ 19) (ha : allD s.data.toList = false) :
    Calls Tryd.prog 26 #[.string s] w fun e w' => e = .returned (.tuple #[.int .u64 0, .int .i64 4]) ∧ w = w' := by
  have h00 : ((s.size : Int) == 0) = false := sz0 (by omega)
  have HA := Lib.hid ha
  clear ha
  go_enter Tryd.func26, Tryd.ntmps26
  go_wp2_with fail
  refine (all_any s _ (by omega)).mono ?_
  rintro e w' ⟨rfl, rfl⟩
  rw [HA.out]
  go_wp2_with fail
  go_ret2
  exact ⟨rfl, rfl⟩
theorem val_at {s : ByteArray} {a k : Nat} (h : k < s.size) (hr : val a (s.data.toList.drop k) = val 0 s.data.toList) : val (a * 10 + (s[k].toNat - 48)) (s.data.toList.drop (k + 1)) = val 0 s.data.toList := by
  rw [← hr, at_eq s k h, val_cons]
set_option maxHeartbeats 400000 in
theorem get_ok (s : ByteArray) (w : World) (h0 : 1 ≤ s.size) (h19 : s.size ≤ 19) (ha : allD s.data.toList = true) :
    Calls Tryd.prog 26 #[.string s] w fun e w' => e = .returned (.tuple #[.int .u64 ((val 0 s.data.toList : Nat) : Int), .int .i64 0]) ∧ w = w' := by
  have h00 : ((s.size : Int) == 0) = false := sz0 (by omega)
  have HA := Lib.hid ha
  clear ha
  go_enter Tryd.func26, Tryd.ntmps26
  go_wp2_with fail
  refine (all_any s _ (by omega)).mono ?_
  rintro e w' ⟨rfl, rfl⟩
  rw [HA.out]
  go_wp2_with fail
  go_loop [4, 19] (fun v i => ∃ k a : Nat, k ≤ s.size ∧ i = .int .i64 k ∧ v = .int .u64 a ∧ a < 10 ^ k ∧ Hid (val a (s.data.toList.drop k) = val 0 s.data.toList)) (fun _ i => s.size - (intOf i).toNat)
  case atStart => exact ⟨0, 0, Nat.zero_le _, rfl, rfl, by decide, rfl⟩
  case round =>
    obtain ⟨k, a, hk, rfl, rfl, hak, HR⟩ := hrel
    by_cases hlt : k < s.size
    · have hp := pow19 (k := k) (by omega)
      have HP := Lib.hid (pow_s k)
      obtain ⟨h1, h2⟩ := D_at HA.out hlt
      have HV := Lib.hid (val_at hlt HR.out)
      have hx : (0 : Int) ≤ (s[k].toNat : Int) - 48 := by omega
      have hy : (s[k].toNat : Int) - 48 ≤ 9 := by omega
      have hb : (a : Int) ≤ 1000000000000000000 := by omega
      have HC : Hid ((a : Int) * 10 + ((s[k].toNat : Int) - 48) = ((a * 10 + (s[k].toNat - 48) : Nat) : Int)) := by
        show _ = _
        omega
      have hn : a * 10 + (s[k].toNat - 48) < 10 ^ (k + 1) := by rw [HP.out]; omega
      go_wp2
      go_round
      case rel => exact ⟨k + 1, a * 10 + (s[k].toNat - 48), by omega, by go_num, by first | exact congrArg (Value.int .u64) HC.out | (simp; omega), hn, HV.out⟩
      case measure => simp [intOf]; omega
    · have HE : Hid (a = val 0 s.data.toList) := by
        show _ = _
        rw [← HR.out, List.drop_of_length_le (by rw [lsz]; omega)]; rfl
      go_wp2
      go_ret2
      exact ⟨ret2 (by rw [← HE.out]) rfl, rfl⟩
theorem rget_arg (s : ByteArray) (w : World) (h : s.size = 0 ∨ 19 < s.size) (hs : s.size ≤ 1000) :
    Calls Tryd.prog 29 #[.string s] w fun e w' => e = .returned (.tuple #[.int .u64 0, .int .i64 1]) ∧ w = w' := by
  rcases h with h | h
  · have h0 : s.size < 1 := by omega
    clear h
    go_enter Tryd.func29, Tryd.ntmps29
    go_wp2
    go_ret2
    exact ⟨rfl, rfl⟩
  · have h0 : ¬ s.size < 1 := by omega
    go_enter Tryd.func29, Tryd.ntmps29
    go_wp2
    go_ret2
    exact ⟨rfl, rfl⟩
theorem rget_form (s : ByteArray) (w : World) (h0 : 1 ≤ s.size) (h19 : s.size ≤ 19) (ha : allD s.data.toList = false) :
    Calls Tryd.prog 29 #[.string s] w fun e w' => e = .returned (.tuple #[.int .u64 0, .int .i64 4]) ∧ w = w' := by
  have h00 : ¬ s.size < 1 := by omega
  have HA := Lib.hid ha
  clear ha
  go_enter Tryd.func29, Tryd.ntmps29
  go_wp2_with fail
  refine (rall_any s _ (by omega)).mono ?_
  rintro e w' ⟨rfl, rfl⟩
  rw [HA.out]
  go_wp2_with fail
  go_ret2
  exact ⟨rfl, rfl⟩
set_option maxHeartbeats 400000 in
theorem rget_ok (s : ByteArray) (w : World) (h0 : 1 ≤ s.size) (h19 : s.size ≤ 19) (ha : allD s.data.toList = true) :
    Calls Tryd.prog 29 #[.string s] w fun e w' => e = .returned (.tuple #[.int .u64 ((val 0 s.data.toList : Nat) : Int), .int .i64 0]) ∧ w = w' := by
  have h00 : ¬ s.size < 1 := by omega
  have HA := Lib.hid ha
  clear ha
  go_enter Tryd.func29, Tryd.ntmps29
  go_wp2_with fail
  refine (rall_any s _ (by omega)).mono ?_
  rintro e w' ⟨rfl, rfl⟩
  rw [HA.out]
  go_wp2_with fail
  go_loop [4, 5] (fun v i => ∃ k a : Nat, k ≤ s.size ∧ i = .int .i64 k ∧ v = .int .u64 a ∧ a < 10 ^ k ∧ Hid (val a (s.data.toList.drop k) = val 0 s.data.toList)) (fun _ i => s.size - (intOf i).toNat)
  case atStart => exact ⟨0, 0, Nat.zero_le _, rfl, rfl, by decide, rfl⟩
  case round =>
    obtain ⟨k, a, hk, rfl, rfl, hak, HR⟩ := hrel
    by_cases hlt : k < s.size
    · have hp := pow19 (k := k) (by omega)
      have HP := Lib.hid (pow_s k)
      obtain ⟨h1, h2⟩ := D_at HA.out hlt
      have HV := Lib.hid (val_at hlt HR.out)
      have hb : (a : Int) ≤ 1000000000000000000 := by omega
      have hx : (48 : Int) ≤ s[k].toNat := by omega
      have hy : (s[k].toNat : Int) ≤ 57 := by omega
      have HC : Hid (10 * (a : Int) + (s[k].toNat : Int) - 48 = ((a * 10 + (s[k].toNat - 48) : Nat) : Int)) := by
        show _ = _
        omega
      have hn : a * 10 + (s[k].toNat - 48) < 10 ^ (k + 1) := by rw [HP.out]; omega
      go_wp2
      go_round
      case rel => exact ⟨k + 1, a * 10 + (s[k].toNat - 48), by omega, by go_num, by first | exact congrArg (Value.int .u64) HC.out | (simp; omega), hn, HV.out⟩
      case measure => simp [intOf]; omega
    · have HE : Hid (a = val 0 s.data.toList) := by
        show _ = _
        rw [← HR.out, List.drop_of_length_le (by rw [lsz]; omega)]; rfl
      go_wp2
      go_ret2
      exact ⟨ret2 (by rw [← HE.out]) rfl, rfl⟩
theorem catEq (l m : List UInt8) : (⟨l.toArray⟩ : ByteArray) ++ (⟨m.toArray⟩ : ByteArray) = ⟨(l ++ m).toArray⟩ := by
  apply ByteArray.ext
  simp [ByteArray.data_append]
/-! ### The document's -/
theorem conv_one (c : UInt8) (w : World) (T : TypeId) : (convert 88 9 (.slice (some ⟨w.heap.size, 0, none⟩) 1 1)).run Tryd.prog (w.alloc (.cells #[.int .u8 (c.toNat : Int)] T)) =
    .ok (.string ⟨[c].toArray⟩) (w.alloc (.cells #[.int .u8 (c.toNat : Int)] T)) :=
  run_convert_bytes_back (P := Tryd.prog) (w.alloc (.cells #[.int .u8 (c.toNat : Int)] T)) 88 9 5 ⟨w.heap.size, 0, none⟩ 1 [c] Tryd.underlying88 Tryd.underlying5 Tryd.underlying9 (fun j hj => by
    simp at hj; subst hj; simp [Addr.add])
theorem step {w w1 w2 : World} (h1 : Below w.heap.size w w1) (h2 : Below w1.heap.size w1 w2) : Below w.heap.size w w2 := h1.trans (h2.mono h1.size)
theorem below_new (w : World) (o : Obj) : Below w.heap.size w (w.alloc o) := (Below.refl _ _).alloc (Nat.le_refl _) _
theorem info5 : (Tryd.prog.info? 5).map (fun i => (i.zero, i.size, i.bytes)) = some (some (.int .u8 0), 1, 1) := by kernel_rfl
abbrev b8 : UInt8 → Value := fun (b : UInt8) => Value.int .u8 (b.toNat : Int)
/-- What lies in the octets behind k rounds. -/
def mixedP (n wd k : Nat) : List Value := List.replicate (wd - k) (.int .u8 0) ++ (putL n k).map b8
theorem mixedP_zero (n wd : Nat) : mixedP n wd 0 = List.replicate wd (.int .u8 0) := by simp [mixedP, putL]
theorem mixedP_len (n wd k : Nat) (h : k ≤ wd) : (mixedP n wd k).length = wd := by simp [mixedP, putL_len]; omega
theorem mixedP_step (n wd k : Nat) (h : k < wd) (v : Value) (hv : v = b8 (dg1 (n / 10 ^ k))) : (mixedP n wd k).set (wd - 1 - k) v = mixedP n wd (k + 1) := by
  subst hv
  unfold mixedP
  obtain ⟨m, hm⟩ : ∃ m, wd - k = m + 1 := ⟨wd - k - 1, by omega⟩
  rw [hm, show wd - (k + 1) = m by omega, show wd - 1 - k = m by omega, putL_front, List.replicate_succ']
  simp
theorem mixedP_all (n wd : Nat) : mixedP n wd wd = (putL n wd).map b8 := by simp [mixedP]
theorem put_arg (n width : Int) (w : World) (h : width < 1 ∨ 19 < width) :
    Calls Tryd.prog 31 #[.int .u64 n, .int .i64 width] w fun e w' => e = .returned (.tuple #[.string ⟨#[]⟩, .int .i64 1]) ∧ w = w' := by
  rcases h with h | h
  · go_enter Tryd.func31, Tryd.ntmps31
    go_wp2
    go_ret2
    exact ⟨rfl, rfl⟩
  · have h' : ¬ width < 1 := by omega
    go_enter Tryd.func31, Tryd.ntmps31
    go_wp2
    go_ret2
    exact ⟨rfl, rfl⟩
theorem retbs {a : ByteArray} {i j : Bool} (h : i = j) : Ending.returned (.tuple #[.string a, .bool i]) = .returned (.tuple #[.string a, .bool j]) := by rw [h]
def putV (n wd : Nat) : ByteArray := if n < 10 ^ wd then ⟨(putL n wd).toArray⟩ else ⟨#[]⟩
def putE (n wd : Nat) : Int := if n < 10 ^ wd then 0 else 2
set_option maxHeartbeats 800000 in
theorem put_any (n wd : Nat) (w : World) (hn : n < 18446744073709551616) (h1 : 1 ≤ wd) (h2 : wd ≤ 19) :
    Calls Tryd.prog 31 #[.int .u64 n, .int .i64 wd] w fun e w' => e = .returned (.tuple #[.string (putV n wd), .int .i64 (putE n wd)]) ∧ Below w.heap.size w w' := by
  obtain ⟨i0, hi, hz0, hz1, hz2⟩ := info_parts info5
  have hn1 : decide ((wd : Int) < 1) = false := by simp; omega
  have hn2 : decide ((19 : Int) < wd) = false := by simp; omega
  go_enter Tryd.func31, Tryd.ntmps31
  go_wp2_with (at_make; refine wpList_make_full _ rfl _ _ 88 rfl w.heap.size 5 i0 (.int .u8 0) 1 Tryd.underlying88 hi hz0 hz1 _ _ _ _ wd rfl rfl rfl rfl ?b2 ?b3 ?b4 ?_)
  case b2 => rw [hz2]; omega
  case b3 => unfold maxLen; omega
  case b4 => exact Nat.le_refl _
  intro w1 hown1 hgrow1
  have hbel1 : Below w.heap.size w w1 := (Below.refl _ _).grown hgrow1 (Nat.le_refl _) (fun k h => by cases h)
  have HM : Hid ((madeCells #[Value.int .u8 0] wd).toList = mixedP n wd 0) := by
    show _ = _
    rw [mixedP_zero]; exact toList_madeCells_one _ _
  rw [HM.out] at hown1
  clear HM
  go_wp2
  go_loopw [0, 17] (fun t i wr => ∃ k : Nat, k ≤ wd ∧ i = .int .i64 k ∧ t = .int .u64 ((n / 10 ^ k : Nat) : Int) ∧
      wr.ownsRow w.heap.size 5 1 (.slice (some ⟨w.heap.size, 0, none⟩) wd wd) wd (mixedP n wd k) ∧ Below w.heap.size w wr) (fun _ i _ => wd - (intOf i).toNat)
  case atStart => exact ⟨0, Nat.zero_le _, rfl, by simp, hown1, hbel1⟩
  case round =>
    obtain ⟨k, hk, rfl, rfl, hown, hbel⟩ := hrel
    have HDV := Lib.hid (div_step n k)
    have HDZ := Lib.hid (div_zero_iff n wd)
    have hle : n / 10 ^ k ≤ n := Nat.div_le_self _ _
    by_cases hlt : k < wd
    · obtain ⟨q, hq⟩ : ∃ q, n / 10 ^ k = q := ⟨_, rfl⟩
      rw [hq] at HDV hle ⊢
      have HQ := Lib.hid hq
      clear hq
      obtain ⟨j, hj⟩ : ∃ j, wd - 1 - k = j := ⟨_, rfl⟩
      have hj1 : (wd : Int) - 1 - k = j := by omega
      have hjl : j < wd := by omega
      have HJ := Lib.hid hj
      have hfr := hown.frozenAt j
      have hce : ∃ v, wr.cell? ⟨w.heap.size, j, none⟩ = some v := by
        rw [hown.cellAt j (by omega)]
        exact ⟨_, List.getElem?_eq_getElem (by rw [mixedP_len _ _ _ hk]; exact hjl)⟩
      obtain ⟨v0, hce⟩ := hce
      clear hj
      go_wp2_with fail
      have HV : Hid (Value.int .u8 (48 + (q : Int) % 10) = b8 (dg1 (n / 10 ^ k))) := by
        show Value.int .u8 (48 + (q : Int) % 10) = Value.int .u8 _
        rw [HQ.out, dg1_nat]
        exact congrArg (Value.int .u8) (by omega)
      have HSET : Hid ((mixedP n wd k).set j (.int .u8 (48 + (q : Int) % 10)) = mixedP n wd (k + 1)) := by
        show _ = _
        rw [← HJ.out]; exact mixedP_step n wd k hlt _ HV.out
      have hst := hown.stored j (.int .u8 (48 + (q : Int) % 10))
      rw [HSET.out] at hst
      have HDQ : Hid (Value.int .u64 ((q : Int) / 10) = .int .u64 ((n / 10 ^ (k + 1) : Nat) : Int)) := by
        show _ = _
        rw [← HDV.out]
        exact congrArg (Value.int .u64) (by omega)
      go_roundw
      case rel => exact ⟨k + 1, by omega, by go_num, HDQ.out, hst.1, hbel.setCell (Nat.le_refl _) _⟩
      case measure => simp [intOf]; omega
    · obtain rfl : k = wd := by omega
      rw [mixedP_all] at hown
      have HC : Hid ((convert 88 9 (.slice (some ⟨w.heap.size, 0, none⟩) k k)).run Tryd.prog wr = .ok (.string ⟨(putL n k).toArray⟩) wr) := by
        show _ = _
        have h := run_convert_bytes_back (P := Tryd.prog) wr 88 9 5 ⟨w.heap.size, 0, none⟩ k (putL n k) Tryd.underlying88 Tryd.underlying5 Tryd.underlying9 (fun j hj => by
          have hj' : j < k := by rw [putL_len] at hj; exact hj
          have hc := hown.cellAt j (by omega)
          rw [List.getElem?_map, List.getElem?_eq_getElem hj] at hc
          rw [Lib.add_plain]
          simpa using hc)
        rw [putL_len] at h
        exact h
      obtain ⟨q, hq⟩ : ∃ q, n / 10 ^ k = q := ⟨_, rfl⟩
      rw [hq] at HDZ hle ⊢
      clear hq HDV
      by_cases hf : n < 10 ^ k
      · have HV : Hid (putV n k = ⟨(putL n k).toArray⟩) := if_pos hf
        have HE : Hid (putE n k = 0) := if_pos hf
        have hq0 : ((q : Int) != 0) = false := by rw [HDZ.out.2 hf]; rfl
        have hcv := HC.out
        clear hf
        go_wp2_with fail
        go_ret2
        rw [HV.out, HE.out]
        exact ⟨rfl, hbel⟩
      · have HV : Hid (putV n k = ⟨#[]⟩) := if_neg hf
        have HE : Hid (putE n k = 2) := if_neg hf
        have hq0 : ((q : Int) != 0) = true := by
          have : q ≠ 0 := fun h => hf (HDZ.out.1 h)
          simpa using this
        clear hf
        go_wp2_with fail
        go_ret2
        rw [HV.out, HE.out]
        exact ⟨rfl, hbel⟩

/-! ### The document's -/
theorem cat_one (c : UInt8) (l : List UInt8) : (⟨[c].toArray⟩ : ByteArray) ++ (⟨l.toArray⟩ : ByteArray) = ⟨(c :: l).toArray⟩ := catEq [c] l
set_option maxHeartbeats 800000 in
theorem rput_any (n wd : Nat) (w : World) (hn : n < 18446744073709551616) (h1 : 1 ≤ wd) (h2 : wd ≤ 19) :
    Calls Tryd.prog 59 #[.int .u64 n, .int .i64 wd] w fun e w' => e = .returned (.tuple #[.string ⟨(putL n wd).toArray⟩, .bool (decide (n < 10 ^ wd))]) ∧ Below w.heap.size w w' := by
  go_enter Tryd.func59, Tryd.ntmps59
  go_wp2
  go_loopw [0, 6, 7] (fun t v i wr => ∃ k : Nat, k ≤ wd ∧ i = .int .i64 k ∧ t = .int .u64 ((n / 10 ^ k : Nat) : Int) ∧ v = .string ⟨(putL n k).toArray⟩ ∧ Below w.heap.size w wr) (fun _ _ i _ => wd - (intOf i).toNat)
  case atStart => exact ⟨0, Nat.zero_le _, rfl, by simp, rfl, Below.refl _ _⟩
  case round =>
    obtain ⟨k, hk, rfl, rfl, rfl, hbel⟩ := hrel
    have HDV := Lib.hid (div_step n k)
    have HDZ := Lib.hid (div_zero_iff n wd)
    have hle : n / 10 ^ k ≤ n := Nat.div_le_self _ _
    by_cases hlt : k < wd
    · have HF := Lib.hid (putL_front n k)
      have hlen : (⟨(putL n k).toArray⟩ : ByteArray).size = k := by
        show (putL n k).toArray.size = k
        simp [putL_len]
      obtain ⟨q, hq⟩ : ∃ q, n / 10 ^ k = q := ⟨_, rfl⟩
      rw [hq] at HDV HF hle ⊢
      clear hq
      have hcv := conv_one (dg1 q) wr 5
      have hcat := cat_one (dg1 q) (putL n k)
      have HDN : Hid ((48 + (q : Int) % 10) = ((dg1 q).toNat : Int)) := by
        show _ = _
        rw [dg1_nat]; omega
      rw [← HDN.out] at hcv
      have hlen1 : (⟨[dg1 q].toArray⟩ : ByteArray).size = 1 := rfl
      have HDQ : Hid (Value.int .u64 ((q : Int) / 10) = .int .u64 ((n / 10 ^ (k + 1) : Nat) : Int)) := by
        show _ = _
        rw [← HDV.out]
        exact congrArg (Value.int .u64) (by omega)
      have HLEN := Lib.hid hlen
      clear hlen
      have hlen' : (⟨(putL n k).toArray⟩ : ByteArray).size ≤ 19 := by rw [HLEN.out]; omega
      go_wp2_with fail
      go_roundw
      case rel => exact ⟨k + 1, by omega, by go_num, HDQ.out, by rw [HF.out], step hbel (below_new _ _)⟩
      case measure => simp [intOf]; omega
    · obtain rfl : k = wd := by omega
      obtain ⟨q, hq⟩ : ∃ q, n / 10 ^ k = q := ⟨_, rfl⟩
      rw [hq] at HDZ hle ⊢
      clear hq HDV
      have HB : Hid (((q : Int) == 0) = decide (n < 10 ^ k)) := by
        show _ = _
        rw [Bool.eq_iff_iff]
        simp only [beq_iff_eq, decide_eq_true_eq]
        rw [← HDZ.out]; omega
      go_wp2_with fail
      go_ret2
      refine ⟨retbs ?_, hbel⟩
      exact HB.out
end Go.Proofs.YtkhkncgndllkjaaDoor.Hol.Dg
