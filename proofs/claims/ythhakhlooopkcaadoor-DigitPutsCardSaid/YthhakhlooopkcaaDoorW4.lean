/- Contracts: one digit's text; digits with one that makes them sound. -/
import Derived.Test.YthhakhlooopkcaaDoorW3
import Derived.Shelf.Strconv.Itoa1
import Derived.BigQuiet
import Derived.Deep.QuietTactic
import Derived.Lib.ItoaNum
namespace Go.Proofs
open Go.Shelf
def Tryd.lays283_ren : Go.Shelf.Ren := ⟨fun | 283 => 27 | n => n, fun | 3 => 3 | 9 => 9 | 4 => 4 | n => n, fun | n => n⟩
theorem Tryd.lays283 : Go.Proofs.Lays.n283 Tryd.prog Tryd.lays283_ren := {
  mixed := by kernel_rfl
  f283 := Tryd.func27.trans (congrArg some (by kernel_rfl))
  t3 := Tryd.underlying3
  a3 := Tryd.isAgg3
  z3 := Tryd.sizeOf3
  v3 := Tryd.zeroValue3
  t4 := Tryd.underlying4
  a4 := Tryd.isAgg4
  z4 := Tryd.sizeOf4
  v4 := Tryd.zeroValue4
  t9 := Tryd.underlying9
  a9 := Tryd.isAgg9
  z9 := Tryd.sizeOf9
  v9 := Tryd.zeroValue9 }
open Go.Lib in
theorem Tryd.internal_strconv_small (i : Nat) (h : i < 100) (w : World) :
    Calls Tryd.prog 27 #[.int .i64 i] w fun e w' => e = .returned (.string ⟨(Lib.decDigits i).toArray⟩) ∧ w' = w := Any.internal_strconv_small Tryd.lays283 i h w
end Go.Proofs
namespace Go.Proofs.YthhakhlooopkcaaDoor
open Go.RowKit

theorem dec_one {d : Nat} (h : d < 10) : Lib.decDigits d = [dg1 d] := by rw [Lib.decDigits_one h]; unfold dg1; rw [Nat.mod_eq_of_lt h]
theorem itoa_any (d : Nat) (w : World) (h : d < 10) :
    Calls Tryd.prog 22 #[.int .i64 d] w fun e w' => e = .returned (.string ⟨[dg1 d].toArray⟩) ∧ w = w' := by
  have HD := Lib.hid (dec_one h)
  have h100 : (d : Int) < 100 := by omega
  have h0 : (0 : Int) ≤ d := by omega
  go_enter Tryd.func22, Tryd.ntmps22
  go_wp2_with (first | (go_at_call 27; refine (Tryd.internal_strconv_small d (by omega) _).mono ?_; rintro e w' ⟨rfl, rfl⟩) | go_in)
  all_goals
    go_ret
    exact ⟨congrArg (fun l : List UInt8 => Ending.returned (.string ⟨l.toArray⟩)) HD.out, rfl⟩
theorem itoa_at (c : Int) (d : Nat) (w : World) (h : d < 10) (hc : c = d) :
    Calls Tryd.prog 22 #[.int .i64 c] w fun e w' => e = .returned (.string ⟨[dg1 d].toArray⟩) ∧ w' = w := by
  subst hc; exact (itoa_any d w h).mono fun _ _ ⟨a, b⟩ => ⟨a, b.symm⟩
theorem catEq (l m : List UInt8) : (⟨l.toArray⟩ : ByteArray) ++ (⟨m.toArray⟩ : ByteArray) = ⟨(l ++ m).toArray⟩ := by
  apply ByteArray.ext
  simp [ByteArray.data_append]
theorem ba_eta (s : ByteArray) : s = ⟨s.data.toList.toArray⟩ := by simp
theorem cat_str (s : ByteArray) (c : UInt8) : s ++ (⟨[c].toArray⟩ : ByteArray) = ⟨(s.data.toList ++ [c]).toArray⟩ := by
  conv => lhs; rw [ba_eta s]
  rw [catEq]
theorem rets {a b : ByteArray} {i : Int} (h : a = b) : Ending.returned (.tuple #[.string a, .int .i64 i]) = .returned (.tuple #[.string b, .int .i64 i]) := by rw [h]
theorem retsb {a b : ByteArray} {i : Bool} (h : a = b) : Ending.returned (.tuple #[.string a, .bool i]) = .returned (.tuple #[.string b, .bool i]) := by rw [h]
theorem dg1_mod (x : Nat) : dg1 ((10 - x) % 10) = dg1 (10 - x) := by unfold dg1; rw [Nat.mod_mod]

theorem below_drewN {B : Nat} {a w : World} (h : Below B a w) (n : Nat) : Below B a (w.drewN n) := ⟨h.os, h.tape, h.output, h.size, h.block⟩

theorem sign_no (s : ByteArray) (w : World) (hs : s.size ≤ 200) (h : okL s.data.toList = false) :
    Calls Tryd.prog 16 #[.string s] w fun e w' => e = .returned (.tuple #[.string ⟨#[]⟩, .int .i64 4]) ∧ Below w.heap.size w w' := by
  have hl := lsz s
  by_cases h0 : s.size = 0
  · have h00 : ((s.size : Int) == 0) = true := by rw [h0]; rfl
    clear hl h h0
    go_enter Tryd.func16, Tryd.ntmps16
    go_wp2
    go_ret2
    exact ⟨rfl, (Below.refl _ _).alloc (Nat.le_refl _) _⟩
  · have h00 : ((s.size : Int) == 0) = false := sz0 (by omega)
    have ha : allD s.data.toList = false := by
      unfold okL at h
      cases he : s.data.toList with
      | nil => rw [he] at hl; simp at hl; omega
      | cons c r => rw [he] at h; simpa using h
    have HA := Lib.hid ha
    clear hl h h0 ha
    go_enter Tryd.func16, Tryd.ntmps16
    go_wp2_with fail
    refine (all_any s _ (by omega)).mono ?_
    rintro e w' ⟨rfl, rfl⟩
    rw [HA.out]
    go_wp2_with fail
    go_ret2
    exact ⟨rfl, (Below.refl _ _).alloc (Nat.le_refl _) _⟩
theorem ok_parts {s : ByteArray} (h : okL s.data.toList = true) : 1 ≤ s.size ∧ allD s.data.toList = true := by
  unfold okL at h
  rw [Bool.and_eq_true] at h
  refine ⟨?_, h.2⟩
  rw [← lsz]
  cases he : s.data.toList with
  | nil => rw [he] at h; simp at h
  | cons c r => simp
set_option maxHeartbeats 800000 in
theorem sign_yes (s : ByteArray) (w : World) (hs : s.size ≤ 200) (h : okL s.data.toList = true) :
    Calls Tryd.prog 16 #[.string s] w fun e w' => e = .returned (.tuple #[.string ⟨(signL s.data.toList).toArray⟩, .int .i64 0]) ∧ Below w.heap.size w w' := by
  obtain ⟨h1, ha⟩ := ok_parts h
  have h00 : ((s.size : Int) == 0) = false := sz0 (by omega)
  have HA := Lib.hid ha
  have hmf := mk_func
  clear h ha
  have HX : Hid (s ++ (⟨[dg1 ((10 - ls 1 s.data.toList % 10) % 10)].toArray⟩ : ByteArray) = ⟨(signL s.data.toList).toArray⟩) := by
    show _ = _
    rw [cat_str, dg1_mod]; rfl
  have hlast : ls 1 s.data.toList % 10 < 10 := Nat.mod_lt _ (by decide)
  go_enter Tryd.func16, Tryd.ntmps16
  go_wp2_with fail
  refine (all_any s _ (by omega)).mono ?_
  rintro e w' ⟨rfl, rfl⟩
  rw [HA.out]
  go_wp2_with fail
  refine (last21 s ⟨w.heap.size, 0, none⟩ _ (by simp) (by omega) HA.out).mono ?_
  rintro e w' ⟨rfl, rfl⟩
  generalize ls 1 s.data.toList % 10 = x at *
  go_wp2_with fail
  go_quiet ((go_at_call 22; exact Calls.quiet_of_same (itoa_at _ ((10 - x) % 10) _ (by omega) (by omega))))
  go_wp2_with fail
  go_ret2
  exact ⟨rets HX.out, below_drewN ((Below.refl _ _).alloc (Nat.le_refl _) _) _⟩

/-! ### The document's -/
theorem conv_one (c : UInt8) (w : World) (T : TypeId) : (convert 38 9 (.slice (some ⟨w.heap.size, 0, none⟩) 1 1)).run Tryd.prog (w.alloc (.cells #[.int .u8 (c.toNat : Int)] T)) =
    .ok (.string ⟨[c].toArray⟩) (w.alloc (.cells #[.int .u8 (c.toNat : Int)] T)) :=
  run_convert_bytes_back (P := Tryd.prog) (w.alloc (.cells #[.int .u8 (c.toNat : Int)] T)) 38 9 5 ⟨w.heap.size, 0, none⟩ 1 [c] Tryd.underlying38 Tryd.underlying5 Tryd.underlying9 (fun j hj => by
    simp at hj; subst hj; simp [Addr.add])
theorem not_empty {s : ByteArray} (h : 1 ≤ s.size) : s.toList.isEmpty = false := by
  rw [ByteArray.toList_eq]
  cases he : s.data.toList with
  | nil => have := lsz s; rw [he] at this; simp at this; omega
  | cons c r => rfl
theorem no_parts {s : ByteArray} (h : okL s.data.toList = false) (h0 : ¬ s.size = 0) : allD s.data.toList = false := by
  have hl := lsz s
  unfold okL at h
  cases he : s.data.toList with
  | nil => rw [he] at hl; simp at hl; omega
  | cons c r => rw [he] at h; simpa using h
theorem rsign_no (s : ByteArray) (w : World) (hs : s.size ≤ 200) (h : okL s.data.toList = false) :
    Calls Tryd.prog 17 #[.string s] w fun e w' => e = .returned (.tuple #[.string ⟨#[]⟩, .bool false]) ∧ Below w.heap.size w w' := by
  by_cases h0 : s.size = 0
  · have he : s = ⟨#[]⟩ := by
      rw [ba_eta s, List.length_eq_zero_iff.1 ((lsz s).trans h0)]
    subst he
    clear h h0
    go_enter Tryd.func17, Tryd.ntmps17
    go_wp2
    go_ret2
    exact ⟨rfl, Below.refl _ _⟩
  · have HA := Lib.hid (no_parts h h0)
    have h1 : s.toList.isEmpty = false := not_empty (by omega)
    clear h
    go_enter Tryd.func17, Tryd.ntmps17
    go_wp2_with fail
    refine (rall_any s _ (by omega)).mono ?_
    rintro e w' ⟨rfl, rfl⟩
    rw [HA.out]
    go_wp2_with fail
    go_ret2
    exact ⟨rfl, Below.refl _ _⟩
theorem rsound_snoc (s : ByteArray) (c : UInt8) (w : World) (hs : s.size ≤ 200) :
    Calls Tryd.prog 19 #[.string ⟨(s.data.toList ++ [c]).toArray⟩] w fun e w' => e = .returned (.bool (soundL (s.data.toList ++ [c]))) ∧ w = w' :=
  rsound_any ⟨(s.data.toList ++ [c]).toArray⟩ w (by
    have := lsz s
    show (s.data.toList ++ [c]).toArray.size ≤ 1000
    simp; omega)
theorem step {w w1 w2 : World} (h1 : Below w.heap.size w w1) (h2 : Below w1.heap.size w1 w2) : Below w.heap.size w w2 := h1.trans (h2.mono h1.size)
theorem below_new (w : World) (o : Obj) : Below w.heap.size w (w.alloc o) := (Below.refl _ _).alloc (Nat.le_refl _) _
set_option maxHeartbeats 800000 in
theorem rsign_yes (s : ByteArray) (w : World) (hs : s.size ≤ 200) (h : okL s.data.toList = true) :
    Calls Tryd.prog 17 #[.string s] w fun e w' => e = .returned (.tuple #[.string ⟨(signL s.data.toList).toArray⟩, .bool true]) ∧ Below w.heap.size w w' := by
  obtain ⟨h1, ha⟩ := ok_parts h
  have he : s.toList.isEmpty = false := not_empty h1
  have HK := Lib.hid h
  have HA := Lib.hid ha
  have hL := isD_t.1 (lastL_D s.data.toList)
  clear h ha
  go_enter Tryd.func17, Tryd.ntmps17
  go_wp2_with fail
  refine (rall_any s _ (by omega)).mono ?_
  rintro e w' ⟨rfl, rfl⟩
  rw [HA.out]
  go_wp2_with fail
  go_loopw [4] (fun i wr => ∃ k : Nat, 48 ≤ k ∧ k ≤ (lastL s.data.toList).toNat ∧ i = .int .u8 k ∧ Below w.heap.size w wr) (fun i _ => 58 - (intOf i).toNat)
  case atStart => exact ⟨48, Nat.le_refl _, hL.1, rfl, Below.refl _ _⟩
  case round =>
    obtain ⟨k, hk1, hk2, rfl, hbel⟩ := hrel
    obtain ⟨c, hc⟩ : ∃ c : UInt8, c.toNat = k := ⟨UInt8.ofNat k, by rw [UInt8.toNat_ofNat']; omega⟩
    subst hc
    have hcv := conv_one c wr 5
    have hcat := cat_str s c
    have hlen : (⟨[c].toArray⟩ : ByteArray).size = 1 := rfl
    have HS := Lib.hid (sound_snoc HK.out (isD_t.2 ⟨hk1, by omega⟩))
    have h58 : (c.toNat : Int) < 58 := by omega
    go_wp2_with fail
    refine (rsound_snoc s c _ hs).mono ?_
    rintro e w' ⟨rfl, rfl⟩
    rw [HS.out]
    by_cases hcl : c = lastL s.data.toList
    · have hb : (c == lastL s.data.toList) = true := by simpa using hcl
      rw [hb]
      have HX : Hid ((⟨(s.data.toList ++ [c]).toArray⟩ : ByteArray) = ⟨(signL s.data.toList).toArray⟩) := by
        show _ = _
        rw [hcl]; rfl
      clear hb hcl
      go_wp2_with fail
      go_ret2
      exact ⟨retsb HX.out, step hbel (below_new _ _)⟩
    · have hb : (c == lastL s.data.toList) = false := by simpa using hcl
      rw [hb]
      have hlt : c.toNat < (lastL s.data.toList).toNat := by
        rcases Nat.lt_or_ge c.toNat (lastL s.data.toList).toNat with h | h
        · exact h
        · exact absurd (u8_ext (by omega)) hcl
      clear hb hcl
      go_wp2_with fail
      go_roundw
      case rel => exact ⟨c.toNat + 1, by omega, by omega, by go_num, step hbel (below_new _ _)⟩
      case measure => simp [intOf]; omega
end Go.Proofs.YthhakhlooopkcaaDoor
