/- Contract: Parse. -/
import Derived.Test.YtkhkncgndllkjaaDoorMT3
import Derived.Lib.ParseIntBCases
import Derived.Lib.AtoiErrMem
namespace Go.Proofs.YtkhkncgndllkjaaDoor.Mny
open Go.RowKit Go.Sort Txt

theorem step {w w1 w2 : World} (h : Below w.heap.size w w1) (k : Below w1.heap.size w1 w2) : Below w.heap.size w w2 := h.trans (k.mono h.size)

/-- What Parse finds besides: a number; two errors. -/
structure EnvP (w : World) : Prop where
  t : Env w
  len : ∃ m, w.cell? ⟨1, 0, none⟩ = some (.int .i64 m)
  e2 : ∃ t p, w.cell? ⟨2, 0, none⟩ = some (.iface t p)
  e3 : ∃ t p, w.cell? ⟨3, 0, none⟩ = some (.iface t p)
  size : 6 ≤ w.heap.size
theorem EnvP.below {w w' : World} (h : EnvP w) (hb : Below w.heap.size w w') : EnvP w' := by
  have hs := h.size
  refine ⟨h.t.below hb, ?_, ?_, ?_, Nat.le_trans h.size hb.size⟩
  · obtain ⟨m, c⟩ := h.len; exact ⟨m, (hb.cell (show (1 : Nat) < _ by omega)).trans c⟩
  · obtain ⟨t, p, c⟩ := h.e2; exact ⟨t, p, (hb.cell (show (2 : Nat) < _ by omega)).trans c⟩
  · obtain ⟨t, p, c⟩ := h.e3; exact ⟨t, p, (hb.cell (show (3 : Nat) < _ by omega)).trans c⟩
theorem cutp_any (s : ByteArray) (l : List UInt8) (w : World) (hs : s.data.toList = l) :
    Calls Tryd.prog 51 #[.string s, .string ⟨#[45]⟩] w fun e w' => e = .returned (.tuple #[.string ⟨(Lib.trimPrefix l [45]).toArray⟩, .bool (Lib.hasPrefix l [45])]) ∧ w = w' := by
  subst hs
  exact (Tryd.strings_CutPrefix s ⟨#[45]⟩ w).mono fun e w' ⟨he, hw⟩ => ⟨he, hw.symm⟩
theorem cutd_any (B : List UInt8) (w : World) (hE : EnvP w) (hB : B.length ≤ 1000) :
    Calls Tryd.prog 27 #[.string ⟨B.toArray⟩, .string ⟨#[46]⟩] w fun e w' => e = .returned (.tuple #[.string ⟨(Lib.cut B [46]).1.toArray⟩, .string ⟨(Lib.cut B [46]).2.1.toArray⟩, .bool (Lib.cut B [46]).2.2]) ∧ Below w.heap.size w w' := by
  obtain ⟨m, hm⟩ := hE.len
  exact (Tryd.strings_Cut ⟨B.toArray⟩ ⟨#[46]⟩ m w (by show B.toArray.size < _; simp; omega) hm).mono fun e w' ⟨he, n, hw⟩ => ⟨he, by rw [hw]; exact ⟨rfl, rfl, rfl, Nat.le_refl _, fun _ _ => rfl⟩⟩
theorem cut_len (B : List UInt8) : (Lib.cut B [46]).1.length ≤ B.length ∧ (Lib.cut B [46]).2.1.length ≤ B.length := by
  unfold Lib.cut; split <;> simp <;> omega
theorem pu_ok (S : ByteArray) (l : List UInt8) (n : Nat) (w : World) (hS : S.data.toList = l) (hl : l.length ≤ 2000) (h : Lib.parseUintB 64 l = .ok n) :
    Calls Tryd.prog 52 #[.string S, .int .i64 10, .int .i64 64] w fun e w' => e = .returned (.tuple #[.int .u64 n, .nilIface]) ∧ Below w.heap.size w w' := by
  subst hS
  have hsz : S.size ≤ 2000 := by
    have : S.data.toList.length = S.size := Array.length_toList
    omega
  refine (Tryd.strconv_ParseUint_10_at64_ok S (by omega) n h w).mono fun e w' ⟨he, hw⟩ => ⟨he, ?_⟩
  rcases hw with rfl | rfl
  · exact Below.refl _ _
  · exact Lib.bytesWorld_below _ _ _
/-- An error comes back, and nothing that was there has changed. -/
def Failed (w : World) (e : Ending) (w' : World) : Prop := ∃ (n : Int) (N : Nat), e = .returned (.tuple #[.int .u64 n, .iface 102 (.pointer (some ⟨N, 0, none⟩))]) ∧ Below w.heap.size w w'
theorem pu_bad (S : ByteArray) (l : List UInt8) (w : World) (hE : EnvP w) (hS : S.data.toList = l) (hl : l.length ≤ 2000) (h : ∀ n, Lib.parseUintB 64 l ≠ .ok n) :
    Calls Tryd.prog 52 #[.string S, .int .i64 10, .int .i64 64] w (Failed w) := by
  subst hS
  have hsz : S.size ≤ 2000 := by
    have : S.data.toList.length = S.size := Array.length_toList
    omega
  obtain ⟨t2, p2, c2⟩ := hE.e2
  obtain ⟨t3, p3, c3⟩ := hE.e3
  rcases hx : Lib.parseUintB 64 S.data.toList with n | _ | _
  · exact absurd hx (h n)
  · exact (Any.strconv_ParseUint_10_at64_syntax Tryd.laysPu14 S (by omega) hx _ w c2 (.inr ⟨_, _, rfl⟩)).mono fun e w' ⟨N, he, _, _, hb⟩ => ⟨_, N, he, hb⟩
  · exact (Tryd.strconv_ParseUint_10_at64_range S (by omega) hx _ w c3 (.inr ⟨_, _, rfl⟩)).mono fun e w' ⟨N, he, _, _, hb⟩ => ⟨_, N, he, hb⟩
theorem pu_lt {l : List UInt8} {n : Nat} (h : Lib.parseUintB 64 l = .ok n) : n < 18446744073709551616 := by
  unfold Lib.parseUintB at h
  split at h
  · cases h
  · have := Lib.parseUintM_le _ l 0 n (Nat.zero_le _) h
    omega
theorem trim_len (l : List UInt8) : (Lib.trimPrefix l [45]).length ≤ l.length := by
  unfold Lib.trimPrefix; split <;> simp

set_option maxHeartbeats 800000 in
theorem parse_bad (s : ByteArray) (l : List UInt8) (w : World) (hE : EnvP w) (hs : s.data.toList = l) (hl : l.length ≤ 1000) (h : ∀ n, Lib.parseUintB 64 (half l) ≠ .ok n) :
    Calls Tryd.prog 28 #[.string s] w fun e w' => e = .returned (.tuple #[.int .i64 0, .int .i64 4]) ∧ Below w.heap.size w w' := by
  have hB := trim_len l
  have HC := Lib.hid (cutp_any s l w hs)
  have hcl := cut_len (Lib.trimPrefix l [45])
  have HB := Lib.hid (cutd_any (Lib.trimPrefix l [45]) w hE (by omega))
  unfold half at h
  generalize Lib.trimPrefix l [45] = B at *
  generalize Lib.hasPrefix l [45] = b at *
  generalize Lib.cut B [46] = c at *
  obtain ⟨x, y, z⟩ := c
  simp only at hcl HB h
  have HH := Lib.hid h
  have HS := Lib.hid hs
  clear h hs
  go_enter Tryd.func28, Tryd.ntmps28
  go_wp2_with fail
  refine HC.out.mono ?_
  rintro e w' ⟨rfl, rfl⟩
  go_wp2_with fail
  refine HB.out.mono ?_
  rintro e w1 ⟨rfl, hb1⟩
  go_wp2_with fail
  refine (pu_bad _ (x ++ y) _ (hE.below hb1) (by rw [catEq]) (by rw [List.length_append]; omega) HH.out).mono ?_
  rintro e w2 ⟨n, N, rfl, hb2⟩
  go_wp2_with fail
  go_ret2
  exact ⟨rfl, step hb1 hb2⟩

set_option maxHeartbeats 800000 in
theorem parse_over (s : ByteArray) (l : List UInt8) (n : Nat) (a : Int) (w : World) (hE : EnvP w) (hs : s.data.toList = l) (hl : l.length ≤ 1000) (h : Lib.parseUintB 64 (half l) = .ok n) (hx : sg (Lib.hasPrefix l [45]) n = a) (f : ¬ Fits a) :
    Calls Tryd.prog 28 #[.string s] w fun e w' => e = .returned (.tuple #[.int .i64 0, .int .i64 4]) ∧ Below w.heap.size w w' := by
  have hn := pu_lt h
  have hB := trim_len l
  have HC := Lib.hid (cutp_any s l w hs)
  have hcl := cut_len (Lib.trimPrefix l [45])
  have HB := Lib.hid (cutd_any (Lib.trimPrefix l [45]) w hE (by omega))
  unfold half at h
  generalize Lib.trimPrefix l [45] = B at *
  generalize Lib.hasPrefix l [45] = b at *
  generalize Lib.cut B [46] = c at *
  obtain ⟨x, y, z⟩ := c
  simp only at hcl HB h
  have HH := Lib.hid h
  have HS := Lib.hid hs
  have HX := Lib.hid hx
  clear h hs hx
  go_enter Tryd.func28, Tryd.ntmps28
  go_wp2_with fail
  refine HC.out.mono ?_
  rintro e w' ⟨rfl, rfl⟩
  go_wp2_with fail
  refine HB.out.mono ?_
  rintro e w1 ⟨rfl, hb1⟩
  go_wp2_with fail
  refine (pu_ok _ (x ++ y) n _ (by rw [catEq]) (by rw [List.length_append]; omega) HH.out).mono ?_
  rintro e w2 ⟨rfl, hb2⟩
  go_wp2_with fail
  refine (signed_any _ _ _ hn).mono ?_
  rintro e w' ⟨rfl, rfl⟩
  rw [HX.out]
  rw [vOf_f f, eOf_f f]
  go_wp2_with fail
  go_ret2
  exact ⟨rfl, step hb1 hb2⟩

set_option maxHeartbeats 800000 in
theorem parse_is (s : ByteArray) (l : List UInt8) (n : Nat) (a : Int) (w : World) (hE : EnvP w) (hs : s.data.toList = l) (hl : l.length ≤ 1000) (h : Lib.parseUintB 64 (half l) = .ok n) (hx : sg (Lib.hasPrefix l [45]) n = a) (f : Fits a)
    (ht : (txt a == s.toList) = true) :
    Calls Tryd.prog 28 #[.string s] w fun e w' => e = .returned (.tuple #[.int .i64 a, .int .i64 0]) ∧ Below w.heap.size w w' := by
  have hn := pu_lt h
  have hB := trim_len l
  have HC := Lib.hid (cutp_any s l w hs)
  have hcl := cut_len (Lib.trimPrefix l [45])
  have HB := Lib.hid (cutd_any (Lib.trimPrefix l [45]) w hE (by omega))
  unfold half at h
  generalize Lib.trimPrefix l [45] = B at *
  generalize Lib.hasPrefix l [45] = b at *
  generalize Lib.cut B [46] = c at *
  obtain ⟨x, y, z⟩ := c
  simp only at hcl HB h
  have HH := Lib.hid h
  have HS := Lib.hid hs
  have HX := Lib.hid hx
  clear h hs hx
  go_enter Tryd.func28, Tryd.ntmps28
  go_wp2_with fail
  refine HC.out.mono ?_
  rintro e w' ⟨rfl, rfl⟩
  go_wp2_with fail
  refine HB.out.mono ?_
  rintro e w1 ⟨rfl, hb1⟩
  go_wp2_with fail
  refine (pu_ok _ (x ++ y) n _ (by rw [catEq]) (by rw [List.length_append]; omega) HH.out).mono ?_
  rintro e w2 ⟨rfl, hb2⟩
  go_wp2_with fail
  refine (signed_any _ _ _ hn).mono ?_
  rintro e w' ⟨rfl, rfl⟩
  rw [HX.out]
  rw [vOf_t f, eOf_t f]
  go_wp2_with fail
  refine (text_any _ _ ((hE.below hb1).below hb2).t f).mono ?_
  rintro e w3 ⟨rfl, hb3⟩
  go_wp2_with fail
  go_ret2
  exact ⟨rfl, step (step hb1 hb2) hb3⟩

set_option maxHeartbeats 800000 in
theorem parse_else (s : ByteArray) (l : List UInt8) (n : Nat) (a : Int) (w : World) (hE : EnvP w) (hs : s.data.toList = l) (hl : l.length ≤ 1000) (h : Lib.parseUintB 64 (half l) = .ok n) (hx : sg (Lib.hasPrefix l [45]) n = a) (f : Fits a)
    (ht : (txt a == s.toList) = false) :
    Calls Tryd.prog 28 #[.string s] w fun e w' => e = .returned (.tuple #[.int .i64 0, .int .i64 4]) ∧ Below w.heap.size w w' := by
  have hn := pu_lt h
  have hB := trim_len l
  have HC := Lib.hid (cutp_any s l w hs)
  have hcl := cut_len (Lib.trimPrefix l [45])
  have HB := Lib.hid (cutd_any (Lib.trimPrefix l [45]) w hE (by omega))
  unfold half at h
  generalize Lib.trimPrefix l [45] = B at *
  generalize Lib.hasPrefix l [45] = b at *
  generalize Lib.cut B [46] = c at *
  obtain ⟨x, y, z⟩ := c
  simp only at hcl HB h
  have HH := Lib.hid h
  have HS := Lib.hid hs
  have HX := Lib.hid hx
  clear h hs hx
  go_enter Tryd.func28, Tryd.ntmps28
  go_wp2_with fail
  refine HC.out.mono ?_
  rintro e w' ⟨rfl, rfl⟩
  go_wp2_with fail
  refine HB.out.mono ?_
  rintro e w1 ⟨rfl, hb1⟩
  go_wp2_with fail
  refine (pu_ok _ (x ++ y) n _ (by rw [catEq]) (by rw [List.length_append]; omega) HH.out).mono ?_
  rintro e w2 ⟨rfl, hb2⟩
  go_wp2_with fail
  refine (signed_any _ _ _ hn).mono ?_
  rintro e w' ⟨rfl, rfl⟩
  rw [HX.out]
  rw [vOf_t f, eOf_t f]
  go_wp2_with fail
  refine (text_any _ _ ((hE.below hb1).below hb2).t f).mono ?_
  rintro e w3 ⟨rfl, hb3⟩
  go_wp2_with fail
  go_ret2
  exact ⟨rfl, step (step hb1 hb2) hb3⟩

theorem parse_yes (s : ByteArray) (a : Int) (w : World) (hE : EnvP w) (hl : s.data.toList.length ≤ 1000) (h : rd s.data.toList = some a) :
    Calls Tryd.prog 28 #[.string s] w fun e w' => e = .returned (.tuple #[.int .i64 a, .int .i64 0]) ∧ Below w.heap.size w w' := by
  have hk := rd_some h
  rcases hp : Lib.parseUintB 64 (half s.data.toList) with n | _ | _
  · have e := rd_ok hp
    rw [h] at e
    by_cases c : Fits (sg (Lib.hasPrefix s.data.toList [45]) n) ∧ txt (sg (Lib.hasPrefix s.data.toList [45]) n) = s.data.toList
    · rw [if_pos c] at e
      injection e with e
      exact parse_is s _ n a w hE rfl hl hp e.symm hk.1 (by rw [beq_iff_eq, Lib.toList_data]; exact hk.2)
    · rw [if_neg c] at e; cases e
  · unfold rd at h; rw [hp] at h; cases h
  · unfold rd at h; rw [hp] at h; cases h
theorem parse_no (s : ByteArray) (w : World) (hE : EnvP w) (hl : s.data.toList.length ≤ 1000) (h : rd s.data.toList = none) :
    Calls Tryd.prog 28 #[.string s] w fun e w' => e = .returned (.tuple #[.int .i64 0, .int .i64 4]) ∧ Below w.heap.size w w' := by
  rcases hp : Lib.parseUintB 64 (half s.data.toList) with n | _ | _
  · have e := rd_ok hp
    rw [h] at e
    by_cases f : Fits (sg (Lib.hasPrefix s.data.toList [45]) n)
    · by_cases c : txt (sg (Lib.hasPrefix s.data.toList [45]) n) = s.data.toList
      · rw [if_pos ⟨f, c⟩] at e; cases e
      · exact parse_else s _ n _ w hE rfl hl hp rfl f (by rw [beq_eq_false_iff_ne, Lib.toList_data]; exact c)
    · exact parse_over s _ n _ w hE rfl hl hp rfl f
  · exact parse_bad s _ w hE rfl hl (fun n hn => by rw [hp] at hn; cases hn)
  · exact parse_bad s _ w hE rfl hl (fun n hn => by rw [hp] at hn; cases hn)
end Go.Proofs.YtkhkncgndllkjaaDoor.Mny
