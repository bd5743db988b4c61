/- Contract: the document's Text. -/
import Derived.Test.YtkhkncgndllkjaaDoorMT2
namespace Go.Proofs.YtkhkncgndllkjaaDoor.Mny
open Go.RowKit Go.Sort Txt

/-- The digits of a number, none of 0. -/
def pre (m : Nat) : List UInt8 := if m = 0 then [] else Lib.decDigits m
theorem dec_pre (m : Nat) : Lib.decDigits m = pre (m / 10) ++ [dg1 m] := by
  unfold pre
  by_cases h : m < 10
  · rw [dec_small h, if_pos (by omega)]; rfl
  · rw [dec_big h, if_neg (by omega)]
/-- What has been told behind i rounds, m being left. -/
def Told (n i m : Nat) (l : List UInt8) : Prop :=
  (i = 0 ∧ m = n ∧ l = []) ∨ (i = 1 ∧ m = n / 10 ∧ l = [dg1 n]) ∨ (i = 2 ∧ m = n / 100 ∧ l = two n) ∨ (3 ≤ i ∧ pre m ++ l = body n)
theorem told_next {n i m : Nat} {l : List UInt8} (h : Told n i m l) (h2 : (i == 2) = false) (hg : i < 3 ∨ 0 < m) : Told n (i + 1) (m / 10) (dg1 m :: l) := by
  rcases h with ⟨rfl, rfl, rfl⟩ | ⟨rfl, rfl, rfl⟩ | ⟨rfl, rfl, rfl⟩ | ⟨h3, h⟩
  · exact .inr (.inl ⟨rfl, rfl, rfl⟩)
  · exact .inr (.inr (.inl ⟨rfl, by omega, rfl⟩))
  · cases h2
  · refine .inr (.inr (.inr ⟨by omega, ?_⟩))
    rw [← h]
    have e : pre m = Lib.decDigits m := if_neg (by omega)
    rw [e, dec_pre m]; simp
theorem told_dot {n i m : Nat} {l : List UInt8} (h : Told n i m l) (h2 : (i == 2) = true) : Told n (i + 1) (m / 10) (dg1 m :: 46 :: l) := by
  have hi : i = 2 := by simpa using h2
  subst hi
  rcases h with ⟨h, _⟩ | ⟨h, _⟩ | ⟨_, rfl, rfl⟩ | ⟨h3, _⟩
  · cases h
  · cases h
  · refine .inr (.inr (.inr ⟨by decide, ?_⟩))
    unfold body; rw [dec_pre (n / 100)]; simp
  · omega
theorem told_end {n i : Nat} {l : List UInt8} (h : Told n i 0 l) (hi : 3 ≤ i) : l = body n := by
  rcases h with ⟨rfl, _⟩ | ⟨rfl, _⟩ | ⟨rfl, _⟩ | ⟨_, h⟩
  · omega
  · omega
  · omega
  · rw [← h]; rfl

theorem pre_len {m : Nat} (h : 0 < m) : (pre (m / 10)).length + 1 = (pre m).length := by
  have e : pre m = Lib.decDigits m := if_neg (by omega)
  rw [e, dec_pre m]; simp
theorem pre_le {n : Nat} (h : n < 18446744073709551616) : (pre n).length ≤ 20 := by
  unfold pre; split
  · simp
  · exact dec_len h

theorem conv_one (m : Nat) (w : World) : (convert 88 9 (.slice (some ⟨w.heap.size, 0, none⟩) 1 1)).run Tryd.prog (w.alloc (.cells #[.int .u8 (48 + (m : Int) % 10)] 5)) =
    .ok (.string ⟨#[dg1 m]⟩) (w.alloc (.cells #[.int .u8 (48 + (m : Int) % 10)] 5)) := by
  have e : (48 + (m : Int) % 10) = (((dg1 m).toNat : Nat) : Int) := by rw [dg1_nat]; omega
  rw [e]
  exact run_convert_bytes_back (P := Tryd.prog) (w.alloc (.cells #[.int .u8 (((dg1 m).toNat : Nat) : Int)] 5)) 88 9 5 ⟨w.heap.size, 0, none⟩ 1 [dg1 m] Tryd.underlying88 Tryd.underlying5 Tryd.underlying9 (fun j hj => by
    simp at hj; subst hj; simp [Addr.add])
theorem str_one (m : Nat) (l : List UInt8) : Value.string ((⟨#[dg1 m]⟩ : ByteArray) ++ ⟨l.toArray⟩) = .string ⟨(dg1 m :: l).toArray⟩ := congrArg Value.string (catEq [dg1 m] l)
theorem str_dot (m : Nat) (l : List UInt8) : Value.string ((⟨#[dg1 m]⟩ : ByteArray) ++ ((⟨#[46]⟩ : ByteArray) ++ ⟨l.toArray⟩)) = .string ⟨(dg1 m :: 46 :: l).toArray⟩ := by
  have e : (⟨#[46]⟩ : ByteArray) ++ ⟨l.toArray⟩ = ⟨(46 :: l).toArray⟩ := catEq [46] l
  rw [e]; exact str_one m (46 :: l)

set_option maxHeartbeats 800000 in
set_option maxRecDepth 100000 in
theorem rtext_any (a : Int) (w : World) (ha : Fits a) :
    Calls Tryd.prog 36 #[.int .i64 a] w fun e w' => e = .returned (.string ⟨(txt a).toArray⟩) ∧ Below w.heap.size w w' := by
  have hn := natAbs_le ha
  obtain ⟨n, hna⟩ : ∃ n : Nat, a.natAbs = n := ⟨_, rfl⟩
  have ha' : -9223372036854775808 ≤ a ∧ a ≤ 9223372036854775807 := ha
  have HX : Hid (txt a = if a < 0 then 45 :: body n else body n) := by rw [← hna]; rfl
  rw [hna] at hn
  have hp := pre_le (n := n) (by omega)
  by_cases h0 : 0 ≤ a
  case' pos =>
    have e : -a = -(n : Int) := by omega
    have HE := Lib.hid e
    have HT : Hid (txt a = [] ++ body n) := by
      show _ = _
      rw [HX.out, if_neg (by omega)]; rfl
    clear e hna HX
  case' neg =>
    have e : a = -(n : Int) := by omega
    subst e
    have HT : Hid (txt (-(n : Int)) = [45] ++ body n) := by
      show _ = _
      rw [HX.out, if_pos (by omega)]; rfl
    clear hna HX
  all_goals
    go_enter Tryd.func36, Tryd.ntmps36
    go_wp2_with fail
    go_loopw [0, 4, 5] (fun x s i wr => ∃ (k m : Nat) (l : List UInt8), k + (pre m).length ≤ 23 ∧ m ≤ 9223372036854775808 ∧ l.length ≤ 2 * k ∧ Told n k m l ∧ x = .int .i64 (-(m : Int)) ∧ s = .string ⟨l.toArray⟩ ∧ i = .int .i64 k ∧ Below w.heap.size w wr)
      (fun x _ i _ => (3 - (intOf i).toNat) + (-(intOf x)).toNat)
    case atStart => exact ⟨0, n, [], by omega, hn, Nat.le_refl _, .inl ⟨rfl, rfl, rfl⟩, (by first | rfl | exact int_eq HE.out), rfl, rfl, Below.refl _ _⟩
    case round =>
      obtain ⟨k, m, l, hk, hm, hl, ht, rfl, rfl, rfl, hbel⟩ := hrel
      have hcv := conv_one m wr
      have HP : Hid (0 < m → (pre (m / 10)).length + 1 = (pre m).length) := fun h => pre_len h
      have hk23 : k ≤ 23 := by omega
      by_cases hg : k < 3 ∨ 0 < m
      · have hsz : k + 1 + (pre (m / 10)).length ≤ 23 := by
          by_cases h : 0 < m
          · have := HP.out h; omega
          · have : m / 10 = 0 := by omega
            rw [this]; show _ + 0 ≤ _; omega
        by_cases hk2 : k = 2
        · have q : ((k : Int) == 2) = true := by simp; omega
          have hk3 : k < 3 := by omega
          have HN := Lib.hid (told_dot ht (by simpa using hk2))
          clear hk2 ht hg
          go_wp2
          go_roundw
          case rel => exact ⟨k + 1, m / 10, dg1 m :: 46 :: l, hsz, by omega, by simp; omega, HN.out, int_eq (by omega), str_dot m l, by go_num, hbel.alloc hbel.size _⟩
          case measure => simp [intOf]; omega
        · have q : ((k : Int) == 2) = false := by simp; omega
          have HN := Lib.hid (told_next ht (by simpa using hk2) hg)
          clear hk2 ht
          by_cases hk3 : k < 3
          · clear hg
            go_wp2
            go_roundw
            case rel => exact ⟨k + 1, m / 10, dg1 m :: l, hsz, by omega, by simp; omega, HN.out, int_eq (by omega), str_one m l, by go_num, hbel.alloc hbel.size _⟩
            case measure => simp [intOf]; omega
          · have hm0 : 0 < m := by omega
            clear hg
            go_wp2
            go_roundw
            case rel => exact ⟨k + 1, m / 10, dg1 m :: l, hsz, by omega, by simp; omega, HN.out, int_eq (by omega), str_one m l, by go_num, hbel.alloc hbel.size _⟩
            case measure => simp [intOf]; omega
      · obtain rfl : m = 0 := by omega
        have HL := Lib.hid (told_end ht (by omega))
        have hk3 : ¬ k < 3 := by omega
        clear ht hg HP
        go_wp2
        go_ret
        refine ⟨?_, hbel⟩
        rw [HT.out, ← HL.out]
        first
          | (show Ending.returned (.string ((⟨[45].toArray⟩ : ByteArray) ++ ⟨l.toArray⟩)) = _; rw [catEq])
          | (show Ending.returned (.string ((⟨[].toArray⟩ : ByteArray) ++ ⟨l.toArray⟩)) = _; rw [catEq])
          | rfl
end Go.Proofs.YtkhkncgndllkjaaDoor.Mny
