/- Contract: Text. -/
import Derived.Test.YtkhkncgndllkjaaDoorMT1
namespace Go.Proofs.YtkhkncgndllkjaaDoor.Mny
open Go.RowKit Go.Sort Txt

theorem two_less {u : Nat} (h : u < 10) : 48 :: Lib.decDigits u = two u := by
  rw [dec_small h]; unfold two
  have : dg1 (u / 10) = 48 := by unfold dg1; rw [Nat.div_eq_of_lt h]; rfl
  rw [this]
theorem two_more {u : Nat} (h : ¬ u < 10) (h2 : u < 100) : Lib.decDigits u = two u := by
  rw [dec_big h, dec_small (by omega)]; rfl
theorem two_mod (n : Nat) : two (n % 100) = two n := by
  unfold two dg1
  rw [show n % 100 / 10 % 10 = n / 10 % 10 by omega, show n % 100 % 10 = n % 10 by omega]
theorem strEq {l m : List UInt8} (h : l = m) : Ending.returned (.string ⟨l.toArray⟩) = .returned (.string ⟨m.toArray⟩) := by rw [h]

theorem catEq (l m : List UInt8) : (⟨l.toArray⟩ : ByteArray) ++ (⟨m.toArray⟩ : ByteArray) = ⟨(l ++ m).toArray⟩ := by
  apply ByteArray.ext
  simp [ByteArray.data_append]
theorem dec_len {u : Nat} (h : u < 18446744073709551616) : (Lib.decDigits u).length ≤ 20 := by
  rw [Lib.decDigits_length]
  by_cases h1 : 1 ≤ u
  · have := Lib.numDigits_eq u h1 h; split at this <;> omega
  · have : u = 0 := by omega
    subst this
    rw [Lib.nDigits_small (by decide)]; decide

theorem fu_at (c : Int) (u : Nat) (w : World) (hE : Env w) (hu64 : u < 18446744073709551616) (hc : c = u) :
    Calls Tryd.prog 56 #[.int .u64 c, .int .i64 10] w fun e w' => e = .returned (.string ⟨(Lib.decDigits u).toArray⟩) ∧ Below w.heap.size w w' := by
  subst hc; exact fu_any u w hE hu64

theorem twod_any (c : Int) (u : Nat) (w : World) (h : u < 100) (hc : c = u) : Calls Tryd.prog 57 #[.int .u64 c] w fun e w' => e = .returned (.string ⟨(two u).toArray⟩) ∧ w = w' := by
  subst hc
  have hl := dec_len (u := u) (by omega)
  by_cases h1 : u < 10
  · have HT := Lib.hid (two_less h1)
    go_enter Tryd.func57, Tryd.ntmps57
    go_wp2_with fail
    refine (fu_small u _ h).mono ?_
    rintro e w' ⟨rfl, rfl⟩
    go_wp2_with fail
    go_ret
    refine ⟨?_, rfl⟩
    show Ending.returned (.string ((⟨[48].toArray⟩ : ByteArray) ++ ⟨(Lib.decDigits u).toArray⟩)) = _
    rw [catEq]
    exact strEq HT.out
  · have HT := Lib.hid (two_more h1 h)
    go_enter Tryd.func57, Tryd.ntmps57
    go_wp2_with fail
    refine (fu_small u _ h).mono ?_
    rintro e w' ⟨rfl, rfl⟩
    go_wp2_with fail
    go_ret
    exact ⟨strEq HT.out, rfl⟩

set_option maxHeartbeats 400000 in
theorem text_any (a : Int) (w : World) (hE : Env w) (ha : Fits a) :
    Calls Tryd.prog 32 #[.int .i64 a] w fun e w' => e = .returned (.string ⟨(txt a).toArray⟩) ∧ Below w.heap.size w w' := by
  have hn := natAbs_le ha
  have h1 : a.natAbs / 100 < 18446744073709551616 := by omega
  have h2 : a.natAbs % 100 < 100 := Nat.mod_lt _ (by decide)
  have hl := dec_len h1
  have HM := Lib.hid (two_mod a.natAbs)
  go_enter Tryd.func32, Tryd.ntmps32
  go_wp2_with fail
  refine (size_any _ _ ha).mono ?_
  rintro e w' ⟨rfl, rfl⟩
  go_wp2_with fail
  refine (fu_at _ (a.natAbs / 100) _ hE h1 (by omega)).mono ?_
  rintro e w1 ⟨rfl, hb1⟩
  go_wp2_with fail
  refine (twod_any _ (a.natAbs % 100) _ h2 (by omega)).mono ?_
  rintro e w' ⟨rfl, rfl⟩
  rw [HM.out]
  have hb : ((two a.natAbs).length : Nat) ≤ 2 := Nat.le_refl 2
  have HB : Hid (body a.natAbs = Lib.decDigits (a.natAbs / 100) ++ 46 :: two a.natAbs) := rfl
  by_cases hneg : a < 0
  · have HX : Hid (txt a = 45 :: body a.natAbs) := if_pos hneg
    go_wp2_with fail
    go_ret
    refine ⟨?_, hb1⟩
    show Ending.returned (.string ((⟨[45].toArray⟩ : ByteArray) ++ (((⟨(Lib.decDigits (a.natAbs / 100)).toArray⟩ : ByteArray) ++ ⟨[46].toArray⟩) ++ ⟨(two a.natAbs).toArray⟩))) = _
    rw [catEq, catEq, catEq]
    exact strEq (by rw [HX.out, HB.out]; simp)
  · have HX : Hid (txt a = body a.natAbs) := if_neg hneg
    go_wp2_with fail
    go_ret
    refine ⟨?_, hb1⟩
    show Ending.returned (.string (((⟨(Lib.decDigits (a.natAbs / 100)).toArray⟩ : ByteArray) ++ ⟨[46].toArray⟩) ++ ⟨(two a.natAbs).toArray⟩)) = _
    rw [catEq, catEq]
    exact strEq (by rw [HX.out, HB.out]; simp)
end Go.Proofs.YtkhkncgndllkjaaDoor.Mny
