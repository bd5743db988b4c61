/- Contracts: which accounts may be; their names; the document's own. Conditions: the two arrays of the program hold what their initialisers lay. -/
import Derived.Test.YtkhkncgndllkjaaDoorH0
import Derived.Deep.QuietTactic
import Derived.BigQuiet
import Derived.WalkSmall
namespace Go.Proofs.YtkhkncgndllkjaaDoor.Cht
open Go.RowKit

/-- The program's array: how many digits an ID has. -/
structure Env (w : World) : Prop where
  s1 : w.cell? ⟨0, 1, none⟩ = some (.int .i64 16)
  s2 : w.cell? ⟨0, 2, none⟩ = some (.int .i64 6)
  s3 : w.cell? ⟨0, 3, none⟩ = some (.int .i64 0)
  s4 : w.cell? ⟨0, 4, none⟩ = some (.int .i64 0)
  size : 1 ≤ w.heap.size
theorem Env.below {w w' : World} (h : Env w) (hb : Below w.heap.size w w') : Env w' := by
  have hs := h.size
  have c1 : ∀ k, w'.cell? ⟨0, k, none⟩ = w.cell? ⟨0, k, none⟩ := fun k => hb.cell (show (0 : Nat) < _ by omega)
  exact ⟨(c1 1).trans h.s1, (c1 2).trans h.s2, (c1 3).trans h.s3, (c1 4).trans h.s4, Nat.le_trans h.size hb.size⟩

def szA (k : Int) : Nat := if k = 1 then 16 else if k = 2 then 6 else 0
def ltA (k : Int) : UInt8 := if k = 1 then 67 else if k = 2 then 65 else if k = 3 then 72 else 68
/-- May it be? -/
def mayA (k : Int) (s : ByteArray) : Bool := decide (1 ≤ k ∧ k ≤ 4 ∧ s.size = szA k) && (if k = 1 then soundL s.data.toList else allD s.data.toList)
/-- An account's name. -/
def nmA (k : Int) (s : ByteArray) : ByteArray := ⟨#[ltA k]⟩ ++ s
abbrev acc (k : Int) (s : ByteArray) : Value := .agg #[.int .i64 k, .string s]

theorem may_no {k : Int} {s : ByteArray} (h : ¬ (1 ≤ k ∧ k ≤ 4 ∧ s.size = szA k)) : mayA k s = false := by
  unfold mayA; rw [decide_eq_false h]; rfl
theorem may_1 {s : ByteArray} (h : s.size = 16) : mayA 1 s = soundL s.data.toList := by
  unfold mayA szA; simp [h]
theorem may_2 {s : ByteArray} (h : s.size = 6) : mayA 2 s = allD s.data.toList := by
  unfold mayA szA; simp [h]
theorem may_3 {s : ByteArray} (h : s.size = 0) : mayA 3 s = allD s.data.toList := by
  unfold mayA szA; simp [h]
theorem may_4 {s : ByteArray} (h : s.size = 0) : mayA 4 s = allD s.data.toList := by
  unfold mayA szA; simp [h]
theorem nat_ne {n m : Nat} (h : n ≠ m) : ((n : Int) == m) = false := by
  have : (n : Int) ≠ m := by omega
  simpa using this

set_option maxHeartbeats 1600000 in
theorem mayP_any (k : Int) (s : ByteArray) (w : World) (hE : Env w) (hs : s.size ≤ 1000) (h1 : -9223372036854775808 ≤ k) (h2 : k ≤ 9223372036854775807) :
    Calls Tryd.prog 40 #[acc k s] w fun e w' => e = .returned (.bool (mayA k s)) ∧ Below w.heap.size w w' := by
  have hsz := hE.size
  have hE' := hE.below ((Below.refl w.heap.size w).alloc (Nat.le_refl _) (.cells #[.int .i64 k, .string s] 71))
  by_cases hk1 : k < 1
  · have HM := Lib.hid (may_no (k := k) (s := s) (by omega))
    go_enter Tryd.func40, Tryd.ntmps40
    go_wp2_with fail
    go_quiet (fail)
    go_wp2_with fail
    go_ret
    exact ⟨retb HM.out.symm, below_drewN ((Below.refl _ _).alloc (Nat.le_refl _) _) _⟩
  by_cases hk5 : 5 ≤ k
  · have HM := Lib.hid (may_no (k := k) (s := s) (by omega))
    have hd1 : decide (k < 1) = false := decide_eq_false hk1
    go_enter Tryd.func40, Tryd.ntmps40
    go_wp2_with fail
    go_quiet (fail)
    go_wp2_with fail
    go_ret
    exact ⟨retb HM.out.symm, below_drewN ((Below.refl _ _).alloc (Nat.le_refl _) _) _⟩
  have hkk : k = 1 ∨ k = 2 ∨ k = 3 ∨ k = 4 := by omega
  clear hk1 hk5 h1 h2
  rcases hkk with rfl | rfl | rfl | rfl
  · have c := hE'.s1
    by_cases hz : s.size = 16
    · have HM := Lib.hid (may_1 hz)
      have hze : ((s.size : Int) == 16) = true := by rw [hz]; rfl
      go_enter Tryd.func40, Tryd.ntmps40
      go_wp2_with fail
      go_quiet (fail)
      go_wp2_with fail
      refine (sound_any s _ hs).mono ?_
      rintro e w1 ⟨rfl, hb⟩
      go_wp2_with fail
      go_ret
      exact ⟨retb HM.out.symm, (below_drewN ((Below.refl _ _).alloc (Nat.le_refl _) _) _).trans (hb.mono (below_drewN ((Below.refl _ _).alloc (Nat.le_refl _) _) _).size)⟩
    · have HM := Lib.hid (may_no (k := 1) (s := s) (fun h => hz h.2.2))
      have hze : ((s.size : Int) == 16) = false := by
        have : (s.size : Int) ≠ 16 := by omega
        simpa using this
      go_enter Tryd.func40, Tryd.ntmps40
      go_wp2_with fail
      go_quiet (fail)
      go_wp2_with fail
      go_ret
      exact ⟨retb HM.out.symm, below_drewN ((Below.refl _ _).alloc (Nat.le_refl _) _) _⟩
  · have c := hE'.s2
    by_cases hz : s.size = 6
    · have HM := Lib.hid (may_2 hz)
      have hze : ((s.size : Int) == 6) = true := by rw [hz]; rfl
      go_enter Tryd.func40, Tryd.ntmps40
      go_wp2_with fail
      go_quiet (fail)
      go_wp2_with fail
      refine (all_any s _ hs).mono ?_
      rintro e w1 ⟨rfl, rfl⟩
      go_wp2_with fail
      go_ret
      exact ⟨retb HM.out.symm, below_drewN ((Below.refl _ _).alloc (Nat.le_refl _) _) _⟩
    · have HM := Lib.hid (may_no (k := 2) (s := s) (fun h => hz h.2.2))
      have hze : ((s.size : Int) == 6) = false := by
        have : (s.size : Int) ≠ 6 := by omega
        simpa using this
      go_enter Tryd.func40, Tryd.ntmps40
      go_wp2_with fail
      go_quiet (fail)
      go_wp2_with fail
      go_ret
      exact ⟨retb HM.out.symm, below_drewN ((Below.refl _ _).alloc (Nat.le_refl _) _) _⟩
  · have c := hE'.s3
    by_cases hz : s.size = 0
    · have HM := Lib.hid (may_3 hz)
      have hze : ((s.size : Int) == 0) = true := by rw [hz]; rfl
      go_enter Tryd.func40, Tryd.ntmps40
      go_wp2_with fail
      go_quiet (fail)
      go_wp2_with fail
      refine (all_any s _ hs).mono ?_
      rintro e w1 ⟨rfl, rfl⟩
      go_wp2_with fail
      go_ret
      exact ⟨retb HM.out.symm, below_drewN ((Below.refl _ _).alloc (Nat.le_refl _) _) _⟩
    · have HM := Lib.hid (may_no (k := 3) (s := s) (fun h => hz h.2.2))
      have hze : ((s.size : Int) == 0) = false := by
        have : (s.size : Int) ≠ 0 := by omega
        simpa using this
      go_enter Tryd.func40, Tryd.ntmps40
      go_wp2_with fail
      go_quiet (fail)
      go_wp2_with fail
      go_ret
      exact ⟨retb HM.out.symm, below_drewN ((Below.refl _ _).alloc (Nat.le_refl _) _) _⟩
  · have c := hE'.s4
    by_cases hz : s.size = 0
    · have HM := Lib.hid (may_4 hz)
      have hze : ((s.size : Int) == 0) = true := by rw [hz]; rfl
      go_enter Tryd.func40, Tryd.ntmps40
      go_wp2_with fail
      go_quiet (fail)
      go_wp2_with fail
      refine (all_any s _ hs).mono ?_
      rintro e w1 ⟨rfl, rfl⟩
      go_wp2_with fail
      go_ret
      exact ⟨retb HM.out.symm, below_drewN ((Below.refl _ _).alloc (Nat.le_refl _) _) _⟩
    · have HM := Lib.hid (may_no (k := 4) (s := s) (fun h => hz h.2.2))
      have hze : ((s.size : Int) == 0) = false := by
        have : (s.size : Int) ≠ 0 := by omega
        simpa using this
      go_enter Tryd.func40, Tryd.ntmps40
      go_wp2_with fail
      go_quiet (fail)
      go_wp2_with fail
      go_ret
      exact ⟨retb HM.out.symm, below_drewN ((Below.refl _ _).alloc (Nat.le_refl _) _) _⟩
end Go.Proofs.YtkhkncgndllkjaaDoor.Cht
