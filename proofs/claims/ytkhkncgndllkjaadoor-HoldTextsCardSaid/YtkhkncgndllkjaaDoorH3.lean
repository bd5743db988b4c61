/- Contracts: the document's own name of an account; an account of a kind and an ID; what is behind a letter. Conditions: the two arrays of the program hold what their initialisers lay. -/
import Derived.Test.YtkhkncgndllkjaaDoorH2
namespace Go.Proofs.YtkhkncgndllkjaaDoor.Cht
open Go.RowKit

theorem rmay_1 {s : ByteArray} (h : mayA 1 s = false) (hz : s.size = 16) : soundL s.data.toList = false := by rw [← may_1 hz]; exact h
theorem rmay_2 {s : ByteArray} (h : mayA 2 s = false) (hz : s.size = 6) : allD s.data.toList = false := by rw [← may_2 hz]; exact h
theorem none_of {s : ByteArray} (hz : s.size = 0) : s = ⟨#[]⟩ := by
  cases s with | mk d =>
  have : d = #[] := Array.eq_empty_of_size_eq_zero hz
  rw [this]
theorem rmay_3 {s : ByteArray} (h : mayA 3 s = false) : s.size ≠ 0 := by
  intro hz
  rw [may_3 hz, none_of hz] at h; cases h
theorem rmay_4 {s : ByteArray} (h : mayA 4 s = false) : s.size ≠ 0 := by
  intro hz
  rw [may_4 hz, none_of hz] at h; cases h
theorem eqb_no {s : ByteArray} (h : s.size ≠ 0) : s.toList.isEmpty = false := by
  rw [ByteArray.toList_eq]
  cases he : s.data.toList with
  | nil => have := lsz s; rw [he] at this; simp at this; omega
  | cons c r => rfl

theorem rsound_m {s : ByteArray} (hz : s.size = 16) : mayA 1 s = soundL s.data.toList := may_1 hz
theorem rall_m {s : ByteArray} (hz : s.size = 6) : mayA 2 s = allD s.data.toList := may_2 hz
set_option maxHeartbeats 1600000 in
theorem rname_ok (k : Int) (s : ByteArray) (w : World) (hs : s.size ≤ 1000) (hm : mayA k s = true) :
    Calls Tryd.prog 33 #[acc k s] w fun e w' => e = .returned (.tuple #[.string (nmA k s), .bool true]) ∧ Below w.heap.size w w' := by
  have hk := may_in hm
  have hkk : k = 1 ∨ k = 2 ∨ k = 3 ∨ k = 4 := by omega
  rcases hkk with rfl | rfl | rfl | rfl
  · have hz : s.size = 16 := hk.2.2
    have HM := Lib.hid ((rsound_m hz).symm.trans hm)
    have hze : ((s.size : Int) == 16) = true := by rw [hz]; rfl
    clear hk hm
    go_enter Tryd.func33, Tryd.ntmps33
    go_wp2_with fail
    refine (rsound_any s _ hs).mono ?_
    rintro e w1 ⟨rfl, rfl⟩
    rw [HM.out]
    go_wp2_with fail
    go_ret2
    exact ⟨rfl, (Below.refl _ _).alloc (Nat.le_refl _) _⟩
  · have hz : s.size = 6 := hk.2.2
    have HM := Lib.hid ((rall_m hz).symm.trans hm)
    have hze : ((s.size : Int) == 6) = true := by rw [hz]; rfl
    clear hk hm
    go_enter Tryd.func33, Tryd.ntmps33
    go_wp2_with fail
    refine (rall_any s _ hs).mono ?_
    rintro e w1 ⟨rfl, rfl⟩
    rw [HM.out]
    go_wp2_with fail
    go_ret2
    exact ⟨rfl, (Below.refl _ _).alloc (Nat.le_refl _) _⟩
  · have hz : s.size = 0 := hk.2.2
    obtain rfl := none_of hz
    clear hk hm hz
    go_enter Tryd.func33, Tryd.ntmps33
    go_wp2_with fail
    go_ret2
    exact ⟨rfl, (Below.refl _ _).alloc (Nat.le_refl _) _⟩
  · have hz : s.size = 0 := hk.2.2
    obtain rfl := none_of hz
    clear hk hm hz
    go_enter Tryd.func33, Tryd.ntmps33
    go_wp2_with fail
    go_ret2
    exact ⟨rfl, (Below.refl _ _).alloc (Nat.le_refl _) _⟩

set_option maxHeartbeats 1600000 in
theorem rname_no (k : Int) (s : ByteArray) (w : World) (hs : s.size ≤ 1000) (hm : mayA k s = false) :
    Calls Tryd.prog 33 #[acc k s] w fun e w' => e = .returned (.tuple #[.string ⟨#[]⟩, .bool false]) ∧ Below w.heap.size w w' := by
  by_cases k1 : k = 1
  · subst k1
    by_cases hz : s.size = 16
    · have HM := Lib.hid (rmay_1 hm hz)
      have hze : ((s.size : Int) == 16) = true := by rw [hz]; rfl
      clear hm
      go_enter Tryd.func33, Tryd.ntmps33
      go_wp2_with fail
      refine (rsound_any s _ hs).mono ?_
      rintro e w1 ⟨rfl, rfl⟩
      rw [HM.out]
      go_wp2_with fail
      go_ret2
      exact ⟨rfl, (Below.refl _ _).alloc (Nat.le_refl _) _⟩
    · have hze : ((s.size : Int) == 16) = false := by
        have : (s.size : Int) ≠ 16 := by omega
        simpa using this
      clear hm
      go_enter Tryd.func33, Tryd.ntmps33
      go_wp2_with fail
      go_ret2
      exact ⟨rfl, (Below.refl _ _).alloc (Nat.le_refl _) _⟩
  by_cases k2 : k = 2
  · subst k2
    by_cases hz : s.size = 6
    · have HM := Lib.hid (rmay_2 hm hz)
      have hze : ((s.size : Int) == 6) = true := by rw [hz]; rfl
      clear hm
      go_enter Tryd.func33, Tryd.ntmps33
      go_wp2_with fail
      refine (rall_any s _ hs).mono ?_
      rintro e w1 ⟨rfl, rfl⟩
      rw [HM.out]
      go_wp2_with fail
      go_ret2
      exact ⟨rfl, (Below.refl _ _).alloc (Nat.le_refl _) _⟩
    · have hze : ((s.size : Int) == 6) = false := by
        have : (s.size : Int) ≠ 6 := by omega
        simpa using this
      clear hm
      go_enter Tryd.func33, Tryd.ntmps33
      go_wp2_with fail
      go_ret2
      exact ⟨rfl, (Below.refl _ _).alloc (Nat.le_refl _) _⟩
  by_cases k3 : k = 3
  · subst k3
    have hze := eqb_no (rmay_3 hm)
    clear hm
    go_enter Tryd.func33, Tryd.ntmps33
    go_wp2_with fail
    go_ret2
    exact ⟨rfl, (Below.refl _ _).alloc (Nat.le_refl _) _⟩
  by_cases k4 : k = 4
  · subst k4
    have hze := eqb_no (rmay_4 hm)
    clear hm
    go_enter Tryd.func33, Tryd.ntmps33
    go_wp2_with fail
    go_ret2
    exact ⟨rfl, (Below.refl _ _).alloc (Nat.le_refl _) _⟩
  have e1 : (k == 1) = false := by simpa using k1
  have e2 : (k == 2) = false := by simpa using k2
  have e3 : (k == 3) = false := by simpa using k3
  have e4 : (k == 4) = false := by simpa using k4
  clear hm
  go_enter Tryd.func33, Tryd.ntmps33
  go_wp2_with fail
  go_ret2
  exact ⟨rfl, (Below.refl _ _).alloc (Nat.le_refl _) _⟩

/-! ### An account of a kind and an ID -/
theorem two_set {w : World} {B : Nat} {a b : Value} (x y : Value) (h0 : w.cell? ⟨B, 0, none⟩ = some a) (h1 : w.cell? ⟨B, 1, none⟩ = some b) :
    (w.setCell ⟨B, 0, none⟩ x).cell? ⟨B, 0, none⟩ = some x ∧ ((w.setCell ⟨B, 0, none⟩ x).setCell ⟨B, 1, none⟩ y).cell? ⟨B, 1, none⟩ = some y :=
  ⟨World.cell?_setCell_same' _ _ _ (by rw [h0]; rfl), World.cell?_setCell_same' _ _ _ (by rw [World.cell?_setCell_other _ _ _ _ (by simp), h1]; rfl)⟩
/-- The account of a kind and an ID, if there is such a one. -/
def acR (k : Int) (s : ByteArray) : Value := if mayA k s = true then .tuple #[acc k s, .int .i64 0] else .tuple #[acc 0 ⟨#[]⟩, .int .i64 4]
theorem acR_t {k : Int} {s : ByteArray} (h : mayA k s = true) : acR k s = .tuple #[acc k s, .int .i64 0] := if_pos h
theorem acR_f {k : Int} {s : ByteArray} (h : mayA k s = false) : acR k s = .tuple #[acc 0 ⟨#[]⟩, .int .i64 4] := if_neg (by rw [h]; simp)
end Go.Proofs.YtkhkncgndllkjaaDoor.Cht
