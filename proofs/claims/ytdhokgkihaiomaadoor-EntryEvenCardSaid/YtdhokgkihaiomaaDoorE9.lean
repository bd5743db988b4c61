/- Contracts: whether two entries are the same; an entry from one account to another one. Conditions: the two arrays of the program that names go by hold what their initialisers lay. -/
import Derived.Test.YtdhokgkihaiomaaDoorE6
namespace Go.Proofs.YtdhokgkihaiomaaDoor.Ent
open Go.RowKit Cht
open Mny (Fits vOf eOf vOf_t vOf_f eOf_t eOf_f)

def sameE (b : Int) (r : ByteArray) (l : List Ln) (b' : Int) (r' : ByteArray) (l' : List Ln) : Bool := decide (b = b' ∧ r = r' ∧ l = l')
theorem ln_eq {x y : Ln} : x = y ↔ x.k = y.k ∧ x.s = y.s ∧ x.n = y.n := by
  cases x; cases y; simp
theorem bytes_ne {r r' : ByteArray} (h : ¬ r = r') : ¬ r.toList = r'.toList := fun e => h (by
  apply ByteArray.ext
  apply Array.toList_inj.1
  rwa [ByteArray.toList_eq, ByteArray.toList_eq] at e)

set_option maxRecDepth 100000 in
set_option maxHeartbeats 3200000 in
theorem rsame_any (b b' : Int) (r r' : ByteArray) (A A' : Option Addr) (l l' : List Ln) (m m' c c' : Nat) (w : World) (h : Lns w w.heap.size A l) (h' : Lns w w.heap.size A' l') (hm : l.length = m) (hm' : l'.length = m') (hl : m ≤ 1000) (hl' : m' ≤ 1000) :
    Calls Tryd.prog 11 #[.agg #[.int .i64 b, .string r, .slice A m c], .agg #[.int .i64 b', .string r', .slice A' m' c']] w fun e w' => e = .returned (.bool (sameE b r l b' r' l')) ∧ Below w.heap.size w w' := by
  have HP := Lib.hid h
  have HP' := Lib.hid h'
  have HM := Lib.hid hm
  have HM' := Lib.hid hm'
  obtain ⟨w0, hw⟩ : ∃ w0, w0 = (w.alloc (.cells #[.int .i64 b, .string r, .slice A m c] 28)).alloc (.cells #[.int .i64 b', .string r', .slice A' m' c'] 28) := ⟨_, rfl⟩
  have hbx : BoxE w.heap.size b r A m c w0 := by
    rw [hw]; exact (BoxE.new _ _ _ _ _ _).below ((Below.refl _ _).alloc (Nat.le_refl _) _) (by simp)
  have hbx' : BoxE (w.heap.size + 1) b' r' A' m' c' w0 := by
    have := BoxE.new (w.alloc (.cells #[.int .i64 b, .string r, .slice A m c] 28)) b' r' A' m' c'
    rw [World.size_alloc] at this
    rw [hw]; exact this
  have hb0 : Below w.heap.size w w0 := by rw [hw]; exact ((Below.refl _ _).alloc (Nat.le_refl _) _).alloc (by simp) _
  have HW := Lib.hid hw
  clear h h' hm hm' hw
  obtain ⟨c0, c1, c2, cf⟩ := hbx.cells
  obtain ⟨d0, d1, d2, df⟩ := hbx'.cells
  by_cases e1 : ¬ b = b'
  · have HR : Hid (sameE b r l b' r' l' = false) := decide_eq_false (fun h => e1 h.1)
    have e1' : (b != b') = true := by simpa using e1
    go_enter Tryd.func11, Tryd.ntmps11
    go_upto_region 1 with fail
    rw [← HW.out]
    go_wp2_with fail
    go_ret
    exact ⟨retb HR.out.symm, hb0⟩
  replace e1 := Decidable.not_not.1 e1
  subst e1
  by_cases e2 : ¬ r = r'
  · have HR : Hid (sameE b r l b r' l' = false) := decide_eq_false (fun h => e2 h.2.1)
    have e2' := bytes_ne e2
    clear e2
    go_enter Tryd.func11, Tryd.ntmps11
    go_upto_region 1 with fail
    rw [← HW.out]
    go_wp2_with fail
    go_ret
    exact ⟨retb HR.out.symm, hb0⟩
  replace e2 := Decidable.not_not.1 e2
  subst e2
  by_cases e3 : ¬ m = m'
  · have HR : Hid (sameE b r l b r l' = false) := decide_eq_false (fun h => e3 (by rw [← HM.out, ← HM'.out, h.2.2]))
    have e3' : ((m : Int) != m') = true := by simp; omega
    clear e3
    go_enter Tryd.func11, Tryd.ntmps11
    go_upto_region 1 with fail
    rw [← HW.out]
    go_wp2_with fail
    go_ret
    exact ⟨retb HR.out.symm, hb0⟩
  replace e3 := Decidable.not_not.1 e3
  subst e3
  go_enter Tryd.func11, Tryd.ntmps11
  go_upto_region 1 with fail
  rw [← HW.out]
  clear HW
  have HBX := Lib.hid hbx
  have HBX' := Lib.hid hbx'
  have hz0 := hb0.size
  have hz1 := hbx'.lt
  have HB0 := Lib.hid hb0
  go_wp2_with fail
  clear c0 c1 c2 cf d0 d1 d2 df hbx hbx' hb0
  go_loopw [5] (fun i wr => ∃ k : Nat, k ≤ m ∧ i = .int .i64 k ∧ Hid (∀ j, (hj : j < k) → (h1 : j < l.length) → (h2 : j < l'.length) → l[j] = l'[j]) ∧ Hid (Below w0.heap.size w0 wr)) (fun i _ => m - (intOf i).toNat)
  case atStart => exact ⟨0, Nat.zero_le _, rfl, fun j h => absurd h (Nat.not_lt_zero _), Below.refl _ _⟩
  case round =>
    obtain ⟨k, hk, rfl, HR, HB⟩ := hrel
    have hwr := HB.out.size
    have HX1 : Hid (BoxE w.heap.size b r A m c wr) := HBX.out.below HB.out (by omega)
    have HX2 : Hid (BoxE (w.heap.size + 1) b r A' m c' wr) := HBX'.out.below HB.out (by omega)
    obtain ⟨c0, c1, c2, cf⟩ := HX1.out.cells
    obtain ⟨d0, d1, d2, df⟩ := HX2.out.cells
    by_cases hlt : k < m
    · have hki : (k : Int) < m := by omega
      have hlt1 : k < l.length := by have := HM.out; omega
      have hlt2 : k < l'.length := by have := HM'.out; omega
      obtain ⟨b0, o0, rfl, hb1, p1, p2, p3⟩ := ((HP.out.below HB0.out (Nat.le_refl _)).below HB.out (by omega)) k hlt1
      obtain ⟨b2, o2, rfl, hb2, q1, q2, q3⟩ := ((HP'.out.below HB0.out (Nat.le_refl _)).below HB.out (by omega)) k hlt2
      by_cases he : l[k] = l'[k]
      · have HN : Hid (∀ j, (hj : j < k + 1) → (h1 : j < l.length) → (h2 : j < l'.length) → l[j] = l'[j]) := fun j hj h1 h2 => by
          rcases Nat.lt_or_ge j k with h | h
          · exact HR.out j h h1 h2
          · obtain rfl : j = k := by omega
            exact he
        rw [he] at p1 p2 p3
        clear he
        generalize l'[k] = y at *
        go_wp2_with fail
        go_quiet (fail)
        go_wp2_with fail
        go_roundw
        case rel => exact ⟨k + 1, by omega, by go_num, HN.out, drewB HB.out _⟩
        case measure => simp [intOf]; omega
      · have HX : Hid (sameE b r l b r l' = false) := decide_eq_false (fun h => he (by have := h.2.2; subst this; rfl))
        have HF : Hid (∀ n, Below w.heap.size w (wr.drewN n)) := fun n => drewB (HB0.out.trans (HB.out.mono (by omega))) n
        rw [ln_eq] at he
        generalize l[k] = x at *
        generalize l'[k] = y at *
        by_cases f1 : x.k = y.k
        · rw [f1] at p1
          by_cases f2 : x.s = y.s
          · rw [f2] at p2
            have f3 : ¬ x.n = y.n := fun h => he ⟨f1, f2, h⟩
            clear he f1 f2
            go_wp2_with fail
            go_quiet (fail)
            go_wp2_with fail
            go_ret
            exact ⟨retb HX.out.symm, HF.out _⟩
          · have f2' := bytes_ne f2
            clear he f1 f2
            go_wp2_with fail
            go_quiet (fail)
            go_wp2_with fail
            go_ret
            exact ⟨retb HX.out.symm, HF.out _⟩
        · clear he
          go_wp2_with fail
          go_quiet (fail)
          go_wp2_with fail
          go_ret
          exact ⟨retb HX.out.symm, HF.out _⟩
    · obtain rfl : k = m := by omega
      have HX : Hid (sameE b r l b r l' = true) := decide_eq_true ⟨rfl, rfl, List.ext_getElem (by rw [HM.out, HM'.out]) (fun i h1 h2 => HR.out i (by have := HM.out; omega) h1 h2)⟩
      go_wp2_with fail
      go_ret
      exact ⟨retb HX.out.symm, HB0.out.trans (HB.out.mono (by omega))⟩
end Go.Proofs.YtdhokgkihaiomaaDoor.Ent
