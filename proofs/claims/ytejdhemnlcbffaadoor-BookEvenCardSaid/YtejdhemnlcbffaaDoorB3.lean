/- Contracts: whether two books are the same; what an account has in a list of balances (the document's); where an account stands. Conditions: the two arrays of the program hold what their initialisers lay. -/
import Derived.Test.YtejdhemnlcbffaaDoorB2
namespace Go.Proofs.YtejdhemnlcbffaaDoor.Bok
open Go.RowKit Cht Ent
open Mny (Fits)

set_option maxRecDepth 100000 in
set_option maxHeartbeats 3200000 in
theorem rsame_any (A A' : Option Addr) (l l' : List Ln) (m m' c c' : Nat) (w : World) (h : Lns w w.heap.size A l) (h' : Lns w w.heap.size A' l') (hm : l.length = m) (hm' : l'.length = m') (hl : m ≤ 1000) (hl' : m' ≤ 1000) :
    Calls Tryd.prog 11 #[.slice A m c, .slice A' m' c'] w fun e w' => e = .returned (.bool (decide (l = l'))) ∧ Below w.heap.size w w' := by
  have HP := Lib.hid h
  have HP' := Lib.hid h'
  have HM := Lib.hid hm
  have HM' := Lib.hid hm'
  clear h h' hm hm'
  by_cases e3 : ¬ m = m'
  · have HR : Hid (decide (l = l') = false) := decide_eq_false (fun h => e3 (by rw [← HM.out, ← HM'.out, h]))
    have e3' : ((m : Int) != m') = true := by simp; omega
    clear e3
    go_enter Tryd.func11, Tryd.ntmps11
    go_wp2_with fail
    go_ret
    exact ⟨retb HR.out.symm, Below.refl _ _⟩
  replace e3 := Decidable.not_not.1 e3
  subst e3
  go_enter Tryd.func11, Tryd.ntmps11
  go_wp2_with fail
  go_loopw [5] (fun i wr => ∃ k : Nat, k ≤ m ∧ i = .int .i64 k ∧ Hid (∀ j, (hj : j < k) → (h1 : j < l.length) → (h2 : j < l'.length) → l[j] = l'[j]) ∧ Hid (Below w.heap.size w wr)) (fun i _ => m - (intOf i).toNat)
  case atStart => exact ⟨0, Nat.zero_le _, rfl, fun j h => absurd h (Nat.not_lt_zero _), Below.refl _ _⟩
  case round =>
    obtain ⟨k, hk, rfl, HR, HB⟩ := hrel
    have hwr := HB.out.size
    by_cases hlt : k < m
    · have hki : (k : Int) < m := by omega
      have hlt1 : k < l.length := by have := HM.out; omega
      have hlt2 : k < l'.length := by have := HM'.out; omega
      obtain ⟨b0, o0, rfl, hb1, p1, p2, p3⟩ := (HP.out.below HB.out (by omega)) k hlt1
      obtain ⟨b2, o2, rfl, hb2, q1, q2, q3⟩ := (HP'.out.below HB.out (by omega)) k hlt2
      by_cases he : l[k] = l'[k]
      · have HN : Hid (∀ j, (hj : j < k + 1) → (h1 : j < l.length) → (h2 : j < l'.length) → l[j] = l'[j]) := fun j hj h1 h2 => by
          rcases Nat.lt_or_ge j k with h | h
          · exact HR.out j h h1 h2
          · obtain rfl : j = k := by omega
            exact he
        rw [← he] at q1 q2 q3
        clear he HR
        generalize l[k] = x at *
        go_wp2_with fail
        go_quiet (fail)
        go_wp2_with fail
        go_roundw
        case rel => exact ⟨k + 1, by omega, by go_num, HN.out, drewB HB.out _⟩
        case measure => simp [intOf]; omega
      · have HX : Hid (decide (l = l') = false) := decide_eq_false (fun h => he (by subst h; rfl))
        have HF : Hid (∀ n, Below w.heap.size w (wr.drewN n)) := fun n => drewB HB.out n
        rw [ln_eq] at he
        generalize l[k] = x at *
        generalize l'[k] = y at *
        by_cases f1 : x.k = y.k
        · rw [f1] at p1
          by_cases f2 : x.s = y.s
          · rw [f2] at p2
            have f3 : ¬ x.n = y.n := fun h => he ⟨f1, f2, h⟩
            clear he f1 f2
            go_wp2_with fail
            go_quiet (fail)
            go_wp2_with fail
            go_ret
            exact ⟨retb HX.out.symm, HF.out _⟩
          · have f2' := bytes_ne f2
            clear he f1 f2
            go_wp2_with fail
            go_quiet (fail)
            go_wp2_with fail
            go_ret
            exact ⟨retb HX.out.symm, HF.out _⟩
        · clear he
          go_wp2_with fail
          go_quiet (fail)
          go_wp2_with fail
          go_ret
          exact ⟨retb HX.out.symm, HF.out _⟩
    · obtain rfl : k = m := by omega
      have HX : Hid (decide (l = l') = true) := decide_eq_true (List.ext_getElem (by rw [HM.out, HM'.out]) (fun i h1 h2 => HR.out i (by have := HM.out; omega) h1 h2))
      go_wp2_with fail
      go_ret
      exact ⟨retb HX.out.symm, HB.out⟩

set_option maxRecDepth 100000 in
set_option maxHeartbeats 3200000 in
/-- The document's Get: of the first one. -/
theorem rget_any (A : Option Addr) (l : List Ln) (m c : Nat) (a : Ln) (w : World) (h : Lns w w.heap.size A l) (hm : l.length = m) (hl : m ≤ 1000) :
    Calls Tryd.prog 14 #[.slice A m c, acc a.k a.s] w fun e w' => e = .returned (.int .i64 (onL l a)) ∧ Below w.heap.size w w' := by
  have HM := Lib.hid hm
  obtain ⟨w0, hw⟩ : ∃ w0, w0 = w.alloc (.cells #[.int .i64 a.k, .string a.s] 27) := ⟨_, rfl⟩
  have hb0 : Below w.heap.size w w0 := by rw [hw]; exact (Below.refl w.heap.size w).alloc (Nat.le_refl _) _
  have hba : BoxA w.heap.size a.k a.s w0 := by rw [hw]; exact World.alloc_heap_new w _
  have hz0 : w0.heap.size = w.heap.size + 1 := by rw [hw, World.size_alloc]
  have HW := Lib.hid hw
  have HB0 := Lib.hid hb0
  have HBA := Lib.hid hba
  have HL0 : Hid (Lns w0 w.heap.size A l) := h.below hb0 (Nat.le_refl _)
  clear h hm hw hb0 hba
  go_enter Tryd.func14, Tryd.ntmps14
  go_upto_region 1 with fail
  rw [← HW.out]
  clear HW
  go_wp2_with fail
  go_loopw [5] (fun i wr => ∃ k : Nat, k ≤ m ∧ i = .int .i64 k ∧ Hid (∀ j, (hj : j < k) → (h1 : j < l.length) → sameA l[j] a = false) ∧ Hid (Below w0.heap.size w0 wr)) (fun i _ => m - (intOf i).toNat)
  case atStart => exact ⟨0, Nat.zero_le _, rfl, fun j h => absurd h (Nat.not_lt_zero _), Below.refl _ _⟩
  case round =>
    obtain ⟨k, hk, rfl, HR, HB⟩ := hrel
    have hwr := HB.out.size
    have hBA : BoxA w.heap.size a.k a.s wr := HBA.out.below HB.out (by omega)
    obtain ⟨g0, g1, gf⟩ := hBA.cells
    have HF : Hid (∀ n, Below w.heap.size w (wr.drewN n)) := fun n => drewB (HB0.out.trans (HB.out.mono (by omega))) n
    by_cases hlt : k < m
    · have hki : (k : Int) < m := by omega
      have hlt1 : k < l.length := by have := HM.out; omega
      obtain ⟨b0, o0, rfl, hb1, p1, p2, p3⟩ := (HL0.out.below HB.out (by omega)) k hlt1
      cases hs : sameA l[k] a with
      | true =>
        have HX : Hid (onL l a = l[k].n) := onL_hit (pre := l.take k) (x := l[k]) l (fun y hy => by
          obtain ⟨j, hj, rfl⟩ := List.getElem_of_mem hy
          rw [List.length_take] at hj
          rw [List.getElem_take]
          exact HR.out j (by omega) (by omega)) (by rw [← List.take_succ_eq_append_getElem hlt1]; exact List.take_prefix _ _) hs
        obtain ⟨e1, e2⟩ := same_yes hs
        rw [e1] at p1
        rw [e2] at p2
        clear hs e1 e2 gf hBA HR
        generalize l[k] = x at *
        go_wp2_with fail
        go_quiet (fail)
        go_wp2_with fail
        go_ret
        exact ⟨ret1 HX.out.symm, HF.out _⟩
      | false =>
        have HX : Hid (∀ j, (hj : j < k + 1) → (h1 : j < l.length) → sameA l[j] a = false) := fun j hj h1 => by
          rcases Nat.lt_or_ge j k with h | h
          · exact HR.out j h h1
          · obtain rfl : j = k := by omega
            exact hs
        clear gf hBA HR
        rcases same_no hs with e1 | ⟨e1, e2⟩
        · clear hs
          generalize l[k] = x at *
          go_wp2_with fail
          go_quiet (fail)
          go_wp2_with fail
          go_roundw
          case rel => exact ⟨k + 1, by omega, by go_num, HX.out, drewB HB.out _⟩
          case measure => simp [intOf]; omega
        · rw [e1] at p1
          clear hs e1
          generalize l[k] = x at *
          go_wp2_with fail
          go_quiet (fail)
          go_wp2_with fail
          go_roundw
          case rel => exact ⟨k + 1, by omega, by go_num, HX.out, drewB HB.out _⟩
          case measure => simp [intOf]; omega
    · obtain rfl : k = m := by omega
      have HX : Hid (onL l a = 0) := onL_none (fun y hy => by
        obtain ⟨j, hj, rfl⟩ := List.getElem_of_mem hy
        exact HR.out j (by have := HM.out; omega) hj)
      go_wp2_with fail
      go_ret
      exact ⟨ret1 HX.out.symm, HF.out 0⟩

set_option maxRecDepth 20000 in
set_option maxHeartbeats 800000 in
theorem place_any (A : Option Addr) (l : List Ln) (m c : Nat) (a : Ln) (w : World) (hE : Env w) (h : Lns w w.heap.size A l) (hm : l.length = m) (hl : m ≤ 1000) (hok : ∀ x ∈ l, okX x = true) (hf : ∀ x ∈ l, fitA x) (ha : fitA a) :
    Calls Tryd.prog 29 #[.slice A m c, acc a.k a.s] w fun e w' => ∃ i : Nat, e = .returned (.tuple #[.int .i64 i, .bool (atB l a i)]) ∧ Plc l a i ∧ Below w.heap.size w w' := by
  obtain ⟨w0, hw⟩ : ∃ w0, w0 = w.alloc (.cells #[.int .i64 a.k, .string a.s] 27) := ⟨_, rfl⟩
  have hb0 : Below w.heap.size w w0 := by rw [hw]; exact (Below.refl w.heap.size w).alloc (Nat.le_refl _) _
  have hba : BoxA w.heap.size a.k a.s w0 := by rw [hw]; exact World.alloc_heap_new w _
  have hz0 : w0.heap.size = w.heap.size + 1 := by rw [hw, World.size_alloc]
  have HS := Lib.hid (search_any A l m c a w0 (hE.below hb0) ((h.below hb0 (Nat.le_refl _)).more (by omega)) hm hl hok hf ha)
  obtain ⟨g0, g1, gf⟩ := hba.cells
  have HW := Lib.hid hw
  have HB0 := Lib.hid hb0
  clear h hm hw hb0 hba hE hok hf ha
  go_enter Tryd.func29, Tryd.ntmps29
  go_upto_region 1 with fail
  rw [← HW.out]
  clear HW
  go_wp2_with fail
  refine HS.out.mono ?_
  rintro e w1 ⟨i, rfl, hp, hb⟩
  have HPL := Lib.hid hp
  clear hp
  go_wp2_with fail
  go_ret2
  exact ⟨i, rfl, HPL.out, Below.on HB0.out hb⟩
end Go.Proofs.YtejdhemnlcbffaaDoor.Bok
