/- Contracts: which references may be; which lines may be. Conditions: the two arrays of the program that names go by hold what their initialisers lay. -/
import Derived.Test.YtejdhemnlcbffaaDoorE1
import Derived.Test.YtejdhemnlcbffaaDoorShelf
import Derived.Laws.RangeAny
import Derived.Laws.RangeString
namespace Go.Proofs.YtejdhemnlcbffaaDoor.Ent
open Go.RowKit Go.Shelf Cht

def oddB (x : Nat) : Bool := decide (x < 33) || decide (126 < x)
theorem odd_byte (c : UInt8) : oddB c.toNat = !rB c := by
  unfold oddB rB
  by_cases h1 : c.toNat < 33 <;> by_cases h2 : 126 < c.toNat <;> simp [h1, h2] <;> omega
theorem odd_high {x : Nat} (h : 128 ≤ x) : oddB x = true := by unfold oddB; simp; omega
theorem idx_all (s : ByteArray) : ∀ f pos : Nat, s.size ≤ pos + f → decide (0 ≤ Lib.idxFuncFrom oddB true s f pos) = !((s.data.toList.drop pos).all rB) := by
  intro f
  induction f with
  | zero =>
    intro pos h
    rw [List.drop_of_length_le (by rw [lsz]; omega), Lib.idxFuncFrom_end _ _ _ _ _ (by omega)]; rfl
  | succ f ih =>
    intro pos h
    by_cases hp : pos < s.size
    · unfold Lib.idxFuncFrom
      rw [if_pos hp, at_eq s pos hp, List.all_cons]
      by_cases ha : s[pos].toNat < 128
      · rw [decode_ascii s pos hp ha]
        simp only []
        rw [odd_byte]
        cases hr : rB s[pos] with
        | true =>
          simp only [Bool.not_true, Bool.false_eq_true, if_false, Bool.true_and]
          exact ih (pos + 1) (by omega)
        | false => simp
      · have hd := (decode_high s pos hp (by omega)).1
        rw [if_pos (odd_high hd)]
        have hr : rB s[pos] = false := by
          have := odd_byte s[pos]
          rw [odd_high (by omega)] at this
          cases h9 : rB s[pos] with
          | false => rfl
          | true => rw [h9] at this; cases this
        rw [hr]; simp
    · rw [List.drop_of_length_le (by rw [lsz]; omega), Lib.idxFuncFrom_end _ _ _ _ _ hp]; rfl
theorem idx_ref (s : ByteArray) : decide (0 ≤ Lib.idxFunc oddB true s) = !(s.data.toList.all rB) := by
  have := idx_all s s.size 0 (by omega)
  rw [List.drop_zero] at this
  exact this

theorem clo30 (x : Nat) (w : World) :
    Calls Tryd.prog 57 #[.int .i32 x] w fun e w' => e = .returned (.bool (oddB x)) ∧ w = w' := by
  have H : Hid (oddB x = (decide (x < 33) || decide (126 < x))) := rfl
  by_cases h : x < 33
  · have h' : (x : Int) < 33 := by omega
    go_enter Tryd.func57, Tryd.ntmps57
    go_wp2_with fail
    go_ret
    exact ⟨retb (by rw [H.out]; simp [h]), rfl⟩
  · have h' : ¬ (x : Int) < 33 := by omega
    by_cases h2 : 126 < x
    · have h2' : (126 : Int) < x := by omega
      go_enter Tryd.func57, Tryd.ntmps57
      go_wp2_with fail
      go_ret
      exact ⟨retb (by rw [H.out]; simp [h2]), rfl⟩
    · have h2' : ¬ (126 : Int) < x := by omega
      go_enter Tryd.func57, Tryd.ntmps57
      go_wp2_with fail
      go_ret
      exact ⟨retb (by rw [H.out]; simp [h, h2]), rfl⟩

theorem ref_any (r : ByteArray) (w : World) :
    Calls Tryd.prog 47 #[.string r] w fun e w' => e = .returned (.bool (mayR r)) ∧ Below w.heap.size w w' := by
  have HC := Lib.hid (Tryd.strings_ContainsFunc_grows 57 #[] (enters_of Tryd.func57 (by kernel_rfl) rfl) oddB r w (fun W x _ _ => (clo30 x W).mono fun e w' ⟨he, hw⟩ => ⟨he, by rw [← hw]; exact Below.refl _ _⟩))
  rw [idx_ref] at HC
  by_cases h : r.size ≤ 20
  · have HM : Hid (mayR r = r.data.toList.all rB) := by show _ = _; unfold mayR; simp [h]
    have h' : (r.size : Int) ≤ 20 := by omega
    generalize r.data.toList.all rB = b at *
    go_enter Tryd.func47, Tryd.ntmps47
    go_wp2_with fail
    refine HC.out.mono ?_
    rintro e w1 ⟨rfl, hb⟩
    go_wp2_with fail
    go_ret
    exact ⟨retb (by rw [HM.out]; first | done | simp), hb⟩
  · have HM : Hid (mayR r = false) := by show _ = _; unfold mayR; simp [h]
    have h' : ¬ (r.size : Int) ≤ 20 := by omega
    clear HC
    go_enter Tryd.func47, Tryd.ntmps47
    go_wp2_with fail
    go_ret
    exact ⟨retb HM.out.symm, Below.refl _ _⟩

/-! ### Lines -/
/-- May the line of that index be, behind those ahead of it? -/
def okI (l : List Ln) (i : Nat) : Bool := match l[i]? with
  | some y => mayA y.k y.s && (!(y.n == 0) && !((l.take i).any fun x => sameA x y))
  | none => true
def mayL (l : List Ln) : Bool := decide (2 ≤ l.length ∧ l.length ≤ 8) && (List.range l.length).all (okI l)
theorem okI_at {l : List Ln} {i : Nat} (h : i < l.length) : okI l i = (mayA l[i].k l[i].s && (!(l[i].n == 0) && !((l.take i).any fun x => sameA x l[i]))) := by
  unfold okI; rw [List.getElem?_eq_getElem h]
theorem mayL_no {l : List Ln} {i : Nat} (h : i < l.length) (hk : okI l i = false) : mayL l = false := by
  unfold mayL
  have : (List.range l.length).all (okI l) = false := by
    rw [List.all_eq_false]
    exact ⟨i, List.mem_range.2 h, by rw [hk]; decide⟩
  rw [this, Bool.and_false]
theorem mayL_few {l : List Ln} (h : ¬ (2 ≤ l.length ∧ l.length ≤ 8)) : mayL l = false := by
  unfold mayL; rw [decide_eq_false h]; rfl
theorem mayL_yes {l : List Ln} (h : 2 ≤ l.length ∧ l.length ≤ 8) (hk : ∀ i, i < l.length → okI l i = true) : mayL l = true := by
  unfold mayL
  rw [decide_eq_true h, Bool.true_and, List.all_eq_true]
  intro i hi
  exact hk i (List.mem_range.1 hi)
/-- Numbers and texts as a machine has them, no longer than are looked at. -/
def fitL (x : Ln) : Prop := (-9223372036854775808 ≤ x.k ∧ x.k ≤ 9223372036854775807) ∧ x.s.size ≤ 1000 ∧ Mny.Fits x.n

set_option maxRecDepth 20000 in
set_option maxHeartbeats 3200000 in
theorem lines_any (A : Option Addr) (l : List Ln) (c : Nat) (w : World) (hE : Env w) (h : Lns w w.heap.size A l) (hl : l.length ≤ 1000) (hc : l.length ≤ c) (hf : ∀ x ∈ l, fitL x) :
    Calls Tryd.prog 48 #[.slice A l.length c] w fun e w' => e = .returned (.bool (mayL l)) ∧ Below w.heap.size w w' := by
  have HP := Lib.hid h
  have HE := Lib.hid hE
  have HF := Lib.hid hf
  obtain ⟨m, hm⟩ : ∃ m, m = l.length := ⟨_, rfl⟩
  have HM := Lib.hid hm
  have HN := Lib.hid (fun i (h : i < l.length) (hk : okI l i = false) => mayL_no h hk)
  have HFW := Lib.hid (fun (h : ¬ (2 ≤ l.length ∧ l.length ≤ 8)) => mayL_few h)
  have HY := Lib.hid (fun (h : 2 ≤ l.length ∧ l.length ≤ 8) (hk : ∀ i, i < l.length → okI l i = true) => mayL_yes h hk)
  rw [← hm] at hl hc HFW ⊢
  clear h hE hf hm
  generalize mayL l = R at *
  by_cases h2 : m < 2
  · have h2' : (m : Int) < 2 := by omega
    have HR := Lib.hid (HFW.out (by omega))
    go_enter Tryd.func48, Tryd.ntmps48
    go_wp2_with fail
    go_ret
    exact ⟨retb HR.out.symm, Below.refl _ _⟩
  have h2' : ¬ (m : Int) < 2 := by omega
  by_cases h8 : 8 < m
  · have h8' : (8 : Int) < m := by omega
    have HR := Lib.hid (HFW.out (by omega))
    go_enter Tryd.func48, Tryd.ntmps48
    go_wp2_with fail
    go_ret
    exact ⟨retb HR.out.symm, Below.refl _ _⟩
  have h8' : ¬ (8 : Int) < m := by omega
  go_enter Tryd.func48, Tryd.ntmps48
  go_wp2_with fail
  go_loopw [16] (fun i wr => ∃ k : Nat, k ≤ m ∧ i = .int .i64 k ∧ Hid (∀ j, j < k → okI l j = true) ∧ Hid (Below w.heap.size w wr)) (fun i _ => m - (intOf i).toNat)
  case atStart => exact ⟨0, Nat.zero_le _, rfl, fun j h => absurd h (Nat.not_lt_zero _), Below.refl _ _⟩
  case round =>
    obtain ⟨k, hk, rfl, HR, HB⟩ := hrel
    have hwr := HB.out.size
    by_cases hlt : k < m
    · have hlt' : k < l.length := by rw [← HM.out]; exact hlt
      obtain ⟨b0, o0, rfl, hb1, z1, z2, z3⟩ := HP.out k hlt'
      have q1 := (HB.out.cell (p := ⟨b0, o0 + k * 3, none⟩) hb1).trans z1
      have q2 := (HB.out.cell (p := ⟨b0, o0 + k * 3 + 1, none⟩) hb1).trans z2
      have q3 := (HB.out.cell (p := ⟨b0, o0 + k * 3 + 2, none⟩) hb1).trans z3
      obtain ⟨⟨f1, f2⟩, f3, f4⟩ := HF.out _ (List.getElem_mem hlt')
      have HK := Lib.hid (fun (W : World) (hb : Below w.heap.size w W) => mayP_any l[k].k l[k].s W (HE.out.below hb) f3 f1 f2)
      have HC := Lib.hid (fun (W : World) (hb : Below w.heap.size w W) (p : Nat) (h0 : W.cell? ⟨p, 0, none⟩ = some (.int .i64 l[k].k)) (h1 : W.cell? ⟨p, 1, none⟩ = some (.string l[k].s)) (hp : p < W.heap.size) => has_any (some ⟨b0, o0, none⟩) l k c p l[k] W ((HP.out.below hb (Nat.le_refl _)).more hb.size) (Nat.le_of_lt hlt') (by rw [← HM.out]; exact hl) h0 h1 hp)
      have HO := Lib.hid (okI_at hlt')
      have HN1 := Lib.hid (HN.out k hlt')
      have HX : Hid (okI l k = true → ∀ j, j < k + 1 → okI l j = true) := fun h9 j hj => by
        rcases Nat.lt_or_ge j k with h | h
        · exact HR.out j h
        · obtain rfl : j = k := by omega
          exact h9
      have hki : (k : Int) < m := by omega
      obtain ⟨W2, hW2⟩ : ∃ W2, W2 = wr.alloc (.cells #[.int .i64 l[k].k, .string l[k].s, .int .i64 l[k].n] 44) := ⟨_, rfl⟩
      have HB2 : Hid (Below w.heap.size w W2) := by rw [hW2]; exact HB.out.alloc hwr _
      have e0 : W2.cell? ⟨wr.heap.size, 0, none⟩ = some (.int .i64 l[k].k) := by rw [hW2]; exact World.cell?_alloc_new _ _ _ _
      have e1 : W2.cell? ⟨wr.heap.size, 1, none⟩ = some (.string l[k].s) := by rw [hW2]; exact World.cell?_alloc_new _ _ _ _
      have e2 : W2.cell? ⟨wr.heap.size, 2, none⟩ = some (.int .i64 l[k].n) := by rw [hW2]; exact World.cell?_alloc_new _ _ _ _
      have hz : wr.heap.size < W2.heap.size := by rw [hW2]; simp
      have HW2 := Lib.hid hW2
      clear z1 z2 z3 hW2 f1 f2 f3 f4
      generalize okI l k = ok at HO HN1 HX
      generalize (l.take k).any (fun x => sameA x l[k]) = du at HC HO
      generalize mayA l[k].k l[k].s = ma at HK HO
      generalize l[k] = y at *
      go_upto_region 6 with fail
      rw [← HW2.out]
      clear HW2 q1 q2 q3
      go_wp2_with fail
      refine (HK.out _ HB2.out).mono ?_
      rintro e w3 ⟨rfl, hb3⟩
      have g0 := (hb3.cell (p := ⟨wr.heap.size, 0, none⟩) hz).trans e0
      have g1 := (hb3.cell (p := ⟨wr.heap.size, 1, none⟩) hz).trans e1
      have g2 := (hb3.cell (p := ⟨wr.heap.size, 2, none⟩) hz).trans e2
      have hz3 : wr.heap.size < w3.heap.size := Nat.lt_of_lt_of_le hz hb3.size
      have HB3 := Lib.hid (HB2.out.trans (hb3.mono (by omega)))
      clear hb3 e0 e1 e2
      cases ma with
      | false =>
        have HRR := Lib.hid (HN1.out (by rw [HO.out]; rfl))
        go_wp2_with fail
        go_ret
        exact ⟨retb HRR.out.symm, HB3.out⟩
      | true =>
        by_cases hn : y.n = 0
        · have hn' : (y.n == 0) = true := by simpa using hn
          have HRR := Lib.hid (HN1.out (by rw [HO.out, hn']; rfl))
          clear hn
          go_wp2_with fail
          go_ret
          exact ⟨retb HRR.out.symm, HB3.out⟩
        · have hn' : (y.n == 0) = false := by simpa using hn
          rw [hn'] at HO
          have HCC := Lib.hid (HC.out _ HB3.out wr.heap.size g0 g1 hz3)
          clear hn HC HK
          go_wp2_with fail
          refine HCC.out.mono ?_
          rintro e w4 ⟨rfl, hb4⟩
          have HB4 := Lib.hid (HB3.out.trans (hb4.mono (by omega)))
          clear hb4 g0 g1 g2
          cases du with
          | true =>
            have HRR := Lib.hid (HN1.out (by rw [HO.out]; rfl))
            go_wp2_with fail
            go_ret
            exact ⟨retb HRR.out.symm, HB4.out⟩
          | false =>
            have HXX := Lib.hid (HX.out (by rw [HO.out]; rfl))
            go_wp2_with fail
            go_roundw
            case rel => exact ⟨k + 1, by omega, by go_num, HXX.out, HB4.out⟩
            case measure => simp [intOf]; omega
    · obtain rfl : k = m := by omega
      have HRR := Lib.hid (HY.out (by rw [← HM.out]; omega) (by rw [← HM.out]; exact HR.out))
      go_wp2_with fail
      go_ret
      exact ⟨retb HRR.out.symm, HB.out⟩
end Go.Proofs.YtejdhemnlcbffaaDoor.Ent
