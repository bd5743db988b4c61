/- Contract: what is wrong with an entry, as the document reckons it. Conditions: none. -/
import Derived.Test.YtejdhemnlcbffaaDoorE4
import Derived.Deep.QuietTactic
import Derived.BigQuiet
namespace Go.Proofs.YtejdhemnlcbffaaDoor.Ent
open Go.RowKit Cht
open Mny (Fits vOf eOf okB vOf_t vOf_f okB_t okB_f Ints AllFit)

theorem mayR_long {r : ByteArray} (h : ¬ r.size ≤ 20) : mayR r = false := by unfold mayR; rw [decide_eq_false h]; rfl
theorem mayR_short {r : ByteArray} (h : r.size ≤ 20) : mayR r = r.data.toList.all rB := by unfold mayR; rw [decide_eq_true h]; rfl
theorem okI_name {l : List Ln} {i : Nat} (h : i < l.length) (hm : mayA l[i].k l[i].s = false) : okI l i = false := by rw [okI_at h, hm]; rfl
theorem okI_zero {l : List Ln} {i : Nat} (h : i < l.length) (hn : l[i].n = 0) : okI l i = false := by
  rw [okI_at h, hn]; cases mayA l[i].k l[i].s <;> rfl
theorem okI_dup {l : List Ln} {i j : Nat} (h : i < l.length) (hj : j < i) (hs : sameA (l[j]'(by omega)) l[i] = true) : okI l i = false := by
  rw [okI_at h]
  have : (l.take i).any (fun x => sameA x l[i]) = true := by
    rw [List.any_eq_true]
    exact ⟨l[j]'(by omega), List.mem_take_iff_getElem.2 ⟨j, by omega, rfl⟩, hs⟩
  rw [this]; simp
theorem okI_good {l : List Ln} {i : Nat} (h : i < l.length) (hm : mayA l[i].k l[i].s = true) (hn : ¬ l[i].n = 0) (hd : ∀ j, (hj : j < i) → sameA (l[j]'(by omega)) l[i] = false) : okI l i = true := by
  rw [okI_at h, hm]
  have h1 : (l[i].n == 0) = false := by simpa using hn
  have h2 : (l.take i).any (fun x => sameA x l[i]) = false := by
    rw [List.any_eq_false]
    intro x hx
    obtain ⟨j, hj, rfl⟩ := List.mem_take_iff_getElem.1 hx
    rw [hd j (by omega)]; decide
  rw [h1, h2]; rfl

theorem own_below {w w' : World} {B e size n : Nat} {v : Value} {xs : List Value} (h : w.ownsRow B e size v n xs) (hb : Below w.heap.size w w') : w'.ownsRow B e size v n xs := by
  refine ⟨h.1, ?_⟩
  rcases h.2 with hh | ⟨g, cap, cur, e1, h1, h2, h3⟩
  · exact .inl hh
  · exact .inr ⟨g, cap, cur, e1, h1, (hb.block g (Array.getElem?_eq_some_iff.1 h2).1).trans h2, h3⟩
theorem same_yes {x y : Ln} (h : sameA x y = true) : x.k = y.k ∧ x.s = y.s := by
  unfold sameA at h
  simp only [Bool.and_eq_true, beq_iff_eq] at h
  refine ⟨h.1, ?_⟩
  apply ByteArray.ext
  apply Array.toList_inj.1
  have := h.2
  rwa [ByteArray.toList_eq, ByteArray.toList_eq] at this
theorem same_no {x y : Ln} (h : sameA x y = false) : ¬ x.k = y.k ∨ (x.k = y.k ∧ ¬ x.s.toList = y.s.toList) := by
  unfold sameA at h
  by_cases h1 : x.k = y.k
  · refine .inr ⟨h1, fun h2 => ?_⟩
    rw [h1, h2] at h
    simp at h
  · exact .inl h1
theorem amts_snoc {l : List Ln} {k : Nat} (h : k < l.length) : amts (l.take (k + 1)) = amts (l.take k) ++ [l[k].n] := by
  rw [List.take_succ_eq_append_getElem h]
  exact List.map_append
theorem drewB {B : Nat} {a w : World} (h : Below B a w) (n : Nat) : Below B a (w.drewN n) := ⟨h.os, h.tape, h.output, h.size, h.block⟩
/-- What the cells of one line hold. -/
structure At (w : World) (b o k : Nat) (x : Ln) : Prop where
  c0 : w.cell? ⟨b, o + k * 3, none⟩ = some (.int .i64 x.k)
  c1 : w.cell? ⟨b, o + k * 3 + 1, none⟩ = some (.string x.s)
  c2 : w.cell? ⟨b, o + k * 3 + 2, none⟩ = some (.int .i64 x.n)
theorem At.below {w w' : World} {b o k B : Nat} {x : Ln} (h : At w b o k x) (hb : Below B w w') (hB : b < B) : At w' b o k x :=
  ⟨(hb.cell (p := ⟨b, o + k * 3, none⟩) hB).trans h.c0, (hb.cell (p := ⟨b, o + k * 3 + 1, none⟩) hB).trans h.c1, (hb.cell (p := ⟨b, o + k * 3 + 2, none⟩) hB).trans h.c2⟩

set_option maxRecDepth 100000 in
set_option maxHeartbeats 6400000 in
theorem rcheck_any (b : Int) (r : ByteArray) (A : Option Addr) (l : List Ln) (c : Nat) (w : World) (h : Lns w w.heap.size A l) (hl : l.length ≤ 1000) (hr1 : r.size ≤ 1000) (hf : ∀ x ∈ l, fitL x) :
    Calls Tryd.prog 18 #[.agg #[.int .i64 b, .string r, .slice A l.length c]] w fun e w' => e = .returned (.int .i64 (chk b r l)) ∧ Below w.heap.size w w' := by
  have HP := Lib.hid h
  have HF := Lib.hid hf
  obtain ⟨m, hm⟩ : ∃ m, m = l.length := ⟨_, rfl⟩
  have HM := Lib.hid hm
  have hw0 := Below.refl w.heap.size w
  obtain ⟨w0, hw⟩ : ∃ w0, w0 = w.alloc (.cells #[.int .i64 b, .string r, .slice A m c] 25) := ⟨_, rfl⟩
  have hbx : BoxE w.heap.size b r A m c w0 := by rw [hw]; exact BoxE.new _ _ _ _ _ _
  have hb0 : Below w.heap.size w w0 := by rw [hw]; exact hw0.alloc (Nat.le_refl _) _
  have hz0 : w0.heap.size = w.heap.size + 1 := by rw [hw]; exact World.size_alloc _ _
  have HW := Lib.hid hw
  have HFW := Lib.hid (fun (h : ¬ (2 ≤ l.length ∧ l.length ≤ 8)) => chk_lines (b := b) (r := r) (mayL_few h))
  rw [← hm] at hl HFW ⊢
  clear h hf hm hw0 hw
  by_cases hb1 : b < 0
  · have HR := Lib.hid (chk_batch (r := r) (l := l) (b := b) (by omega))
    obtain ⟨c0, c1, c2, cf⟩ := hbx.cells
    go_enter Tryd.func18, Tryd.ntmps18
    go_upto_region 1 with fail
    rw [← HW.out]
    go_wp2_with fail
    go_ret
    exact ⟨ret1 HR.out.symm, hb0⟩
  by_cases hb2 : 2147483647 < b
  · have HR := Lib.hid (chk_batch (r := r) (l := l) (b := b) (by omega))
    obtain ⟨c0, c1, c2, cf⟩ := hbx.cells
    go_enter Tryd.func18, Tryd.ntmps18
    go_upto_region 1 with fail
    rw [← HW.out]
    go_wp2_with fail
    go_ret
    exact ⟨ret1 HR.out.symm, hb0⟩
  by_cases hr2 : 20 < r.size
  · have HR := Lib.hid (chk_ref (b := b) (l := l) (mayR_long (r := r) (by omega)))
    have hr2' : (20 : Int) < r.size := by omega
    obtain ⟨c0, c1, c2, cf⟩ := hbx.cells
    go_enter Tryd.func18, Tryd.ntmps18
    go_upto_region 1 with fail
    rw [← HW.out]
    go_wp2_with fail
    go_ret
    exact ⟨ret1 HR.out.symm, hb0⟩
  have hr2' : ¬ (20 : Int) < r.size := by omega
  by_cases h2 : m < 2
  · have h2' : (m : Int) < 2 := by omega
    have HR := Lib.hid (HFW.out (by omega))
    obtain ⟨c0, c1, c2, cf⟩ := hbx.cells
    go_enter Tryd.func18, Tryd.ntmps18
    go_upto_region 1 with fail
    rw [← HW.out]
    go_wp2_with fail
    go_ret
    exact ⟨ret1 HR.out.symm, hb0⟩
  have h2' : ¬ (m : Int) < 2 := by omega
  by_cases h8 : 8 < m
  · have h8' : (8 : Int) < m := by omega
    have HR := Lib.hid (HFW.out (by omega))
    obtain ⟨c0, c1, c2, cf⟩ := hbx.cells
    go_enter Tryd.func18, Tryd.ntmps18
    go_upto_region 1 with fail
    rw [← HW.out]
    go_wp2_with fail
    go_ret
    exact ⟨ret1 HR.out.symm, hb0⟩
  have h8' : ¬ (8 : Int) < m := by omega
  have HRR := Lib.hid (fun (h : mayR r = false) => chk_ref (b := b) (l := l) h)
  have HRA := Lib.hid (mayR_short (r := r) (by omega))
  have HLL := Lib.hid (fun (h : mayL l = false) => chk_lines (b := b) (r := r) h)
  have HSS := Lib.hid (fun (h1 : mayR r = true) (h2 : mayL l = true) => chk_sum (b := b) (r := r) (l := l) (by omega) h1 h2)
  have HNL := Lib.hid (fun i (h : i < l.length) (hk : okI l i = false) => mayL_no h hk)
  have HYL := Lib.hid (fun (h : 2 ≤ l.length ∧ l.length ≤ 8) (hk : ∀ i, i < l.length → okI l i = true) => mayL_yes h hk)
  obtain ⟨i0, hi, hzz0, hz1, hz2⟩ := info_parts Mny.info2
  clear HFW
  obtain ⟨c0, c1, c2, cf⟩ := hbx.cells
  go_enter Tryd.func18, Tryd.ntmps18
  go_upto_region 1 with fail
  rw [← HW.out]
  clear HW
  go_wp2_with fail
  go_loop [3] (fun i => ∃ k : Nat, k ≤ r.size ∧ i = .int .i64 k ∧ Hid ((r.data.toList.drop k).all rB = mayR r)) (fun i => r.size - (intOf i).toNat)
  case atStart => exact ⟨0, Nat.zero_le _, rfl, by show _ = _; rw [HRA.out, List.drop_zero]⟩
  case round =>
    obtain ⟨k, hk, rfl, HR⟩ := hrel
    by_cases hlt : k < r.size
    · have hki : (k : Int) < r.size := by omega
      have HA := Lib.hid (at_eq r k hlt)
      have HRB : Hid (rB r[k] = (!decide (r[k].toNat < 33) && !decide (126 < r[k].toNat))) := by
        show _ = _
        unfold rB
        by_cases q1 : r[k].toNat < 33 <;> by_cases q2 : 126 < r[k].toNat <;> simp [q1, q2] <;> omega
      by_cases q1 : r[k].toNat < 33
      · have HX : Hid (chk b r l = 1) := HRR.out (by rw [← HR.out, HA.out, List.all_cons, HRB.out]; simp [q1])
        have q1' : (r[k].toNat : Int) < 33 := by omega
        go_wp2_with fail
        go_ret
        exact ⟨ret1 HX.out.symm, hb0⟩
      · have q1' : ¬ (r[k].toNat : Int) < 33 := by omega
        by_cases q2 : 126 < r[k].toNat
        · have HX : Hid (chk b r l = 1) := HRR.out (by rw [← HR.out, HA.out, List.all_cons, HRB.out]; simp [q2])
          have q2' : (126 : Int) < r[k].toNat := by omega
          go_wp2_with fail
          go_ret
          exact ⟨ret1 HX.out.symm, hb0⟩
        · have q2' : ¬ (126 : Int) < r[k].toNat := by omega
          have HX : Hid ((r.data.toList.drop (k + 1)).all rB = mayR r) := by
            show _ = _
            rw [← HR.out, HA.out, List.all_cons, HRB.out]; simp [q1, q2]
          go_wp2_with fail
          go_round
          case rel => exact ⟨k + 1, by omega, by go_num, HX.out⟩
          case measure => simp [intOf]; omega
    · have hki : ¬ (k : Int) < r.size := by omega
      have HMR : Hid (mayR r = true) := by
        show _ = _
        rw [← HR.out, List.drop_of_length_le (by rw [lsz]; omega)]; rfl
      have HBX := Lib.hid hbx
      have hb0z := hb0.size
      have HB0 := Lib.hid hb0
      clear HR hbx hb0 HRR HRA
      go_wp2_with fail
      clear c0 c1 c2 cf hki
      go_loopw [4, 5] (fun u i wr => ∃ k : Nat, k ≤ m ∧ i = .int .i64 k ∧ Hid (∀ j, j < k → okI l j = true) ∧ Hid (wr.ownsRow (w.heap.size + 1) 2 1 u (amts (l.take k)).length ((amts (l.take k)).map (Value.int .i64))) ∧ Hid (Below w0.heap.size w0 wr)) (fun _ i _ => m - (intOf i).toNat)
      case atStart => exact ⟨0, Nat.zero_le _, rfl, fun j h => absurd h (Nat.not_lt_zero _), World.ownsRow_nil _ _ _ _, Below.refl _ _⟩
      case round =>
        obtain ⟨k, hk, rfl, HR, HU, HB⟩ := hrel
        have hwr := HB.out.size
        have HBX1 : Hid (BoxE w.heap.size b r A m c wr) := HBX.out.below HB.out (by omega)
        obtain ⟨c0, c1, c2, cf⟩ := HBX1.out.cells
        have HLW : Hid (Lns wr w.heap.size A l) := (HP.out.below HB0.out (Nat.le_refl _)).below HB.out (by omega)
        by_cases hlt : k < m
        · have hki : (k : Int) < m := by omega
          have hlt' : k < l.length := by rw [← HM.out]; exact hlt
          obtain ⟨b0, o0, rfl, hb1, z1, z2, z3⟩ := HLW.out k hlt'
          have HAt : Hid (∀ j, (hj : j < l.length) → At wr b0 o0 j l[j]) := fun j hj => by
            obtain ⟨b1, o1, e1, _, y1, y2, y3⟩ := HLW.out j hj
            injection e1 with e1
            injection e1 with e1 e2
            subst e1 e2
            exact ⟨y1, y2, y3⟩
          have hbw : b0 < wr.heap.size := by omega
          obtain ⟨⟨f1, f2⟩, f3, f4⟩ := HF.out _ (List.getElem_mem hlt')
          obtain ⟨q1, q2, q3⟩ := HAt.out k hlt'
          clear z1 z2 z3
          cases hma : mayA l[k].k l[k].s with
          | false =>
            have HNM := Lib.hid (rname_no l[k].k l[k].s wr f3 hma)
            have HX := Lib.hid (HLL.out (HNL.out k hlt' (okI_name hlt' hma)))
            clear hma
            go_wp2_with fail
            refine HNM.out.mono ?_
            rintro e w5 ⟨rfl, hb5⟩
            go_wp2_with fail
            go_ret
            exact ⟨ret1 HX.out.symm, HB0.out.trans ((HB.out.trans (hb5.mono hwr)).mono (by omega))⟩
          | true =>
            have HNM := Lib.hid (rname_ok l[k].k l[k].s wr f3 hma)
            have HMA := Lib.hid hma
            clear hma
            go_wp2_with fail
            refine HNM.out.mono ?_
            rintro e w5 ⟨rfl, hb5⟩
            have hw5 := hb5.size
            have HB5 := Lib.hid (HB.out.trans (hb5.mono hwr))
            have HBX5 : Hid (BoxE w.heap.size b r (some ⟨b0, o0, none⟩) m c w5) := HBX1.out.below hb5 (by omega)
            have HAt5 : Hid (∀ j, (hj : j < l.length) → At w5 b0 o0 j l[j]) := fun j hj => (HAt.out j hj).below hb5 hbw
            have HU5 := Lib.hid (own_below HU.out hb5)
            clear c0 c1 c2 cf q1 q2 q3 hb5 HNM HU HBX1 HLW
            obtain ⟨c0, c1, c2, cf⟩ := HBX5.out.cells
            obtain ⟨q1, q2, q3⟩ := HAt5.out k hlt'
            by_cases hn : l[k].n = 0
            · have HX := Lib.hid (HLL.out (HNL.out k hlt' (okI_zero hlt' hn)))
              rw [hn] at q3
              clear hn
              go_wp2_with fail
              go_ret
              exact ⟨ret1 HX.out.symm, HB0.out.trans (HB5.out.mono (by omega))⟩
            · have hn' : (l[k].n == 0) = false := by simpa using hn
              have HN := Lib.hid hn
              clear hn
              go_wp2_with fail
              clear c0 c1 c2 cf q1 q2 q3
              have hkl : k ≤ 1000 := by omega
              obtain ⟨wo, rfl⟩ : ∃ y, y = wr := ⟨wr, rfl⟩
              go_loopw [8] (fun i wr => ∃ q : Nat, q ≤ k ∧ i = .int .i64 q ∧ Hid (∀ j, (hj : j < q) → (hjl : j < l.length) → sameA l[j] l[k] = false) ∧ Hid (Below w5.heap.size w5 wr)) (fun i _ => k - (intOf i).toNat)
              case atStart => exact ⟨0, Nat.zero_le _, rfl, fun j h => absurd h (Nat.not_lt_zero _), Below.refl _ _⟩
              case round =>
                obtain ⟨q, hq, rfl, HD, HBq⟩ := hrel
                have hwq := HBq.out.size
                have HBXq : Hid (BoxE w.heap.size b r (some ⟨b0, o0, none⟩) m c wr) := HBX5.out.below HBq.out (by omega)
                have HAtq : Hid (∀ j, (hj : j < l.length) → At wr b0 o0 j l[j]) := fun j hj => (HAt5.out j hj).below HBq.out (by omega)
                have HB6 := Lib.hid (HB5.out.trans (HBq.out.mono (by omega)))
                obtain ⟨c0, c1, c2, cf⟩ := HBXq.out.cells
                by_cases hqk : q < k
                · have hqi : (q : Int) < k := by omega
                  have hql : q < l.length := by omega
                  have hqm : (q : Int) < m := by omega
                  obtain ⟨p1, p2, p3⟩ := HAtq.out q hql
                  obtain ⟨q1, q2, q3⟩ := HAtq.out k hlt'
                  cases hs : sameA l[q] l[k] with
                  | true =>
                    have HX := Lib.hid (HLL.out (HNL.out k hlt' (okI_dup hlt' hqk hs)))
                    obtain ⟨e1, e2⟩ := same_yes hs
                    rw [e1] at p1
                    rw [e2] at p2
                    clear hs e1 e2
                    go_wp2_with fail
                    go_quiet (fail)
                    go_wp2_with fail
                    go_ret
                    exact ⟨ret1 HX.out.symm, HB0.out.trans ((drewB HB6.out _).mono (by omega))⟩
                  | false =>
                    have HX : Hid (∀ j, (hj : j < q + 1) → (hjl : j < l.length) → sameA l[j] l[k] = false) := fun j hj hjl => by
                      rcases Nat.lt_or_ge j q with h | h
                      · exact HD.out j h hjl
                      · obtain rfl : j = q := by omega
                        exact hs
                    rcases same_no hs with e1 | ⟨e1, e2⟩
                    · clear hs
                      go_wp2_with fail
                      go_quiet (fail)
                      go_wp2_with fail
                      go_roundw
                      case rel => exact ⟨q + 1, by omega, by go_num, HX.out, drewB HBq.out _⟩
                      case measure => simp [intOf]; omega
                    · rw [e1] at p1
                      clear hs e1
                      go_wp2_with fail
                      go_quiet (fail)
                      go_wp2_with fail
                      go_roundw
                      case rel => exact ⟨q + 1, by omega, by go_num, HX.out, drewB HBq.out _⟩
                      case measure => simp [intOf]; omega
                · obtain rfl : q = k := by omega
                  have HOK : Hid (okI l q = true) := okI_good hlt' HMA.out HN.out (fun j hj => HD.out j hj (by omega))
                  have HRn : Hid (∀ j, j < q + 1 → okI l j = true) := fun j hj => by
                    rcases Nat.lt_or_ge j q with h | h
                    · exact HR.out j h
                    · obtain rfl : j = q := by omega
                      exact HOK.out
                  have HTk := Lib.hid (amts_snoc hlt')
                  have hU6 := own_below HU5.out HBq.out
                  obtain ⟨q1, q2, q3⟩ := HAtq.out q hlt'
                  have htl : (amts (l.take q)).length ≤ 1000 := by rw [List.length_map, List.length_take]; omega
                  generalize amts (l.take q) = am at *
                  clear hqk
                  go_wp2_with (at_builtin; refine wpList_append_own_at _ rfl (.tmp 102) (.tmp 109) 56 rfl (w.heap.size + 1) 2 i0 (.int .i64 0) 1 8 Tryd.underlying56 hi hzz0 hz1 hz2 rfl (by decide) _ _ _ rfl (hU6.alloc _) ⟨wr.heap.size, 0, none⟩ 1 1 [.int .i64 l[q].n] rfl rfl (cell_one_new _ _ _) (Mny.one_int _) ?c1 ?c2 ?c3 ?_)
                  case c1 => unfold maxLen; omega
                  case c2 => omega
                  case c3 => first | omega | (simp; omega)
                  intro v' w7 hu7 hg7 _ _
                  have HB7 : Hid (Below w0.heap.size w0 w7) := (HB6.out.alloc (by omega) _).grown hg7 (by simp; omega) (fun j hj => by have := (hU6.lt j hj).1; omega)
                  have HU7 : Hid (w7.ownsRow (w.heap.size + 1) 2 1 v' (amts (l.take (q + 1))).length ((amts (l.take (q + 1))).map (Value.int .i64))) := by
                    show World.ownsRow _ _ _ _ _ _ _
                    rw [HTk.out]; simpa using hu7
                  clear hu7 hg7 hU6 c0 c1 c2 cf q1 q2 q3 htl
                  go_wp2_with fail
                  go_roundw
                  case rel => exact ⟨q + 1, by omega, by go_num, HRn.out, HU7.out, HB7.out⟩
                  case measure => simp [intOf]; omega
        · obtain rfl : k = m := by omega
          have HML : Hid (mayL l = true) := HYL.out (by rw [← HM.out]; omega) (by rw [← HM.out]; exact HR.out)
          have HCK := Lib.hid (HSS.out HMR.out HML.out)
          have hown := HU.out
          rw [show l.take k = l by rw [HM.out, List.take_length]] at hown
          obtain ⟨A2, c2', rfl, HI⟩ := ints_of hown
          have HSm := Lib.hid (Mny.rsum_any A2 (amts l) c2' wr HI (amts_fit HF.out) (by rw [List.length_map, ← HM.out]; omega))
          have HQ : Hid (sumL l = (amts l).sum) := rfl
          rw [← HQ.out] at HSm
          obtain ⟨k2, hk2⟩ : ∃ k2, k2 = (amts l).length := ⟨_, rfl⟩
          rw [← hk2] at HSm ⊢
          clear HI hown hk2 HU
          go_wp2_with fail
          refine HSm.out.mono ?_
          rintro e w5 ⟨rfl, hb5⟩
          have HBF : Hid (Below w.heap.size w w5) := HB0.out.trans ((HB.out.trans (hb5.mono hwr)).mono (by omega))
          clear hb5
          by_cases hfit : Fits (sumL l)
          · rw [vOf_t hfit, okB_t hfit]
            by_cases h0 : sumL l = 0
            · have HX : Hid (chk b r l = 0) := by show _ = _; rw [HCK.out, if_neg (not_not_intro hfit), if_pos h0]
              rw [h0]
              go_wp2_with fail
              go_ret
              exact ⟨ret1 HX.out.symm, HBF.out⟩
            · have HX : Hid (chk b r l = 12) := by show _ = _; rw [HCK.out, if_neg (not_not_intro hfit), if_neg h0]
              have h0' : (sumL l != 0) = true := by simpa using h0
              clear h0
              go_wp2_with fail
              go_ret
              exact ⟨ret1 HX.out.symm, HBF.out⟩
          · have HX : Hid (chk b r l = 2) := by show _ = _; rw [HCK.out, if_pos hfit]
            rw [vOf_f hfit, okB_f hfit]
            go_wp2_with fail
            go_ret
            exact ⟨ret1 HX.out.symm, HBF.out⟩
end Go.Proofs.YtejdhemnlcbffaaDoor.Ent
