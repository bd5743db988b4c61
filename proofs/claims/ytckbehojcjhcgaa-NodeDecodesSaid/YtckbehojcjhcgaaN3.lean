/- Contracts: isLeaf, isInner, May. -/
import Derived.Test.YtckbehojcjhcgaaN2
namespace Go.Proofs.Ytckbehojcjhcgaa.Nod
open Go.RowKit Crc Chk Frm Fra

theorem alloc_size (w : World) (o : Obj) : (w.alloc o).heap.size = w.heap.size + 1 := Array.size_push _
theorem below_box {w w1 : World} {o : Obj} (h : Below (w.alloc o).heap.size (w.alloc o) w1) : Below w.heap.size w w1 := ((Below.refl _ _).alloc (Nat.le_refl _) o).trans (h.mono (by rw [alloc_size]; omega))
theorem Prs.more {w : World} {B B' : Nat} {A : Option Addr} {l : List (T × T)} (h : Prs w B A l) (hB : B ≤ B') : Prs w B' A l := fun i hi => by
  obtain ⟨b, o, e, h1, h2⟩ := h i hi
  exact ⟨b, o, e, by omega, h2⟩
theorem Txs.more {w : World} {B B' : Nat} {A : Option Addr} {l : List T} (h : Txs w B A l) (hB : B ≤ B') : Txs w B' A l := fun i hi => by
  obtain ⟨b, o, e, h1, h2⟩ := h i hi
  exact ⟨b, o, e, by omega, h2⟩
theorem Kds.more {w : World} {B B' : Nat} {A : Option Addr} {l : List Int} (h : Kds w B A l) (hB : B ≤ B') : Kds w B' A l := fun i hi => by
  obtain ⟨b, o, e, h1, h2⟩ := h i hi
  exact ⟨b, o, e, by omega, h2⟩
theorem IsN.more {w : World} {B B' : Nat} {n : Nd} {A1 : Option Addr} {n1 c1 : Nat} {A2 : Option Addr} {n2 c2 : Nat} {A3 : Option Addr} {n3 c3 : Nat} (h : IsN w B n A1 n1 c1 A2 n2 c2 A3 n3 c3) (hB : B ≤ B') : IsN w B' n A1 n1 c1 A2 n2 c2 A3 n3 c3 :=
  ⟨h.ps.more hB, h.ks.more hB, h.cs.more hB, h.l1, h.l2, h.l3, h.r1, h.r2, h.r3, h.m1, h.m2, h.m3⟩
theorem mk_func (fn : Fn) (first cap : Array Value) (w : World) : (Instr.makeFunc fn first cap).run Try.prog w = .ok (.func fn first cap) w := rfl
theorem all_not {l : List (T × T)} : (l.all fun p => valB p.2) = !l.any badP := by
  rw [Bool.eq_iff_iff]; simp [badP]
theorem leaf_parts {n : Nd} {n1 n2 : Nat} (h1 : n.ps.length = n1) (h2 : n.ks.length = n2) : leafB n = (decide (n2 = 0) && (decide (n1 ≤ 5) && ((!n.ps.any badP) && riseB (n.ps.map (·.1))))) := by
  unfold leafB
  rw [all_not, h1, h2]
set_option maxHeartbeats 1600000 in
theorem leaf_any (n : Nd) (A1 : Option Addr) (n1 c1 : Nat) (A2 : Option Addr) (n2 c2 : Nat) (A3 : Option Addr) (n3 c3 : Nat) (w : World) (h : IsN w w.heap.size n A1 n1 c1 A2 n2 c2 A3 n3 c3) :
    Calls Try.prog 23 #[nv A1 n1 c1 A2 n2 c2 A3 n3 c3] w fun e w' => e = .returned (.bool (leafB n)) ∧ Below w.heap.size w w' := by
  have HE := Lib.hid (leaf_parts h.l1 h.l2)
  have hl1 := h.l1
  have hm1 := h.m1
  have hm2 := h.m2
  obtain ⟨W0, hW0⟩ : ∃ W0, W0 = w.alloc (.cells #[.slice A1 n1 c1, .slice A2 n2 c2, .slice A3 n3 c3] 26) := ⟨_, rfl⟩
  have HF : Hid (BoxN w.heap.size A1 n1 c1 A2 n2 c2 A3 n3 c3 W0) := by rw [hW0]; exact boxN_new w ..
  have HB0 : Hid (Below w.heap.size w W0) := by rw [hW0]; exact (Below.refl _ _).alloc (Nat.le_refl _) _
  have hz0 : w.heap.size < W0.heap.size := by rw [hW0, alloc_size]; omega
  have hP0 : Prs W0 W0.heap.size A1 n.ps := by
    intro i hi
    obtain ⟨b, o, e, hb, h2⟩ := (h.ps.below HB0.out (Nat.le_refl _)) i hi
    exact ⟨b, o, e, by omega, h2⟩
  have HX := Lib.hid (hasP_any A1 n.ps n1 c1 W0 hP0 hl1 hm1)
  have HY : Hid (∀ W, Below W0.heap.size W0 W → Calls Try.prog 38 #[.int .i64 n1, .func (.func 39) #[] #[.pointer (some ⟨w.heap.size, 0, none⟩)]] W fun e w' => e = .returned (.bool (riseB (n.ps.map (·.1)))) ∧ W = w') := fun W hW => by
    have hc := (HF.out.below hW hz0).cells.1
    have hp := hP0.below hW (Nat.le_refl _)
    exact rise39_any w.heap.size (n.ps.map (·.1)) n1 W (by simpa using hl1) hm1 (fun i hi => by
      have hi' : i < n.ps.length := by simpa using hi
      rw [List.getElem_map]
      exact pkey_any w.heap.size i n.ps A1 n1 c1 W W0.heap.size hl1 hp hc hi')
  have HW0 := Lib.hid hW0
  obtain ⟨b, hb⟩ : ∃ b, b = leafB n := ⟨_, rfl⟩
  obtain ⟨x, hx⟩ : ∃ x, x = n.ps.any badP := ⟨_, rfl⟩
  obtain ⟨y, hy⟩ : ∃ y, y = riseB (n.ps.map (·.1)) := ⟨_, rfl⟩
  rw [← hb, ← hx, ← hy] at HE
  rw [← hb]
  rw [← hx] at HX
  rw [← hy] at HY
  have hmf := mk_func
  clear hb hx hy h hl1 hP0 hW0
  obtain ⟨k0, k1, k2, -⟩ := HF.out.cells
  by_cases h2 : n2 = 0
  · subst h2
    by_cases h1 : n1 ≤ 5
    · have h1' : decide (n1 ≤ 5) = true := decide_eq_true h1
      rw [h1'] at HE
      clear h1'
      go_enter Try.func23, Try.ntmps23
      go_wp2_with fail
      rw [← HW0.out]
      go_wp2_with fail
      refine HX.out.mono ?_
      rintro e w1 ⟨rfl, hb1⟩
      have HB1 : Hid (Below W0.heap.size W0 w1) := hb1
      have HBw := Lib.hid (HB0.out.trans (hb1.mono HB0.out.size))
      obtain ⟨j0, -, -, -⟩ := (HF.out.below hb1 hz0).cells
      clear hb1 k0 k1 k2
      cases x with
      | true =>
        go_wp2_with fail
        go_ret
        exact ⟨retb (by rw [HE.out]; rfl), HBw.out⟩
      | false =>
        go_wp2_with fail
        refine (HY.out _ HB1.out).mono ?_
        rintro e w2 ⟨rfl, rfl⟩
        go_wp2_with fail
        go_ret
        exact ⟨retb (by rw [HE.out]; rfl), HBw.out⟩
    · have h1' : decide (n1 ≤ 5) = false := decide_eq_false h1
      rw [h1'] at HE
      clear h1'
      go_enter Try.func23, Try.ntmps23
      go_wp2_with fail
      rw [← HW0.out]
      go_wp2_with fail
      go_ret
      exact ⟨retb (by rw [HE.out]; rfl), HB0.out⟩
  · have h2' : decide (n2 = 0) = false := decide_eq_false h2
    rw [h2'] at HE
    clear h2'
    go_enter Try.func23, Try.ntmps23
    go_wp2_with fail
    rw [← HW0.out]
    go_wp2_with fail
    go_ret
    exact ⟨retb (by rw [HE.out]; rfl), HB0.out⟩
def kidAt (l : List Int) (i : Nat) : Bool := (decide (0 ≤ l.getD i 0) && decide (l.getD i 0 < 200)) && !(l.take i).contains (l.getD i 0)
theorem kids_eq (l : List Int) : kidsB l = (List.range l.length).all (kidAt l) := rfl
theorem inner_parts {n : Nd} {n1 n2 n3 : Nat} (h1 : n.ps.length = n1) (h2 : n.ks.length = n2) (h3 : n.cs.length = n3) : innerB n = ((decide (n1 = 0) && (decide (2 ≤ n3) && (decide (n3 ≤ 8) && decide (n2 + 1 = n3)))) && (kidsB n.cs && riseB n.ks)) := by
  unfold innerB
  rw [h1, h2, h3]
set_option maxHeartbeats 3200000 in
theorem inner_any (n : Nd) (A1 : Option Addr) (n1 c1 : Nat) (A2 : Option Addr) (n2 c2 : Nat) (A3 : Option Addr) (n3 c3 : Nat) (w : World) (h : IsN w w.heap.size n A1 n1 c1 A2 n2 c2 A3 n3 c3) :
    Calls Try.prog 24 #[nv A1 n1 c1 A2 n2 c2 A3 n3 c3] w fun e w' => e = .returned (.bool (innerB n)) ∧ Below w.heap.size w w' := by
  have HE := Lib.hid (inner_parts h.l1 h.l2 h.l3)
  have HL := Lib.hid h.l3
  have hl2 := h.l2
  have hm1 := h.m1
  have hm2 := h.m2
  have hm3 := h.m3
  have hr3 := h.r3
  obtain ⟨W0, hW0⟩ : ∃ W0, W0 = w.alloc (.cells #[.slice A1 n1 c1, .slice A2 n2 c2, .slice A3 n3 c3] 26) := ⟨_, rfl⟩
  have HF : Hid (BoxN w.heap.size A1 n1 c1 A2 n2 c2 A3 n3 c3 W0) := by rw [hW0]; exact boxN_new w ..
  have HB0 : Hid (Below w.heap.size w W0) := by rw [hW0]; exact (Below.refl _ _).alloc (Nat.le_refl _) _
  have hz0 : w.heap.size < W0.heap.size := by rw [hW0, alloc_size]; omega
  have HKd : Hid (Kds W0 W0.heap.size A3 n.cs) := by
    intro i hi
    obtain ⟨b, o, e, hb, h2⟩ := (h.cs.below HB0.out (Nat.le_refl _)) i hi
    exact ⟨b, o, e, by omega, h2⟩
  have hks : Txs W0 W0.heap.size A2 n.ks := by
    intro i hi
    obtain ⟨b, o, e, hb, h2⟩ := (h.ks.below HB0.out (Nat.le_refl _)) i hi
    exact ⟨b, o, e, by omega, h2⟩
  obtain ⟨k0, k1, k2, -⟩ := HF.out.cells
  have HY : Hid (Calls Try.prog 38 #[.int .i64 n2, .func (.func 41) #[] #[.pointer (some ⟨w.heap.size, 0, none⟩)]] W0 fun e w' => e = .returned (.bool (riseB n.ks)) ∧ W0 = w') :=
    rise41_any w.heap.size n.ks n2 W0 hl2 hm2 (fun i hi => ikey_any w.heap.size i n.ks A2 n2 c2 W0 W0.heap.size hl2 hks k1 hi)
  have HW0 := Lib.hid hW0
  have hmf := mk_func
  obtain ⟨b, hb⟩ : ∃ b, b = innerB n := ⟨_, rfl⟩
  obtain ⟨y, hy⟩ : ∃ y, y = riseB n.ks := ⟨_, rfl⟩
  obtain ⟨cs, hcs⟩ : ∃ cs, cs = n.cs := ⟨_, rfl⟩
  rw [← hb, ← hy, ← hcs] at HE
  rw [← hb]
  rw [← hy] at HY
  rw [← hcs] at HKd HL
  clear hb hy h hl2 hks hW0 hcs
  by_cases g1 : n1 = 0
  · subst g1
    by_cases g2 : 2 ≤ n3
    · by_cases g3 : n3 ≤ 8
      · by_cases g4 : n2 + 1 = n3
        · have HE2 : Hid (b = (kidsB cs && y)) := by
            show _ = _
            rw [HE.out, decide_eq_true g2, decide_eq_true g3, decide_eq_true g4]; rfl
          clear HE
          have g5 : (n3 : Int) - 1 = n2 := by omega
          go_enter Try.func24, Try.ntmps24
          go_wp2_with fail
          rw [← HW0.out]
          go_wp2_with fail
          go_loop [34] (fun i => ∃ k : Nat, k ≤ n3 ∧ i = .int .i64 k ∧ Hid ((List.range k).all (kidAt cs) = true)) (fun i => n3 - (intOf i).toNat)
          case atStart => exact ⟨0, Nat.zero_le _, rfl, rfl⟩
          case round =>
            obtain ⟨k, hk, rfl, HR⟩ := hrel
            by_cases hlt : k < n3
            · have hlt' : k < cs.length := by rw [HL.out]; exact hlt
              obtain ⟨b0, o0, rfl, hb1, hc, hr1, hr2⟩ := HKd.out k hlt'
              have HA : Hid (kidAt cs k = ((decide (0 ≤ cs[k]) && decide (cs[k] < 200)) && !(cs.take k).contains cs[k])) := by
                show _ = _
                unfold kidAt
                rw [getD_at cs 0 k hlt']
              have HT := Lib.hid (hasK_any (some ⟨b0, o0, none⟩) (cs.take k) k c3 cs[k] W0 (HKd.out.take k) (by rw [List.length_take]; omega) (by omega))
              have HYs : Hid (kidAt cs k = true → (List.range (k + 1)).all (kidAt cs) = true) := fun h => by rw [all_range_succ, HR.out, h]; rfl
              have HNo : Hid (kidAt cs k = false → b = false) := fun h => by rw [HE2.out, kids_eq, all_range_no (by rw [HL.out]; exact hlt) h]; rfl
              obtain ⟨a, ha⟩ : ∃ a, a = cs[k] := ⟨_, rfl⟩
              obtain ⟨x, hx⟩ : ∃ x, x = (cs.take k).contains cs[k] := ⟨_, rfl⟩
              rw [← hx, ← ha] at HT
              rw [← hx, ← ha] at HA
              rw [← ha] at hc hr1 hr2
              clear ha hx hlt'
              by_cases q1 : 0 ≤ a
              · by_cases q2 : a < 200
                · rw [decide_eq_true q1, decide_eq_true q2] at HA
                  cases x with
                  | true =>
                    go_wp2_with fail
                    refine HT.out.mono ?_
                    rintro e w1 ⟨rfl, rfl⟩
                    go_wp2_with fail
                    go_ret
                    exact ⟨retb (HNo.out HA.out).symm, HB0.out⟩
                  | false =>
                    go_wp2_with fail
                    refine HT.out.mono ?_
                    rintro e w1 ⟨rfl, rfl⟩
                    go_wp2_with fail
                    go_round
                    case rel => exact ⟨k + 1, by omega, by go_num, HYs.out HA.out⟩
                    case measure => simp [intOf]; omega
                · rw [decide_eq_true q1, decide_eq_false q2] at HA
                  go_wp2_with fail
                  go_ret
                  exact ⟨retb (HNo.out HA.out).symm, HB0.out⟩
              · rw [decide_eq_false q1] at HA
                go_wp2_with fail
                go_ret
                exact ⟨retb (HNo.out HA.out).symm, HB0.out⟩
            · obtain rfl : k = n3 := by omega
              have HZ : Hid (b = y) := by
                show _ = _
                rw [HE2.out, kids_eq, HL.out, HR.out]; rfl
              go_wp2_with fail
              refine HY.out.mono ?_
              rintro e w1 ⟨rfl, rfl⟩
              go_wp2_with fail
              go_ret
              exact ⟨retb HZ.out.symm, HB0.out⟩
        · rw [decide_eq_false g4] at HE
          have g5 : ((n2 : Int) != (n3 : Int) - 1) = true := by simp; omega
          go_enter Try.func24, Try.ntmps24
          go_wp2_with fail
          rw [← HW0.out]
          go_wp2_with fail
          go_ret
          exact ⟨retb (by rw [HE.out]; simp), HB0.out⟩
      · rw [decide_eq_false g3] at HE
        go_enter Try.func24, Try.ntmps24
        go_wp2_with fail
        rw [← HW0.out]
        go_wp2_with fail
        go_ret
        exact ⟨retb (by rw [HE.out]; simp), HB0.out⟩
    · rw [decide_eq_false g2] at HE
      go_enter Try.func24, Try.ntmps24
      go_wp2_with fail
      rw [← HW0.out]
      go_wp2_with fail
      go_ret
      exact ⟨retb (by rw [HE.out]; simp), HB0.out⟩
  · rw [decide_eq_false g1] at HE
    go_enter Try.func24, Try.ntmps24
    go_wp2_with fail
    rw [← HW0.out]
    go_wp2_with fail
    go_ret
    exact ⟨retb (by rw [HE.out]; simp), HB0.out⟩
theorem may_any (n : Nd) (A1 : Option Addr) (n1 c1 : Nat) (A2 : Option Addr) (n2 c2 : Nat) (A3 : Option Addr) (n3 c3 : Nat) (w : World) (h : IsN w w.heap.size n A1 n1 c1 A2 n2 c2 A3 n3 c3) :
    Calls Try.prog 10 #[nv A1 n1 c1 A2 n2 c2 A3 n3 c3] w fun e w' => e = .returned (.bool (mayB n)) ∧ Below w.heap.size w w' := by
  have HE : Hid (mayB n = if n3 = 0 then leafB n else innerB n) := by show _ = _; unfold mayB; rw [h.l3]
  obtain ⟨W0, hW0⟩ : ∃ W0, W0 = w.alloc (.cells #[.slice A1 n1 c1, .slice A2 n2 c2, .slice A3 n3 c3] 26) := ⟨_, rfl⟩
  have HF : Hid (BoxN w.heap.size A1 n1 c1 A2 n2 c2 A3 n3 c3 W0) := by rw [hW0]; exact boxN_new w ..
  have HB0 : Hid (Below w.heap.size w W0) := by rw [hW0]; exact (Below.refl _ _).alloc (Nat.le_refl _) _
  have hz0 : w.heap.size ≤ W0.heap.size := by rw [hW0, alloc_size]; omega
  have hN : IsN W0 W0.heap.size n A1 n1 c1 A2 n2 c2 A3 n3 c3 := (h.below HB0.out (Nat.le_refl _)).more hz0
  have HLf := Lib.hid (leaf_any n A1 n1 c1 A2 n2 c2 A3 n3 c3 W0 hN)
  have HIn := Lib.hid (inner_any n A1 n1 c1 A2 n2 c2 A3 n3 c3 W0 hN)
  obtain ⟨k0, k1, k2, -⟩ := HF.out.cells
  have HW0 := Lib.hid hW0
  obtain ⟨b, hb⟩ : ∃ b, b = mayB n := ⟨_, rfl⟩
  rw [← hb] at HE ⊢
  clear hb h hN hW0
  by_cases h0 : n3 = 0
  · rw [if_pos h0] at HE
    subst h0
    go_enter Try.func10, Try.ntmps10
    go_wp2_with fail
    rw [← HW0.out]
    go_wp2_with fail
    refine HLf.out.mono ?_
    rintro e w1 ⟨rfl, hb1⟩
    have HB1 := Lib.hid (HB0.out.trans (hb1.mono HB0.out.size))
    clear hb1 k0 k1 k2
    go_wp2_with fail
    go_ret
    exact ⟨retb HE.out.symm, HB1.out⟩
  · rw [if_neg h0] at HE
    go_enter Try.func10, Try.ntmps10
    go_wp2_with fail
    rw [← HW0.out]
    go_wp2_with fail
    refine HIn.out.mono ?_
    rintro e w1 ⟨rfl, hb1⟩
    have HB1 := Lib.hid (HB0.out.trans (hb1.mono HB0.out.size))
    clear hb1 k0 k1 k2
    go_wp2_with fail
    go_ret
    exact ⟨retb HE.out.symm, HB1.out⟩
end Go.Proofs.Ytckbehojcjhcgaa.Nod
