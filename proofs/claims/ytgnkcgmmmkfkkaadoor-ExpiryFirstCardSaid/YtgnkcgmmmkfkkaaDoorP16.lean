/- The walk of ExpiryLapses. Conditions: the program's array of sizes holds what its initialiser lays. -/
import Derived.Test.YtgnkcgmmmkfkkaaDoorP15
namespace Go.Proofs.YtgnkcgmmmkfkkaaDoor.Hep
open Go.RowKit Cht Any
open Hol (Hd hv hcs FitH mayH BoxH Hds rmay_any rlapse_any lapseH fewH cutS cutS_size cutS_short hcl hcl_len hcl_at Big)

theorem hown_of {w : World} {B : Nat} {v : Value} {l : List Hd} (h : OwnH w B v l) : ∃ A c, v = .slice A l.length c ∧ Hds w w.heap.size A l ∧ l.length ≤ c ∧ c ≤ 9223372036854775807 := by
  obtain ⟨A, c, e, hd⟩ := Hol.hds_of h
  refine ⟨A, c, e, hd, ?_⟩
  rcases h.2 with ⟨e2, hn⟩ | ⟨g, cap, cur, e2, h1, h2, h3, h4, _⟩
  · rw [e] at e2; injection e2 with a b c'; omega
  · rw [e] at e2; injection e2 with a b c'; unfold maxLen at h4; omega
theorem few_few (x : Hd) : fewH (fewH x) = fewH x := by
  unfold fewH
  have h := fun s : ByteArray => cutS_short (n := 30) (s := cutS 30 s) (by have := cutS_size 30 s; omega)
  simp only [h]
theorem fewL_fewL (l : List Hd) : fewL (fewL l) = fewL l := by
  unfold fewL
  rw [List.take_of_length_le (by rw [List.length_map, List.length_take]; omega), List.map_map]
  congr 1
  funext x
  exact few_few x
theorem fewL_len (l : List Hd) : (fewL l).length ≤ 40 := by unfold fewL; rw [List.length_map, List.length_take]; omega
theorem fewL_fit {l : List Hd} (h : ∀ x ∈ l, Big x) : ∀ x ∈ fewL l, FitH x := fun x hx => by
  obtain ⟨y, hy, rfl⟩ := List.mem_map.1 hx
  exact (h y (List.mem_of_mem_take hy)).f
theorem fewL_big {l : List Hd} (h : ∀ x ∈ l, Big x) : ∀ x ∈ fewL l, Big x := fun x hx => by
  have hf := fewL_fit h x hx
  obtain ⟨y, hy, rfl⟩ := List.mem_map.1 hx
  exact ⟨by have := hf.r; omega, by have := hf.a; omega, by have := hf.p; omega, by rw [few_few]; exact hf⟩
/-- The first ones lapsed. -/
def lapF (l : List Hd) (t : Int) (k : Nat) : List Hd := (l.take k).map (lap1 t) ++ l.drop k
theorem lapF_zero (l : List Hd) (t : Int) : lapF l t 0 = l := by unfold lapF; simp
theorem lapF_all (l : List Hd) (t : Int) (k : Nat) (h : l.length ≤ k) : lapF l t k = lapped l t := by unfold lapF lapped; rw [List.take_of_length_le h, List.drop_of_length_le h, List.append_nil]
theorem lapF_len (l : List Hd) (t : Int) (k : Nat) : (lapF l t k).length = l.length := by unfold lapF; rw [List.length_append, List.length_map, List.length_take, List.length_drop]; omega
theorem lapF_at {l : List Hd} {t : Int} {k : Nat} (h : k < l.length) : (lapF l t k)[k]'(by rw [lapF_len]; exact h) = l[k] := by
  unfold lapF
  rw [List.getElem_append_right (by rw [List.length_map, List.length_take]; omega)]
  simp only [List.length_map, List.length_take, List.getElem_drop]
  congr 1; omega
theorem lapF_next {l : List Hd} {t : Int} {k : Nat} (h : k < l.length) : lapF l t (k + 1) = (lapF l t k).set k (lap1 t l[k]) := by
  unfold lapF
  have e : ((l.take k).map (lap1 t)).length = k := by rw [List.length_map, List.length_take]; omega
  rw [List.take_succ_eq_append_getElem h, List.map_append, List.append_assoc, List.set_append_right _ _ (by omega), e, Nat.sub_self, List.drop_eq_getElem_cons h]
  rfl
theorem set_same {l : List Hd} {k : Nat} (h : k < l.length) : l.set k l[k] = l := List.set_getElem_self h

set_option maxRecDepth 20000 in
set_option maxHeartbeats 3200000 in
theorem lapses_walk (A : Option Addr) (l : List Hd) (n c : Nat) (t : Int) (w : World) (hE : Env w) (h : Hds w w.heap.size A l) (hl : l.length = n) (hc : n ≤ c) (hcm : c ≤ 9223372036854775807) (hf : ∀ x ∈ l, Big x) :
    Calls Tryd.prog 3 #[.slice A n c, .int .i64 t] w fun e w' => e = .returned (.bool true) ∧ Below w.heap.size w w' := by
  have HEW := Lib.hid (fun (W : World) (hb : Below w.heap.size w W) => hE.below hb)
  have H1 := Lib.hid (few_any A l n c w h hl hc hcm hf)
  have HFX := Lib.hid (fewL_fit hf)
  have HBX := Lib.hid (fewL_big hf)
  have HL4 := Lib.hid (fewL_len l)
  have HFF := Lib.hid (fewL_fewL l)
  generalize fewL l = L at H1 HFX HBX HL4 HFF
  obtain ⟨m, hm⟩ : ∃ m, m = L.length := ⟨_, rfl⟩
  have HM := Lib.hid hm
  have hm40 : m ≤ 40 := by have := HL4.out; omega
  clear hE h hl hf hc hcm hm
  go_enter Tryd.func3, Tryd.ntmps3
  go_wp2_with fail
  refine H1.out.mono ?_
  rintro e w1 ⟨v1, rfl, ho1, hb1⟩
  obtain ⟨A1, c1, rfl, hd1, hc1, hx1⟩ := hown_of ho1
  rw [← HM.out] at hc1 ⊢
  have HB1 := Lib.hid hb1
  have HD1 := Lib.hid hd1
  have H2 := Lib.hid (few_any A1 L m c1 w1 hd1 HM.out.symm hc1 hx1 HBX.out)
  rw [HFF.out] at H2
  clear hb1 hd1 ho1 H1
  go_wp2_with fail
  refine H2.out.mono ?_
  rintro e w2 ⟨v2, rfl, ho2, hb2⟩
  obtain ⟨A2, c2, rfl, hd2, hc2, hx2⟩ := hown_of ho2
  rw [← HM.out] at hc2 ⊢
  have HB2 := Lib.hid (Below.on HB1.out hb2)
  have hd12 : Hds w2 w2.heap.size A1 L := (HD1.out.below hb2 (Nat.le_refl _)).more hb2.size
  have HD2 := Lib.hid hd2
  have HD12 := Lib.hid hd12
  have H3 := Lib.hid (lapses_any t A1 L m c1 w2 (HEW.out _ HB2.out) hd12 HM.out.symm (by omega) hc1 HFX.out)
  rw [lapS_is] at H3
  clear hb2 hd2 hd12 ho2 H2 HD1
  go_wp2_with fail
  refine H3.out.mono ?_
  rintro e w3 ⟨A3, c3, A3', c3', rfl, ho3, hn3, hcn3, hcx3, hb3⟩
  have hll : (lapped L t).length = m := by unfold lapped; rw [List.length_map]; exact HM.out.symm
  obtain ⟨A3b, c3b, e3, hd3, hc3, hx3⟩ := hown_of ho3
  injection e3 with e3a e3b e3c
  subst e3a e3c
  rw [hll] at hc3
  have HB3 := Lib.hid (Below.on HB2.out hb3)
  have HLL := Lib.hid hll
  have HD3 := Lib.hid hd3
  have HN3 := Lib.hid hn3
  have hd13 : Hds w3 w3.heap.size A1 L := (HD12.out.below hb3 (Nat.le_refl _)).more hb3.size
  have HD13 := Lib.hid hd13
  have HD23 : Hid (Hds w3 w3.heap.size A2 L) := (HD2.out.below hb3 (Nat.le_refl _)).more hb3.size
  have H4 := Lib.hid (few_any A1 L m c1 w3 hd13 HM.out.symm hc1 hx1 HBX.out)
  rw [HFF.out] at H4
  clear hb3 hd3 hd13 hn3 ho3 H3 HD12 HD2 e3b hll
  go_wp2_with fail
  refine H4.out.mono ?_
  rintro e w4 ⟨v4, rfl, ho4, hb4⟩
  obtain ⟨A4, c4, rfl, hd4, hc4, hx4⟩ := hown_of ho4
  rw [← HM.out] at hc4 ho4 ⊢
  have HB34 := Lib.hid hb4
  have HO4 := Lib.hid ho4
  have HD4 := Lib.hid hd4
  clear hb4 ho4 hd4 H4
  obtain ⟨d, hdd⟩ : ∃ d, d = (dueL L t).length := ⟨_, rfl⟩
  rw [← hdd] at hcn3 ⊢
  have HDD := Lib.hid hdd
  clear hdd
  go_wp2_with fail
  go_loopw [9] (fun u wr => ∃ k : Nat, u = .int .i64 k ∧ k ≤ m ∧ Hid (OwnH wr w3.heap.size (.slice A4 m c4) (lapF L t k)) ∧ Hid (Below w3.heap.size w3 wr)) (fun u _ => m - (intOf u).toNat)
  case atStart => exact ⟨0, rfl, Nat.zero_le _, by rw [lapF_zero]; exact HO4.out, HB34.out⟩
  case round =>
    obtain ⟨k, rfl, hkm, HO, HB⟩ := hrel
    obtain ⟨w5, rfl⟩ : ∃ x, x = wr := ⟨wr, rfl⟩
    by_cases hlt : k < m
    · have hki : (k : Int) < m := by omega
      have hkL : k < L.length := by have := HM.out; omega
      have hkF : k < (lapF L t k).length := by rw [lapF_len]; exact hkL
      obtain ⟨Ax, cx, ex, hdx, hcx, -⟩ := hown_of HO.out
      injection ex with ex1 ex2 ex3
      subst ex1 ex3
      obtain ⟨g0, o0, rfl, hg0, p0, p1, p2, p3, p4, p5, p6⟩ := hdx k hkF
      have hgz : o0 = 0 := by
        rcases HO.out.2 with ⟨h', h0⟩ | ⟨b, cap, cur, h', _⟩
        · cases h'
        · injection h' with e1 e2 e3
          injection e1 with e1
          injection e1 with e4 e5
      subst hgz
      rw [lapF_at hkL] at p0 p1 p2 p3 p4 p5 p6
      have rf : ∀ j, w5.frozen? ⟨g0, j, none⟩ = false := fun j => by
        have h9 : w5.ownsRow w3.heap.size 29 7 (.slice (some ⟨g0, 0, none⟩) m c4) (lapF L t k).length (hcl (lapF L t k)) := HO.out
        rw [lapF_len, ← HM.out] at h9
        exact h9.frozenAt j
      have hgB : w3.heap.size ≤ g0 := (World.ownsRow.lt HO.out g0 rfl).1
      have hfy := HFX.out _ (List.getElem_mem hkL)
      have HNX := Lib.hid (lapF_next (t := t) hkL)
      have HAT := Lib.hid (lapF_at (t := t) hkL)
      simp only [Nat.zero_add] at p0 p1 p2 p3 p4 p5 p6
      obtain ⟨y, hy⟩ : ∃ y, y = L[k] := ⟨_, rfl⟩
      rw [← hy] at p0 p1 p2 p3 p4 p5 p6 hfy HNX HAT
      have HMY := Lib.hid (rmay_any y w5 hfy)
      have HLA := Lib.hid (fun W => rlapse_any y t W hfy)
      have HKF := Lib.hid hkF
      have HB5 := Lib.hid (HB3.out.trans (HB.out.mono HB3.out.size))
      have hl1 : lap1 t y = if mayH y = true then (lapseH y t).1 else y := rfl
      have hmc : m ≤ c4 := hc4
      have HP : Hid (w5.cell? ⟨g0, k * 7, none⟩ = some (.string y.r) ∧ w5.cell? ⟨g0, k * 7 + 1, none⟩ = some (.string y.a) ∧ w5.cell? ⟨g0, k * 7 + 2, none⟩ = some (.string y.p) ∧ w5.cell? ⟨g0, k * 7 + 3, none⟩ = some (.int .i64 y.ap) ∧ w5.cell? ⟨g0, k * 7 + 4, none⟩ = some (.int .i64 y.ca) ∧ w5.cell? ⟨g0, k * 7 + 5, none⟩ = some (.int .i64 y.un) ∧ w5.cell? ⟨g0, k * 7 + 6, none⟩ = some (.bool y.op) ∧ g0 < w5.heap.size) := ⟨p0, p1, p2, p3, p4, p5, p6, hg0⟩
      have HRF := Lib.hid rf
      have HGB := Lib.hid hgB
      clear hdx hcx hg0 hfy hy rf hgB ex2
      obtain ⟨mm, hmm⟩ : ∃ mm, mm = mayH y := ⟨_, rfl⟩
      rw [← hmm] at HMY hl1
      clear hmm
      cases mm with
      | false =>
        have HL1 : Hid (lap1 t y = y) := by show _ = _; rw [hl1, if_neg (by decide)]
        have HNN : Hid (lapF L t (k + 1) = lapF L t k) := by
          have h9 := HNX.out
          rw [HL1.out] at h9
          have h8 := set_same HKF.out
          rw [HAT.out] at h8
          exact h9.trans h8
        clear hl1
        go_wp2_with fail
        refine HMY.out.mono ?_
        rintro e w6 ⟨rfl, hb6⟩
        have HO6 : Hid (OwnH w6 w3.heap.size (.slice (some ⟨g0, 0, none⟩) m c4) (lapF L t (k + 1))) := by
          show World.ownsRow _ _ _ _ _ _ _
          rw [HNN.out]; exact Hol.own_below HO.out hb6
        have HB6 := Lib.hid (HB.out.trans (hb6.mono HB.out.size))
        clear hb6 p0 p1 p2 p3 p4 p5 p6
        go_wp2_with fail
        go_roundw
        case rel => exact ⟨k + 1, by go_num, by omega, HO6, HB6⟩
        case measure => simp [intOf]; omega
      | true =>
        have HL1 : Hid (lap1 t y = (lapseH y t).1) := by show _ = _; rw [hl1, if_pos rfl]
        obtain ⟨z, hz⟩ : ∃ z, z = lapseH y t := ⟨_, rfl⟩
        obtain ⟨z1, z2⟩ := z
        have HZ : Hid (lap1 t y = z1) := by show _ = _; rw [HL1.out, ← hz]
        rw [← hz] at HLA
        clear hl1 hz HL1
        go_wp2_with fail
        refine HMY.out.mono ?_
        rintro e w6 ⟨rfl, hb6⟩
        clear p0 p1 p2 p3 p4 p5 p6
        obtain ⟨p0, p1, p2, p3, p4, p5, p6, hg0⟩ := HP.out
        replace p0 := (hb6.cell (p := ⟨g0, k * 7, none⟩) hg0).trans p0
        replace p1 := (hb6.cell (p := ⟨g0, k * 7 + 1, none⟩) hg0).trans p1
        replace p2 := (hb6.cell (p := ⟨g0, k * 7 + 2, none⟩) hg0).trans p2
        replace p3 := (hb6.cell (p := ⟨g0, k * 7 + 3, none⟩) hg0).trans p3
        replace p4 := (hb6.cell (p := ⟨g0, k * 7 + 4, none⟩) hg0).trans p4
        replace p5 := (hb6.cell (p := ⟨g0, k * 7 + 5, none⟩) hg0).trans p5
        replace p6 := (hb6.cell (p := ⟨g0, k * 7 + 6, none⟩) hg0).trans p6
        have HP6 : Hid (w6.cell? ⟨g0, k * 7, none⟩ = some (.string y.r) ∧ w6.cell? ⟨g0, k * 7 + 1, none⟩ = some (.string y.a) ∧ w6.cell? ⟨g0, k * 7 + 2, none⟩ = some (.string y.p) ∧ w6.cell? ⟨g0, k * 7 + 3, none⟩ = some (.int .i64 y.ap) ∧ w6.cell? ⟨g0, k * 7 + 4, none⟩ = some (.int .i64 y.ca) ∧ w6.cell? ⟨g0, k * 7 + 5, none⟩ = some (.int .i64 y.un) ∧ w6.cell? ⟨g0, k * 7 + 6, none⟩ = some (.bool y.op) ∧ g0 < w6.heap.size) := ⟨p0, p1, p2, p3, p4, p5, p6, Nat.lt_of_lt_of_le hg0 hb6.size⟩
        have HO6 := Lib.hid (Hol.own_below HO.out hb6)
        have HB6 := Lib.hid (HB.out.trans (hb6.mono HB.out.size))
        have HRF6 : Hid (∀ j, w6.frozen? ⟨g0, j, none⟩ = false) := fun j => (hb6.frozen (p := ⟨g0, j, none⟩) hg0).trans (HRF.out j)
        clear hb6
        go_wp2_with fail
        refine (HLA.out _).mono ?_
        rintro e w7 ⟨rfl, hb7⟩
        clear p0 p1 p2 p3 p4 p5 p6 hg0
        obtain ⟨p0, p1, p2, p3, p4, p5, p6, hg0⟩ := HP6.out
        replace p0 := (hb7.cell (p := ⟨g0, k * 7, none⟩) hg0).trans p0
        replace p1 := (hb7.cell (p := ⟨g0, k * 7 + 1, none⟩) hg0).trans p1
        replace p2 := (hb7.cell (p := ⟨g0, k * 7 + 2, none⟩) hg0).trans p2
        replace p3 := (hb7.cell (p := ⟨g0, k * 7 + 3, none⟩) hg0).trans p3
        replace p4 := (hb7.cell (p := ⟨g0, k * 7 + 4, none⟩) hg0).trans p4
        replace p5 := (hb7.cell (p := ⟨g0, k * 7 + 5, none⟩) hg0).trans p5
        replace p6 := (hb7.cell (p := ⟨g0, k * 7 + 6, none⟩) hg0).trans p6
        have rf : ∀ j, w7.frozen? ⟨g0, j, none⟩ = false := fun j => (hb7.frozen (p := ⟨g0, j, none⟩) hg0).trans (HRF6.out j)
        have HB7 := Lib.hid (HB6.out.trans (hb7.mono HB6.out.size))
        have e9 : Value.slice (some ⟨g0, 0, none⟩) (lapF L t k).length c4 = .slice (some ⟨g0, 0, none⟩) m c4 := by rw [lapF_len, ← HM.out]
        have HO7 : Hid (OwnH w7 w3.heap.size (.slice (some ⟨g0, 0, none⟩) (lapF L t k).length c4) (lapF L t k)) := by
          show World.ownsRow _ _ _ _ _ _ _
          rw [e9]; exact Hol.own_below HO6.out hb7
        have HO8 : Hid (OwnH (((((((w7.setCell ⟨g0, k * 7, none⟩ (.string z1.r)).setCell ⟨g0, k * 7 + 1, none⟩ (.string z1.a)).setCell ⟨g0, k * 7 + 2, none⟩ (.string z1.p)).setCell ⟨g0, k * 7 + 3, none⟩ (.int .i64 z1.ap)).setCell ⟨g0, k * 7 + 4, none⟩ (.int .i64 z1.ca)).setCell ⟨g0, k * 7 + 5, none⟩ (.int .i64 z1.un)).setCell ⟨g0, k * 7 + 6, none⟩ (.bool z1.op)) w3.heap.size (.slice (some ⟨g0, 0, none⟩) m c4) (lapF L t (k + 1))) := by
          have h9 := HO7.out.put k z1
          rw [e9] at h9
          show World.ownsRow _ _ _ _ _ _ _
          rw [HNX.out, HZ.out]
          exact h9
        have HB8 : Hid (Below w3.heap.size w3 (((((((w7.setCell ⟨g0, k * 7, none⟩ (.string z1.r)).setCell ⟨g0, k * 7 + 1, none⟩ (.string z1.a)).setCell ⟨g0, k * 7 + 2, none⟩ (.string z1.p)).setCell ⟨g0, k * 7 + 3, none⟩ (.int .i64 z1.ap)).setCell ⟨g0, k * 7 + 4, none⟩ (.int .i64 z1.ca)).setCell ⟨g0, k * 7 + 5, none⟩ (.int .i64 z1.un)).setCell ⟨g0, k * 7 + 6, none⟩ (.bool z1.op))) := ((((((HB7.out.setCell (p := ⟨g0, k * 7, none⟩) HGB.out _).setCell (p := ⟨g0, k * 7 + 1, none⟩) HGB.out _).setCell (p := ⟨g0, k * 7 + 2, none⟩) HGB.out _).setCell (p := ⟨g0, k * 7 + 3, none⟩) HGB.out _).setCell (p := ⟨g0, k * 7 + 4, none⟩) HGB.out _).setCell (p := ⟨g0, k * 7 + 5, none⟩) HGB.out _).setCell (p := ⟨g0, k * 7 + 6, none⟩) HGB.out _
        clear hb7 e9
        go_wp2_with fail
        go_roundw
        case rel => exact ⟨k + 1, by go_num, by omega, HO8.out, HB8.out⟩
        case measure => simp [intOf]; omega
    · obtain rfl : k = m := by omega
      have ho5 := HO.out
      rw [lapF_all L t k (by have := HM.out; omega)] at ho5
      obtain ⟨Ax, cx, ex, hdx, hcx, -⟩ := hown_of ho5
      injection ex with ex1 ex2 ex3
      subst ex1 ex3
      have hb5 := HB.out
      have hd35 : Hds w5 w5.heap.size A3 (lapped L t) := (HD3.out.below hb5 (Nat.le_refl _)).more hb5.size
      have HSA := Lib.hid (sameH_any A3 A4 (lapped L t) k c3 c4 w5 hd35 hdx HLL.out (by omega) hc3 hc4)
      have HD15 : Hid (Hds w5 w5.heap.size A1 L) := (HD13.out.below hb5 (Nat.le_refl _)).more hb5.size
      have HD25 : Hid (Hds w5 w5.heap.size A2 L) := (HD23.out.below hb5 (Nat.le_refl _)).more hb5.size
      have HN5 : Hid (Nums w5 w5.heap.size A3' (dueL L t)) := (HN3.out.below hb5 (Nat.le_refl _)).more hb5.size
      have HB5 := Lib.hid (HB3.out.trans (HB.out.mono HB3.out.size))
      clear ho5 hdx hcx ex2 hd35 hb5
      go_wp2_with fail
      refine HSA.out.mono ?_
      rintro e w6 ⟨rfl, hb6⟩
      have HB6 := Lib.hid (HB5.out.trans (hb6.mono HB5.out.size))
      have HD16 : Hid (Hds w6 w6.heap.size A1 L) := (HD15.out.below hb6 (Nat.le_refl _)).more hb6.size
      have HD26 : Hid (Hds w6 w6.heap.size A2 L) := (HD25.out.below hb6 (Nat.le_refl _)).more hb6.size
      have HN6 : Hid (Nums w6 w6.heap.size A3' (dueL L t)) := (HN5.out.below hb6 (Nat.le_refl _)).more hb6.size
      have HRD := Lib.hid (rdue_any t A1 L k c1 w6 HD16.out HM.out.symm (by omega) hc1 HFX.out)
      rw [← due_is] at HRD
      clear hb6
      go_wp2_with fail
      refine HRD.out.mono ?_
      rintro e w7 ⟨v7, rfl, ho7, hb7⟩
      obtain ⟨A7, c7, rfl, hn7, hc7, -⟩ := nums_of ho7
      have HB7 := Lib.hid (HB6.out.trans (hb7.mono HB6.out.size))
      have HD17 : Hid (Hds w7 w7.heap.size A1 L) := (HD16.out.below hb7 (Nat.le_refl _)).more hb7.size
      have HD27 : Hid (Hds w7 w7.heap.size A2 L) := (HD26.out.below hb7 (Nat.le_refl _)).more hb7.size
      have hn37 : Nums w7 w7.heap.size A3' (dueL L t) := (HN6.out.below hb7 (Nat.le_refl _)).more hb7.size
      rw [← HDD.out] at hc7 ⊢
      have hd1000 : d ≤ 1000 := by have h1 := HDD.out; have h2 := due_len L t; have := HM.out; omega
      have HSD := Lib.hid (same_any A3' A7 (dueL L t) d c3' c7 w7 hn37 hn7 HDD.out.symm hd1000 hcn3 hc7)
      clear hb7 hn37 hn7 ho7
      go_wp2_with fail
      refine HSD.out.mono ?_
      rintro e w8 ⟨rfl, hb8⟩
      have HB8 := Lib.hid (HB7.out.trans (hb8.mono HB7.out.size))
      have HD18 : Hid (Hds w8 w8.heap.size A1 L) := (HD17.out.below hb8 (Nat.le_refl _)).more hb8.size
      have HD28 : Hid (Hds w8 w8.heap.size A2 L) := (HD27.out.below hb8 (Nat.le_refl _)).more hb8.size
      have HSL := Lib.hid (sameH_any A1 A2 L k c1 c2 w8 HD18.out HD28.out HM.out.symm (by omega) hc1 hc2)
      clear hb8
      go_wp2_with fail
      refine HSL.out.mono ?_
      rintro e w9 ⟨rfl, hb9⟩
      have HB9 := Lib.hid (HB8.out.trans (hb9.mono HB8.out.size))
      clear hb9
      go_wp2_with fail
      refine (awake_any _ (HEW.out _ HB9.out)).mono ?_
      rintro e wa ⟨rfl, hba⟩
      have HBa := Lib.hid (HB9.out.trans (hba.mono HB9.out.size))
      clear hba
      go_wp2_with fail
      go_ret
      exact ⟨rfl, HBa.out⟩
end Go.Proofs.YtgnkcgmmmkfkkaaDoor.Hep
