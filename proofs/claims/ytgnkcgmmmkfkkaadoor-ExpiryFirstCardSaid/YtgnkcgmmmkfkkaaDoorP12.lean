/- Contracts: the document's: which of two holds comes ahead, and those that are open. Conditions: no more than 800 holds. -/
import Derived.Test.YtgnkcgmmmkfkkaaDoorP11
namespace Go.Proofs.YtgnkcgmmmkfkkaaDoor.Hep
open Go.RowKit Cht Any
open Hol (Hd hv hcs FitH mayH BoxH Hds rmay_any)

theorem boxH_two (w : World) (x y : Hd) : BoxH w.heap.size x ((w.alloc (.cells (hcs x) 29)).alloc (.cells (hcs y) 29)).drew ∧ BoxH (w.heap.size + 1) y ((w.alloc (.cells (hcs x) 29)).alloc (.cells (hcs y) 29)).drew ∧ Below w.heap.size w ((w.alloc (.cells (hcs x) 29)).alloc (.cells (hcs y) 29)).drew := by
  have hz := World.size_alloc w (.cells (hcs x) 29)
  have h1 : BoxH w.heap.size x (w.alloc (.cells (hcs x) 29)) := BoxH.new w x
  have h2 := BoxH.new (w.alloc (.cells (hcs x) 29)) y
  rw [hz] at h2
  exact ⟨h1.below (B := w.heap.size + 1) ((Below.refl _ _).alloc (by omega) _).drew (by omega), h2, (((Below.refl _ _).alloc (Nat.le_refl _) _).alloc (by omega) _).drew⟩
theorem boxH_two' (w : World) (x y : Hd) : BoxH (w.heap.size + 1) x ((w.alloc (.cells (hcs y) 29)).alloc (.cells (hcs x) 29)).drew ∧ BoxH w.heap.size y ((w.alloc (.cells (hcs y) 29)).alloc (.cells (hcs x) 29)).drew ∧ Below w.heap.size w ((w.alloc (.cells (hcs y) 29)).alloc (.cells (hcs x) 29)).drew :=
  ⟨(boxH_two w y x).2.1, (boxH_two w y x).1, (boxH_two w y x).2.2⟩

set_option maxRecDepth 20000 in
set_option maxHeartbeats 1600000 in
theorem ahead_any (A : Option Addr) (l : List Hd) (n c i j : Nat) (w : World) (h : Hds w w.heap.size A l) (hl : l.length = n) (hf : ∀ x ∈ l, FitH x) (hi : i < l.length) (hj : j < l.length) :
    Calls Tryd.prog 32 #[.slice A n c, .int .i64 i, .int .i64 j] w fun e w' => e = .returned (.bool (ltP (plc l[i] i) (plc l[j] j))) ∧ Below w.heap.size w w' := by
  obtain ⟨g0, o0, rfl, hg0, p0, p1, p2, p3, p4, p5, p6⟩ := h i hi
  obtain ⟨g0', o0', e, -, q0, q1, q2, q3, q4, q5, q6⟩ := h j hj
  injection e with e
  injection e with e1 e2
  subst e1 e2
  have hfx := hf _ (List.getElem_mem hi)
  have hfy := hf _ (List.getElem_mem hj)
  have hin : (i : Int) < n := by omega
  have hjn : (j : Int) < n := by omega
  obtain ⟨x, hx⟩ : ∃ x, x = l[i] := ⟨_, rfl⟩
  obtain ⟨y, hy⟩ : ∃ y, y = l[j] := ⟨_, rfl⟩
  rw [← hx] at p0 p1 p2 p3 p4 p5 p6 hfx ⊢
  rw [← hy] at q0 q1 q2 q3 q4 q5 q6 hfy ⊢
  have hs1 : x.r.size + x.a.size ≤ 9223372036854775807 := by have := hfx.r; have := hfx.a; omega
  have hs2 : y.r.size + y.a.size ≤ 9223372036854775807 := by have := hfy.r; have := hfy.a; omega
  have HI := Lib.hid hi
  have HJ := Lib.hid hj
  clear hx hy hi hj h hl hf hfx hfy
  go_enter Tryd.func32, Tryd.ntmps32
  go_upto_region 1 with fail
  go_cut [7, 8] from 7 to 18 (fun s7 s8 wx => ∃ g h, s7 = .pointer (some ⟨g, 0, none⟩) ∧ s8 = .pointer (some ⟨h, 0, none⟩) ∧ BoxH g x wx ∧ BoxH h y wx ∧ Below w.heap.size w wx)
  case first =>
    go_region
    all_goals
      go_wp2
      go_meet
      refine ⟨_, _, rfl, rfl, ?_⟩
      first | exact boxH_two w x y | exact boxH_two' w x y
  case rest =>
  obtain ⟨g, h, rfl, rfl, hg, hh, hb0⟩ := hcut
  obtain ⟨wT, rfl⟩ : ∃ x, x = wc := ⟨wc, rfl⟩
  obtain ⟨c0, c1, c2, c3, c4, c5, c6, -⟩ := hg.cells
  obtain ⟨d0, d1, d2, d3, d4, d5, d6, -⟩ := hh.cells
  have HB0 := Lib.hid hb0
  clear hg hh hb0 p0 p1 p2 p3 p4 p5 p6 q0 q1 q2 q3 q4 q5 q6
  obtain ⟨kx, hkx⟩ : ∃ kx, kx = x.r ++ x.a := ⟨_, rfl⟩
  obtain ⟨ky, hky⟩ : ∃ ky, ky = y.r ++ y.a := ⟨_, rfl⟩
  have HRES : Hid (ltP (plc x i) (plc y j) = (decide (x.un < y.un) || (decide (x.un = y.un) && (Op.bytesLess kx.toList ky.toList || (kx.toList == ky.toList && decide (i < j)))))) := by
    show _ = _
    rw [hkx, hky]; rfl
  have HKX := Lib.hid hkx
  have HKY := Lib.hid hky
  clear hkx hky
  by_cases hu : x.un = y.un
  · have hub : (x.un == y.un) = true := by rw [hu]; simp
    have hlt : decide (x.un < y.un) = false := decide_eq_false (by omega)
    have HR1 : Hid (ltP (plc x i) (plc y j) = (Op.bytesLess kx.toList ky.toList || (kx.toList == ky.toList && decide (i < j)))) := by
      show _ = _
      rw [HRES.out, hlt, decide_eq_true hu]; simp
    clear hlt hu
    go_upto_region 4 with fail
    go_quiet (fail)
    generalize hw4 : wT.drewN _ = w4
    have HB4 : Hid (Below w.heap.size w w4) := by show Below _ _ _; rw [← hw4]; exact below_drewN' HB0.out _
    rw [← HKX.out, ← HKY.out]
    clear hw4 c0 c1 c2 c3 c4 c5 c6 d0 d1 d2 d3 d4 d5 d6
    obtain ⟨t, ht⟩ : ∃ t, t = Op.bytesLess kx.toList ky.toList := ⟨_, rfl⟩
    rw [← ht] at HR1
    cases hk : (kx.toList == ky.toList) with
    | false =>
      have HR2 : Hid (ltP (plc x i) (plc y j) = t) := by show _ = _; rw [HR1.out, hk]; simp
      go_wp2_with fail
      go_ret
      exact ⟨by rw [HR2.out, ht]; try rfl, HB4.out⟩
    | true =>
      have htf : t = false := by rw [ht, eq_of_beq hk]; exact lt_irr _
      have HR2 : Hid (ltP (plc x i) (plc y j) = decide (i < j)) := by show _ = _; rw [HR1.out, hk, htf]; simp
      go_wp2_with fail
      go_ret
      exact ⟨by rw [HR2.out]; try simp, HB4.out⟩
  · have hub : (x.un == y.un) = false := by rw [beq_eq_false_iff_ne]; exact hu
    have HR1 : Hid (ltP (plc x i) (plc y j) = decide (x.un < y.un)) := by
      show _ = _
      rw [HRES.out, decide_eq_false hu]; simp
    clear hu
    go_wp2_with fail
    go_ret
    exact ⟨by rw [HR1.out]; rfl, HB0.out⟩
end Go.Proofs.YtgnkcgmmmkfkkaaDoor.Hep
