/- Contracts: a place comes up in a heap; one more place put into it. Conditions: none. -/
import Derived.Test.YtgnkcgmmmkfkkaaDoorP4
namespace Go.Proofs.YtgnkcgmmmkfkkaaDoor.Hep
open Go.RowKit Cht

theorem half_int (k m : Nat) (h : 0 < k) (hm : m = (k - 1) / 2) : Int.tdiv ((k : Int) - 1) 2 = (m : Int) := by
  rw [show ((k : Int) - 1) = ((k - 1 : Nat) : Int) by omega, hm]
  rfl

set_option maxRecDepth 20000 in
set_option maxHeartbeats 1600000 in
theorem up_any (B g j : Nat) (q : List Pl) (w : World) (h : HQ w B g q) (hu : Up q j) (hj : j < q.length) (hn : q.length ≤ 1000) :
    Calls Tryd.prog 44 #[.iface 55 (.pointer (some ⟨g, 0, none⟩)), .int .i64 j] w fun e w' => e = .returned (.tuple #[]) ∧ (∃ q', HQ w' B g q' ∧ Heap q' ∧ q'.Perm q) ∧ Below B w w' := by
  have HH := Lib.hid h
  have HU := Lib.hid hu
  have HL := Lib.hid hj
  obtain ⟨n, hnn⟩ : ∃ n, n = q.length := ⟨_, rfl⟩
  have HN := Lib.hid hnn
  have hB : B ≤ w.heap.size := by have := h.1; have := h.lt; omega
  rw [← hnn] at hn
  clear h hu hj hnn
  go_enter Tryd.func44, Tryd.ntmps44
  go_wp2_with fail
  go_loopw [1] (fun u wr => ∃ (k : Nat) (p : List Pl), u = .int .i64 k ∧ k < n ∧ Hid (p.length = n) ∧ Hid (Up p k) ∧ Hid (p.Perm q) ∧ Hid (HQ wr B g p) ∧ Hid (Below B w wr)) (fun u _ => (intOf u).toNat)
  case atStart => exact ⟨j, q, rfl, by rw [HN.out]; exact HL.out, HN.out.symm, HU.out, List.Perm.refl _, HH.out, Below.refl _ _⟩
  case round =>
    obtain ⟨k, p, rfl, hkn, HPL, HUP, HP, HQW, HB⟩ := hrel
    have hwr := HB.out.size
    obtain ⟨w5, rfl⟩ : ∃ x, x = wr := ⟨wr, rfl⟩
    obtain ⟨hg, b, cap, hq, hr⟩ := HQW.out
    have hkp : k < p.length := by have := HPL.out; omega
    have hq' : BoxQ g b n cap w5 := by rw [← HPL.out]; exact hq
    have hm1 := method_less g _ _ _ w5 hq'.cells.1
    by_cases h0 : k = 0
    · subst h0
      have HFIN : Hid (Heap p) := up_done HUP.out hkp (.inl rfl)
      clear hg hkp hq hr hm1 hq'
      go_wp2
      refine bodyPost_end (results_none rfl _ _ _) rfl ?_
      exact ⟨rfl, ⟨p, HQW.out, HFIN.out, HP.out⟩, HB.out⟩
    · have hk0 : 0 < k := by omega
      obtain ⟨m, hm⟩ : ∃ m, m = (k - 1) / 2 := ⟨_, rfl⟩
      have hh := half_int k m hk0 hm
      have hmk : m < k := by omega
      have hki : ((m : Int) == (k : Int)) = false := by rw [beq_eq_false_iff_ne]; omega
      have hmp : m < p.length := by omega
      have hle := Lib.hid (less_any B b cap p k m n w5 hr HPL.out hkp hmp)
      have HR := Lib.hid hr
      have HQ5 := Lib.hid hq'
      have hlt : ltP p[k] p[m] = ltP p[k] (p[(k - 1) / 2]'(by omega)) := by simp only [hm]
      have HUD : Hid (ltP p[k] p[m] = false → Heap p) := fun e => up_done HUP.out hkp (.inr (by rw [← hlt]; exact e))
      have HUS : Hid (ltP p[k] p[m] = true → Up (swp p m k) m) := fun e => by rw [hm]; exact up_step HUP.out hkp hk0 (by rw [← hlt]; exact e)
      generalize ltP p[k] p[m] = t at hle HUD HUS
      have HKP := Lib.hid hkp
      have HMP := Lib.hid hmp
      have HG := Lib.hid hg
      clear hg hkp hq hr hq' hlt hm hmp
      cases t with
      | false =>
        go_wp2_with fail
        refine hle.out.mono ?_
        rintro e w6 ⟨rfl, hb6⟩
        have HB6 := Lib.hid (HB.out.trans (hb6.mono (Nat.le_trans hB hwr)))
        have HF := Lib.hid (HQW.out.below hb6)
        clear hb6
        go_wp2
        refine bodyPost_end (results_none rfl _ _ _) rfl ?_
        exact ⟨rfl, ⟨p, HF.out, HUD.out (by trivial), HP.out⟩, HB6.out⟩
      | true =>
        go_wp2_with fail
        refine hle.out.mono ?_
        rintro e w6 ⟨rfl, hb6⟩
        have HB6 := Lib.hid (HB.out.trans (hb6.mono (Nat.le_trans hB hwr)))
        have hq6 : BoxQ g b n cap w6 := HQ5.out.below hb6 HQ5.out.lt
        have HR6 := Lib.hid (HR.out.below hb6)
        have hm6 := method_swap g _ _ _ w6 hq6.cells.1
        have HQ6 := Lib.hid hq6
        clear hb6 hm1 hq6 hle
        have hsw := Lib.hid (swap_any B b cap p m k n w6 HR6.out HPL.out HMP.out HKP.out)
        go_wp2_with fail
        refine hsw.out.mono ?_
        rintro e w7 ⟨rfl, hr7, hb7, ho7⟩
        have hne := HR6.out.ne HQ6.out
        have hq7 : BoxQ g b n cap w7 := (ho7 g hne).trans HQ6.out
        have HF7 : Hid (HQ w7 B g (swp p m k)) := ⟨HG.out, b, cap, by rw [swp_len, HPL.out]; exact hq7, hr7⟩
        have HB7 := Lib.hid (HB6.out.trans hb7)
        have HP7 : Hid ((swp p m k).Perm q) := (swp_perm p m k).trans HP.out
        have HL7 : Hid ((swp p m k).length = n) := by show _ = _; rw [swp_len]; exact HPL.out
        have HU7 : Hid (Up (swp p m k) m) := HUS.out (by trivial)
        clear hr7 hb7 ho7 hne hq7 hsw hm6
        go_wp2_with fail
        go_roundw
        case rel => exact ⟨m, swp p m k, rfl, by omega, HL7, HU7, HP7, HF7, HB7⟩
        case measure => simp [intOf]; omega
end Go.Proofs.YtgnkcgmmmkfkkaaDoor.Hep
