/- Contracts: a place goes down in a heap; one more place put into it, the first one taken out. Conditions: none. -/
import Derived.Test.YtgnkcgmmmkfkkaaDoorP5
namespace Go.Proofs.YtgnkcgmmmkfkkaaDoor.Hep
open Go.RowKit Cht

theorem dn_out {q : List Pl} {n c j : Nat} (h : Dn q n c) (hjn : j < n) (hcn : c < n) (ho : ∀ m, (g : m < n) → (g0 : 0 < m) → (g1 : (m - 1) / 2 = c) → leP (q[j]'(by have := h.le; omega)) (q[m]'(by have := h.le; omega))) (he : ltP (q[j]'(by have := h.le; omega)) (q[c]'(by have := h.le; omega)) = false) : Heap (q.take n) :=
  dn_done h (fun g => leP_tr he (ho _ g (by omega) (by omega))) (fun g => leP_tr he (ho _ g (by omega) (by omega)))
theorem kids_two {q : List Pl} {n c : Nat} (h : Dn q n c) (g2 : 2 * c + 2 < n) (e : ltP (q[2 * c + 2]'(by have := h.le; omega)) (q[2 * c + 1]'(by have := h.le; omega)) = true) : ∀ m, (g : m < n) → (g0 : 0 < m) → (g1 : (m - 1) / 2 = c) → leP (q[2 * c + 2]'(by have := h.le; omega)) (q[m]'(by have := h.le; omega)) := fun m g g0 g1 => by
  have hm : m = 2 * c + 1 ∨ m = 2 * c + 2 := by omega
  rcases hm with rfl | rfl
  · exact leP_of_lt e
  · exact leP_refl _
theorem kids_one {q : List Pl} {n c : Nat} (h : Dn q n c) (g1 : 2 * c + 1 < n) (e : (g2 : 2 * c + 2 < n) → ltP (q[2 * c + 2]'(by have := h.le; omega)) (q[2 * c + 1]'(by have := h.le; omega)) = false) : ∀ m, (g : m < n) → (g0 : 0 < m) → (g1 : (m - 1) / 2 = c) → leP (q[2 * c + 1]'(by have := h.le; omega)) (q[m]'(by have := h.le; omega)) := fun m g g0 g1 => by
  have hm : m = 2 * c + 1 ∨ m = 2 * c + 2 := by omega
  rcases hm with rfl | rfl
  · exact leP_refl _
  · exact e g

theorem push_any (B g : Nat) (q : List Pl) (x : Pl) (w : World) (h : HQ w B g q) (hh : Heap q) (hn : q.length ≤ 900) :
    Calls Tryd.prog 39 #[.iface 55 (.pointer (some ⟨g, 0, none⟩)), .iface 59 (.agg (lcell x))] w fun e w' => e = .returned (.tuple #[]) ∧ (∃ q', HQ w' B g q' ∧ Heap q' ∧ q'.Perm (q ++ [x])) ∧ Below B w w' := by
  have hB : B ≤ w.heap.size := by have := h.1; have := h.lt; omega
  have hm1 := method_push g w
  have H1 := Lib.hid (qpush_any B g q x w h (by omega) hB)
  have HU := Lib.hid (up_start (x := x) hh)
  obtain ⟨n, hnn⟩ : ∃ n, n = q.length := ⟨_, rfl⟩
  have HN := Lib.hid hnn
  rw [← hnn] at hn
  clear h hnn hh
  go_enter Tryd.func39, Tryd.ntmps39
  go_wp2_with fail
  refine H1.out.mono ?_
  rintro e w1 ⟨rfl, hq, hb⟩
  have hl : (q ++ [x]).length = n + 1 := by rw [List.length_append, HN.out]; rfl
  have H2 := Lib.hid (fun W (hW : HQ W B g (q ++ [x])) => up_any B g n (q ++ [x]) W hW (by have := HU.out; rw [HN.out]; exact this) (by omega) (by omega))
  have HQ1 := Lib.hid hq
  obtain ⟨hg, b, cap, hbx, hr⟩ := hq
  rw [hl] at hbx
  have hm2 := method_len g _ _ _ w1 hbx.cells.1
  have HB1 := Lib.hid hb
  clear hm1 hb hr hbx hl hg
  go_wp2_with fail
  refine (len_any _ _ _ _).mono ?_
  rintro e w2 ⟨rfl, rfl⟩
  go_wp2_with fail
  refine (H2.out _ HQ1.out).mono ?_
  rintro e w3 ⟨rfl, hq3, hb3⟩
  have HQ3 := Lib.hid hq3
  have HB3 := Lib.hid (HB1.out.trans hb3)
  clear hq3 hb3
  go_wp2
  refine bodyPost_end (results_none rfl _ _ _) rfl ?_
  exact ⟨rfl, HQ3.out, HB3.out⟩

set_option maxRecDepth 20000 in
set_option maxHeartbeats 3200000 in
theorem down_any (B g n : Nat) (q : List Pl) (w : World) (h : HQ w B g q) (hu : Dn q n 0) (hq : q.length = n + 1) (hn : n ≤ 1000) :
    Calls Tryd.prog 41 #[.iface 55 (.pointer (some ⟨g, 0, none⟩)), .int .i64 0, .int .i64 n] w fun e w' => (∃ v : Value, e = .returned v) ∧ (∃ q', HQ w' B g q' ∧ Heap (q'.take n) ∧ q'.Perm q ∧ q'[n]? = q[n]?) ∧ Below B w w' ∧ Kp w w' := by
  have HH := Lib.hid h
  have HU := Lib.hid hu
  have HN := Lib.hid hq
  have hB : B ≤ w.heap.size := by have := h.1; have := h.lt; omega
  clear h hu hq
  go_enter Tryd.func41, Tryd.ntmps41
  go_wp2_with fail
  go_loopw [7] (fun u wr => ∃ (c : Nat) (p : List Pl), u = .int .i64 c ∧ c ≤ n ∧ Hid (p.length = n + 1) ∧ Hid (Dn p n c) ∧ Hid (p.Perm q) ∧ Hid (p[n]? = q[n]?) ∧ Hid (HQ wr B g p) ∧ Hid (Below B w wr) ∧ Hid (Kp w wr)) (fun u _ => n - (intOf u).toNat)
  case atStart => exact ⟨0, q, rfl, Nat.zero_le _, HN.out, HU.out, List.Perm.refl _, rfl, HH.out, Below.refl _ _, Kp.refl _⟩
  case round =>
    obtain ⟨c, p, rfl, hcn, HPL, HUP, HP, HPN, HQW, HB, HKP⟩ := hrel
    have hwr := Nat.le_trans hB HB.out.size
    obtain ⟨w5, rfl⟩ : ∃ x, x = wr := ⟨wr, rfl⟩
    have hcp : c < p.length := by have := HPL.out; omega
    have hc0 : ¬ (2 * (c : Int) + 1 < 0) := by omega
    by_cases h1 : 2 * c + 1 < n
    · have h1i : ¬ ((n : Int) ≤ 2 * (c : Int) + 1) := by omega
      have hp1 : 2 * c + 1 < p.length := by have := HPL.out; omega
      have hcn' : c < n := by omega
      obtain ⟨j1, hj1⟩ : ∃ j1, j1 = 2 * c + 1 := ⟨_, rfl⟩
      have hj1i : 2 * (c : Int) + 1 = (j1 : Int) := by omega
      have hj1n : ¬ ((n : Int) ≤ (j1 : Int)) := by omega
      have hj10 : ¬ ((j1 : Int) < 0) := by omega
      have hj1b : (j1 : Int) ≤ 1000 := by omega
      clear h1i hc0
      by_cases h2 : 2 * c + 2 < n
      · obtain ⟨j2, hj2⟩ : ∃ j2, j2 = 2 * c + 2 := ⟨_, rfl⟩
        have hj2i : (j1 : Int) + 1 = (j2 : Int) := by omega
        have hj2n : ((j2 : Int) < (n : Int)) := by omega
        have hp2 : 2 * c + 2 < p.length := by have := HPL.out; omega
        obtain ⟨hg, b, cap, hqb, hr⟩ := HQW.out
        have hq' : BoxQ g b (n + 1) cap w5 := by rw [← HPL.out]; exact hqb
        have hm1 := method_less g _ _ _ w5 hq'.cells.1
        have HLE := Lib.hid (less_any B b cap p (2 * c + 2) (2 * c + 1) (n + 1) w5 hr HPL.out hp2 hp1)
        have HK2 : Hid (ltP p[2 * c + 2] p[2 * c + 1] = true → ∀ m, (g : m < n) → (g0 : 0 < m) → (g1 : (m - 1) / 2 = c) → leP p[2 * c + 2] (p[m]'(by have := HPL.out; omega))) := fun e => kids_two HUP.out h2 e
        have HK1 : Hid (ltP p[2 * c + 2] p[2 * c + 1] = false → ∀ m, (g : m < n) → (g0 : 0 < m) → (g1 : (m - 1) / 2 = c) → leP p[2 * c + 1] (p[m]'(by have := HPL.out; omega))) := fun e => kids_one HUP.out h1 (fun _ => e)
        generalize ltP p[2 * c + 2] p[2 * c + 1] = t at HLE HK2 HK1
        rw [← hj1, ← hj2] at HLE
        clear hg hqb hr hq'
        cases t with
        | false =>
          have HK := Lib.hid (HK1.out (by trivial))
          have HJ : Hid (j1 = 2 * c + 1 ∨ j1 = 2 * c + 2) := .inl hj1
          have hjp : j1 < p.length := by have := HPL.out; omega
          have HO : Hid (∀ m, (g : m < n) → (g0 : 0 < m) → (g1 : (m - 1) / 2 = c) → leP (p[j1]'hjp) (p[m]'(by have := HPL.out; omega))) := by simp only [hj1]; exact HK.out
          have hjn : j1 < n := by omega
          clear HK1 HK2 HK hj1 hj2
          go_wp2_with fail
          refine HLE.out.mono ?_
          rintro e w6 ⟨rfl, hb6⟩
          have HB6 := Lib.hid (HB.out.trans (hb6.mono hwr))
          have HKP6 := Lib.hid (HKP.out.tr (Kp.of hb6))
          have HQ6 := Lib.hid (HQW.out.below hb6)
          have hw6 := Nat.le_trans hB HB6.out.size
          clear hb6 hm1 HLE
          have HHJ := Lib.hid hjn
          obtain ⟨hg, b, cap, hqb, hr⟩ := HQ6.out
          have hq' : BoxQ g b (n + 1) cap w6 := by rw [← HPL.out]; exact hqb
          have hm2 := method_less g _ _ _ w6 hq'.cells.1
          have HLE2 := Lib.hid (less_any B b cap p j1 c (n + 1) w6 hr HPL.out hjp hcp)
          have HUD : Hid (ltP p[j1] p[c] = false → Heap (p.take n)) := fun e => dn_out HUP.out hjn hcn' HO.out e
          have HUS : Hid (ltP p[j1] p[c] = true → Dn (swp p c j1) n j1) := fun e => dn_step HUP.out HJ.out hjn e HO.out
          generalize ltP p[j1] p[c] = t2 at HLE2 HUD HUS
          have HR := Lib.hid hr
          have HQX := Lib.hid hq'
          have HG := Lib.hid hg
          have hcj : c < j1 := by rcases HJ.out with e | e <;> omega
          have hjle : j1 ≤ n := by omega
          clear hg hqb hr hq' hjn
          cases t2 with
          | false =>
            go_wp2_with fail
            refine HLE2.out.mono ?_
            rintro e w7 ⟨rfl, hb7⟩
            have HB7 := Lib.hid (HB6.out.trans (hb7.mono hw6))
            have HKP7 := Lib.hid (HKP6.out.tr (Kp.of hb7))
            have HF := Lib.hid (HQ6.out.below hb7)
            clear hb7
            go_wp2
            go_ret
            exact ⟨⟨_, rfl⟩, ⟨p, HF.out, HUD.out (by trivial), HP.out, HPN.out⟩, HB7.out, HKP7.out⟩
          | true =>
            go_wp2_with fail
            refine HLE2.out.mono ?_
            rintro e w7 ⟨rfl, hb7⟩
            have HB7 := Lib.hid (HB6.out.trans (hb7.mono hw6))
            have HKP7 := Lib.hid (HKP6.out.tr (Kp.of hb7))
            have hq7 : BoxQ g b (n + 1) cap w7 := HQX.out.below hb7 HQX.out.lt
            have HR7 := Lib.hid (HR.out.below hb7)
            have hm7 := method_swap g _ _ _ w7 hq7.cells.1
            have HQ7 := Lib.hid hq7
            clear hb7 hm2 hq7 HLE2
            have hsw := Lib.hid (swap_any B b cap p c j1 (n + 1) w7 HR7.out HPL.out hcp hjp)
            go_wp2_with fail
            refine hsw.out.mono ?_
            rintro e w8 ⟨rfl, hr8, hb8, ho8⟩
            have hne := HR7.out.ne HQ7.out
            have hq8 : BoxQ g b (n + 1) cap w8 := (ho8 g hne).trans HQ7.out
            have HF8 : Hid (HQ w8 B g (swp p c j1)) := ⟨HG.out, b, cap, by rw [swp_len, HPL.out]; exact hq8, hr8⟩
            have HB8 := Lib.hid (HB7.out.trans hb8)
            have HKP8 := Lib.hid (HKP7.out.tr (Kp.row HR7.out ho8))
            have HP8 : Hid ((swp p c j1).Perm q) := (swp_perm p c j1).trans HP.out
            have HL8 : Hid ((swp p c j1).length = n + 1) := by show _ = _; rw [swp_len]; exact HPL.out
            have HN8 : Hid ((swp p c j1)[n]? = q[n]?) := by
              show _ = _
              have := HHJ.out
              rw [← HPN.out, swp_eq hcp hjp, List.getElem?_set_ne (by omega), List.getElem?_set_ne (by omega)]
            have HU8 : Hid (Dn (swp p c j1) n j1) := HUS.out (by trivial)
            clear hr8 hb8 ho8 hne hq8 hsw hm7
            go_wp2_with fail
            go_roundw
            case rel => exact ⟨j1, swp p c j1, rfl, hjle, HL8, HU8, HP8, HN8, HF8, HB8, HKP8⟩
            case measure => simp [intOf]; omega
        | true =>
          have HK := Lib.hid (HK2.out (by trivial))
          have HJ : Hid (j2 = 2 * c + 1 ∨ j2 = 2 * c + 2) := .inr hj2
          have hjp : j2 < p.length := by have := HPL.out; omega
          have HO : Hid (∀ m, (g : m < n) → (g0 : 0 < m) → (g1 : (m - 1) / 2 = c) → leP (p[j2]'hjp) (p[m]'(by have := HPL.out; omega))) := by simp only [hj2]; exact HK.out
          have hjn : j2 < n := by omega
          clear HK1 HK2 HK hj1 hj2
          go_wp2_with fail
          refine HLE.out.mono ?_
          rintro e w6 ⟨rfl, hb6⟩
          have HB6 := Lib.hid (HB.out.trans (hb6.mono hwr))
          have HKP6 := Lib.hid (HKP.out.tr (Kp.of hb6))
          have HQ6 := Lib.hid (HQW.out.below hb6)
          have hw6 := Nat.le_trans hB HB6.out.size
          clear hb6 hm1 HLE
          have HHJ := Lib.hid hjn
          obtain ⟨hg, b, cap, hqb, hr⟩ := HQ6.out
          have hq' : BoxQ g b (n + 1) cap w6 := by rw [← HPL.out]; exact hqb
          have hm2 := method_less g _ _ _ w6 hq'.cells.1
          have HLE2 := Lib.hid (less_any B b cap p j2 c (n + 1) w6 hr HPL.out hjp hcp)
          have HUD : Hid (ltP p[j2] p[c] = false → Heap (p.take n)) := fun e => dn_out HUP.out hjn hcn' HO.out e
          have HUS : Hid (ltP p[j2] p[c] = true → Dn (swp p c j2) n j2) := fun e => dn_step HUP.out HJ.out hjn e HO.out
          generalize ltP p[j2] p[c] = t2 at HLE2 HUD HUS
          have HR := Lib.hid hr
          have HQX := Lib.hid hq'
          have HG := Lib.hid hg
          have hcj : c < j2 := by rcases HJ.out with e | e <;> omega
          have hjle : j2 ≤ n := by omega
          clear hg hqb hr hq' hjn
          cases t2 with
          | false =>
            go_wp2_with fail
            refine HLE2.out.mono ?_
            rintro e w7 ⟨rfl, hb7⟩
            have HB7 := Lib.hid (HB6.out.trans (hb7.mono hw6))
            have HKP7 := Lib.hid (HKP6.out.tr (Kp.of hb7))
            have HF := Lib.hid (HQ6.out.below hb7)
            clear hb7
            go_wp2
            go_ret
            exact ⟨⟨_, rfl⟩, ⟨p, HF.out, HUD.out (by trivial), HP.out, HPN.out⟩, HB7.out, HKP7.out⟩
          | true =>
            go_wp2_with fail
            refine HLE2.out.mono ?_
            rintro e w7 ⟨rfl, hb7⟩
            have HB7 := Lib.hid (HB6.out.trans (hb7.mono hw6))
            have HKP7 := Lib.hid (HKP6.out.tr (Kp.of hb7))
            have hq7 : BoxQ g b (n + 1) cap w7 := HQX.out.below hb7 HQX.out.lt
            have HR7 := Lib.hid (HR.out.below hb7)
            have hm7 := method_swap g _ _ _ w7 hq7.cells.1
            have HQ7 := Lib.hid hq7
            clear hb7 hm2 hq7 HLE2
            have hsw := Lib.hid (swap_any B b cap p c j2 (n + 1) w7 HR7.out HPL.out hcp hjp)
            go_wp2_with fail
            refine hsw.out.mono ?_
            rintro e w8 ⟨rfl, hr8, hb8, ho8⟩
            have hne := HR7.out.ne HQ7.out
            have hq8 : BoxQ g b (n + 1) cap w8 := (ho8 g hne).trans HQ7.out
            have HF8 : Hid (HQ w8 B g (swp p c j2)) := ⟨HG.out, b, cap, by rw [swp_len, HPL.out]; exact hq8, hr8⟩
            have HB8 := Lib.hid (HB7.out.trans hb8)
            have HKP8 := Lib.hid (HKP7.out.tr (Kp.row HR7.out ho8))
            have HP8 : Hid ((swp p c j2).Perm q) := (swp_perm p c j2).trans HP.out
            have HL8 : Hid ((swp p c j2).length = n + 1) := by show _ = _; rw [swp_len]; exact HPL.out
            have HN8 : Hid ((swp p c j2)[n]? = q[n]?) := by
              show _ = _
              have := HHJ.out
              rw [← HPN.out, swp_eq hcp hjp, List.getElem?_set_ne (by omega), List.getElem?_set_ne (by omega)]
            have HU8 : Hid (Dn (swp p c j2) n j2) := HUS.out (by trivial)
            clear hr8 hb8 ho8 hne hq8 hsw hm7
            go_wp2_with fail
            go_roundw
            case rel => exact ⟨j2, swp p c j2, rfl, hjle, HL8, HU8, HP8, HN8, HF8, HB8, HKP8⟩
            case measure => simp [intOf]; omega
      · have hj2n : ¬ ((j1 : Int) + 1 < (n : Int)) := by omega
        have HJ : Hid (j1 = 2 * c + 1 ∨ j1 = 2 * c + 2) := .inl hj1
        have hjp : j1 < p.length := by have := HPL.out; omega
        have HO : Hid (∀ m, (g : m < n) → (g0 : 0 < m) → (g1 : (m - 1) / 2 = c) → leP (p[j1]'hjp) (p[m]'(by have := HPL.out; omega))) := by simp only [hj1]; exact kids_one HUP.out h1 (fun g2 => absurd g2 h2)
        have hjn : j1 < n := by omega
        have HB6 := HB
        have HKP6 := HKP
        have HQ6 := HQW
        have hw6 := hwr
        obtain ⟨w6, rfl⟩ : ∃ x, x = w5 := ⟨w5, rfl⟩
        clear hj1
        have HHJ := Lib.hid hjn
        obtain ⟨hg, b, cap, hqb, hr⟩ := HQ6.out
        have hq' : BoxQ g b (n + 1) cap w6 := by rw [← HPL.out]; exact hqb
        have hm2 := method_less g _ _ _ w6 hq'.cells.1
        have HLE2 := Lib.hid (less_any B b cap p j1 c (n + 1) w6 hr HPL.out hjp hcp)
        have HUD : Hid (ltP p[j1] p[c] = false → Heap (p.take n)) := fun e => dn_out HUP.out hjn hcn' HO.out e
        have HUS : Hid (ltP p[j1] p[c] = true → Dn (swp p c j1) n j1) := fun e => dn_step HUP.out HJ.out hjn e HO.out
        generalize ltP p[j1] p[c] = t2 at HLE2 HUD HUS
        have HR := Lib.hid hr
        have HQX := Lib.hid hq'
        have HG := Lib.hid hg
        have hcj : c < j1 := by rcases HJ.out with e | e <;> omega
        have hjle : j1 ≤ n := by omega
        clear hg hqb hr hq' hjn
        cases t2 with
        | false =>
          go_wp2_with fail
          refine HLE2.out.mono ?_
          rintro e w7 ⟨rfl, hb7⟩
          have HB7 := Lib.hid (HB6.out.trans (hb7.mono hw6))
          have HKP7 := Lib.hid (HKP6.out.tr (Kp.of hb7))
          have HF := Lib.hid (HQ6.out.below hb7)
          clear hb7
          go_wp2
          go_ret
          exact ⟨⟨_, rfl⟩, ⟨p, HF.out, HUD.out (by trivial), HP.out, HPN.out⟩, HB7.out, HKP7.out⟩
        | true =>
          go_wp2_with fail
          refine HLE2.out.mono ?_
          rintro e w7 ⟨rfl, hb7⟩
          have HB7 := Lib.hid (HB6.out.trans (hb7.mono hw6))
          have HKP7 := Lib.hid (HKP6.out.tr (Kp.of hb7))
          have hq7 : BoxQ g b (n + 1) cap w7 := HQX.out.below hb7 HQX.out.lt
          have HR7 := Lib.hid (HR.out.below hb7)
          have hm7 := method_swap g _ _ _ w7 hq7.cells.1
          have HQ7 := Lib.hid hq7
          clear hb7 hm2 hq7 HLE2
          have hsw := Lib.hid (swap_any B b cap p c j1 (n + 1) w7 HR7.out HPL.out hcp hjp)
          go_wp2_with fail
          refine hsw.out.mono ?_
          rintro e w8 ⟨rfl, hr8, hb8, ho8⟩
          have hne := HR7.out.ne HQ7.out
          have hq8 : BoxQ g b (n + 1) cap w8 := (ho8 g hne).trans HQ7.out
          have HF8 : Hid (HQ w8 B g (swp p c j1)) := ⟨HG.out, b, cap, by rw [swp_len, HPL.out]; exact hq8, hr8⟩
          have HB8 := Lib.hid (HB7.out.trans hb8)
          have HKP8 := Lib.hid (HKP7.out.tr (Kp.row HR7.out ho8))
          have HP8 : Hid ((swp p c j1).Perm q) := (swp_perm p c j1).trans HP.out
          have HL8 : Hid ((swp p c j1).length = n + 1) := by show _ = _; rw [swp_len]; exact HPL.out
          have HN8 : Hid ((swp p c j1)[n]? = q[n]?) := by
            show _ = _
            have := HHJ.out
            rw [← HPN.out, swp_eq hcp hjp, List.getElem?_set_ne (by omega), List.getElem?_set_ne (by omega)]
          have HU8 : Hid (Dn (swp p c j1) n j1) := HUS.out (by trivial)
          clear hr8 hb8 ho8 hne hq8 hsw hm7
          go_wp2_with fail
          go_roundw
          case rel => exact ⟨j1, swp p c j1, rfl, hjle, HL8, HU8, HP8, HN8, HF8, HB8, HKP8⟩
          case measure => simp [intOf]; omega
    · have h1i : ((n : Int) ≤ 2 * (c : Int) + 1) := by omega
      have HFIN : Hid (Heap (p.take n)) := dn_done HUP.out (fun g => absurd g h1) (fun g => by omega)
      go_wp2
      go_ret
      exact ⟨⟨_, rfl⟩, ⟨p, HQW.out, HFIN.out, HP.out, HPN.out⟩, HB.out, HKP.out⟩

theorem pop_any (B g n : Nat) (q : List Pl) (x : Pl) (w : World) (h : HQ w B g q) (hh : Heap q) (hq : q.length = n + 1) (hx : q[0]'(by omega) = x) (hn : n ≤ 900) :
    Calls Tryd.prog 35 #[.iface 55 (.pointer (some ⟨g, 0, none⟩))] w fun e w' => e = .returned (.iface 59 (.agg (lcell x))) ∧ (∃ q', HQ w' B g q' ∧ Heap q' ∧ (x :: q').Perm q) ∧ Below B w w' ∧ Kp w w' := by
  have hB : B ≤ w.heap.size := by have := h.1; have := h.lt; omega
  obtain ⟨hg, b, cap, hbx, hr⟩ := h
  rw [hq] at hbx
  have hm1 := method_len g _ _ _ w hbx.cells.1
  have hm2 := method_swap g _ _ _ w hbx.cells.1
  have HBX := Lib.hid hbx
  have HR := Lib.hid hr
  have HSW := Lib.hid (swap_any B b cap q 0 n (n + 1) w hr hq (by omega) (by omega))
  have hne := hr.ne hbx
  have HD := Lib.hid (dn_start hh hq)
  have HLS : Hid ((swp q 0 n).length = n + 1) := by show _ = _; rw [swp_len]; exact hq
  have HXN : Hid ((swp q 0 n)[n]? = some x) := by
    show _ = _
    rw [List.getElem?_eq_getElem (by rw [swp_len]; omega), swp_at (by omega) (by omega), if_pos rfl, hx]
  have HPS := Lib.hid (swp_perm q 0 n)
  clear hr hbx hh hx hq
  go_enter Tryd.func35, Tryd.ntmps35
  go_wp2_with fail
  refine (len_any _ _ _ _).mono ?_
  rintro e w1 ⟨rfl, rfl⟩
  go_wp2_with fail
  refine HSW.out.mono ?_
  rintro e w2 ⟨rfl, hr2, hb2, ho2⟩
  have HQ2 : Hid (HQ w2 B g (swp q 0 n)) := ⟨hg, b, cap, by rw [HLS.out]; exact (ho2 g hne).trans HBX.out, hr2⟩
  have HB2 := Lib.hid hb2
  have HK2 := Lib.hid (Kp.row HR.out ho2)
  have H3 := Lib.hid (down_any B g n (swp q 0 n) w2 HQ2.out HD.out HLS.out (by omega))
  clear hr2 hb2 ho2 hm1 hm2
  go_wp2_with fail
  refine H3.out.mono ?_
  rintro e w3 ⟨⟨v3, rfl⟩, ⟨p, hq3, hh3, hp3, hn3⟩, hb3, hk3⟩
  have hlp : p.length = n + 1 := by rw [hp3.length_eq]; exact HLS.out
  have hx3 : p[n]'(by omega) = x := by
    have := hn3.trans HXN.out
    rw [List.getElem?_eq_getElem (by omega)] at this
    exact Option.some.inj this
  have hm4 := method_pop g w3
  have HB3 := Lib.hid (HB2.out.trans hb3)
  have HK3 := Lib.hid (HK2.out.tr hk3)
  have hw3 := Nat.le_trans hB HB3.out.size
  have H4 := Lib.hid (qpop_any B g n p x w3 hq3 hlp hx3 (by omega) hw3)
  have HPF : Hid ((x :: p.take n).Perm q) := by
    have e1 : p = p.take n ++ [x] := by
      have h9 := List.take_append_drop n p
      have h8 : p.drop n = [x] := by
        rw [List.drop_eq_getElem_cons (by omega), hx3, List.drop_eq_nil_of_le (by omega)]
      rw [h8] at h9; exact h9.symm
    have h1 : (x :: p.take n).Perm (p.take n ++ [x]) := (List.perm_append_singleton x _).symm
    rw [← e1] at h1
    exact (h1.trans hp3).trans HPS.out
  have HH3 := Lib.hid hh3
  clear hb3 hq3 hh3 hp3 hn3 hlp hx3
  go_wp2_with fail
  refine H4.out.mono ?_
  rintro e w4 ⟨rfl, hq4, hb4, hk4⟩
  have HQ4 := Lib.hid hq4
  have HB4 := Lib.hid (HB3.out.trans hb4)
  have HK4 := Lib.hid (HK3.out.tr hk4)
  clear hq4 hb4
  go_wp2
  go_ret
  exact ⟨rfl, ⟨p.take n, HQ4.out, HH3.out, HPF.out⟩, HB4.out, HK4.out⟩
end Go.Proofs.YtgnkcgmmmkfkkaaDoor.Hep
