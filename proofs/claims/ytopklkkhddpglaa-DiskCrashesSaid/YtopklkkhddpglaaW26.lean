/- Contracts: the document's May. -/
import Derived.Test.YtopklkkhddpglaaW16
namespace Go.Proofs.Ytopklkkhddpglaa
open Go.RowKit Dk

theorem getD_of {α : Type} (l : List α) (k : Nat) (x : α) (h : k < l.length) : l.getD k x = l[k] := by
  rw [List.getD_eq_getElem?_getD, List.getElem?_eq_getElem h]; rfl
theorem may_badS {S : List (List UInt8)} {W : Ws} {L : Int} (h : S.any badS = true) : may S W L = false := by
  unfold may secs; rw [h]; simp
theorem may_badW {S : List (List UInt8)} {W : Ws} {L : Int} (h : W.any (badW S.length) = true) : may S W L = false := by
  unfold may okW; rw [h]; simp
theorem may_rest {S : List (List UInt8)} {W : Ws} {L : Int} (h1 : S.any badS = false) (h2 : W.any (badW S.length) = false) : may S W L = (decide (1 ≤ S.length) && decide (S.length ≤ 4096) && decide (-1 ≤ L)) := by
  unfold may secs okW; rw [h1, h2]; simp
set_option maxRecDepth 100000 in
set_option maxHeartbeats 3200000 in
theorem rmay_any (A : Option Addr) (n c : Nat) (A' : Option Addr) (m c' : Nat) (S : List (List UInt8)) (W : Ws) (L : Int) (O : Bool) (w : World) (h : Dsk w A n c A' m c' S W) (hn : n ≤ 4611686018427387904) (hm : m ≤ 2305843009213693952) :
    Calls Try.prog 13 #[dv A n c A' m c' L O] w fun e w' => e = .returned (.bool (may S W L)) ∧ Below w.heap.size w w' := by
  obtain ⟨W0, hW0⟩ : ∃ W0, W0 = w.alloc (.cells #[.slice A n c, .slice A' m c', .int .i64 L, .bool O] 25) := ⟨_, rfl⟩
  have hb0 : Below w.heap.size w W0 := by rw [hW0]; exact (Below.refl _ _).alloc (Nat.le_refl _) _
  have BX : Hid (W0.heap[w.heap.size]? = some (.cells #[.slice A n c, .slice A' m c', .int .i64 L, .bool O] 25 (0, 0))) := by rw [hW0]; exact box_new _ _
  have DX := Lib.hid (h.below hb0)
  have HB0 := Lib.hid hb0
  have HW0 := Lib.hid hW0
  have HNS : Hid (S.length = n) := h.hn
  have HMW : Hid (W.length = m) := h.hm
  clear hW0 hb0 h
  go_enter Try.func13, Try.ntmps13
  go_upto_region 1 with fail
  rw [← HW0.out]
  obtain ⟨k0, k1, k2, k3, kf⟩ := cells_of4 BX.out
  go_wp2_with fail
  go_loop [3] (fun i => ∃ k : Nat, k ≤ n ∧ i = .int .i64 k ∧ Hid ((S.take k).any badS = false)) (fun i => n - (intOf i).toNat)
  case atStart => exact ⟨0, Nat.zero_le _, rfl, by show _ = _; simp⟩
  case round =>
    obtain ⟨k, hk, rfl, HR⟩ := hrel
    by_cases hlt : k < n
    · obtain ⟨b, o, A1, c1, e1, hbl, hc1, ho1, -⟩ := part_at DX.out.s DX.out.hn hlt
      subst e1
      have HA := Lib.hid (any_take_succ badS S k (by rw [HNS.out]; exact hlt))
      have HG := Lib.hid (getD_of S k [] (by rw [HNS.out]; exact hlt))
      rw [← HG.out] at HA
      have HQ : Hid (badS (S.getD k []) = true → S.any badS = true) := fun hb => any_of (k := k) (by rw [HNS.out]; exact hlt) (by rw [← HG.out]; exact hb)
      have HBS := Lib.hid (badS_iff (S.getD k []))
      obtain ⟨l, hl⟩ : ∃ l, l = S.getD k [] := ⟨_, rfl⟩
      rw [← hl] at hc1 HA HQ HBS
      obtain ⟨ll, hll⟩ : ∃ ll, ll = l.length := ⟨_, rfl⟩
      rw [← hll] at hc1 HBS
      clear hl ho1 hbl HG hll
      by_cases h64 : ll = 64
      · have hq : ((ll : Int) != 64) = false := by rw [h64]; rfl
        have HY := Lib.hid (HBS.out.2 h64)
        clear h64
        go_wp2_with fail
        go_round
        case rel => exact ⟨k + 1, by omega, by go_num, by show _ = _; rw [HA.out, HR.out, HY.out]; rfl⟩
        case measure => simp [intOf]; omega
      · have hq : ((ll : Int) != 64) = true := bne_iff_ne.2 (by omega)
        have hY : badS l = true := by
          cases hb : badS l with
          | true => rfl
          | false => exact absurd (HBS.out.1 hb) h64
        have HZ := Lib.hid (may_badS (W := W) (L := L) (HQ.out hY))
        clear h64 hY
        go_wp2_with fail
        go_ret
        exact ⟨retb HZ.out.symm, HB0.out⟩
    · obtain rfl : k = n := by omega
      have HS : Hid (S.any badS = false) := by
        have := HR.out
        rw [← HNS.out, List.take_length] at this
        exact this
      clear HR
      go_wp2_with fail
      clear k0 k1 k2 k3 kf
      go_loopw [4] (fun i wx => ∃ j : Nat, j ≤ m ∧ i = .int .i64 j ∧ Hid ((W.take j).any (badW k) = false) ∧ Below W0.heap.size W0 wx) (fun i _ => m - (intOf i).toNat)
      case atStart => exact ⟨0, Nat.zero_le _, rfl, by show _ = _; simp, Below.refl _ _⟩
      case round =>
        obtain ⟨j, hj, rfl, HR, hbx⟩ := hrel
        have HBX := Lib.hid hbx
        clear hbx
        obtain ⟨k0, k1, k2, k3, kf⟩ := cells_of4 (box_at BX.out HBX.out)
        by_cases hlt : j < m
        · obtain ⟨b, o, A1, c1, e1, hbl, hc1, hd1, ho1, hl1, hl2, hl3, hl4⟩ := pend_at2 DX.out.w_ DX.out.hm hlt
          subst e1
          have q1 := (HBX.out.cell (p := ⟨b, o + j * 2, none⟩) hbl).trans hc1
          have q2 := (HBX.out.cell (p := ⟨b, o + j * 2 + 1, none⟩) hbl).trans hd1
          have HA := Lib.hid (any_take_succ (badW k) W j (by rw [HMW.out]; exact hlt))
          have HG := Lib.hid (getD_of W j (0, []) (by rw [HMW.out]; exact hlt))
          rw [← HG.out] at HA
          have HQ : Hid (badW k (W.getD j (0, [])) = true → W.any (badW S.length) = true) := fun hb => by rw [HNS.out]; exact any_of (k := j) (by rw [HMW.out]; exact hlt) (by rw [← HG.out]; exact hb)
          have HBW := Lib.hid (badW_iff k (W.getD j (0, [])))
          obtain ⟨a, ha⟩ : ∃ a, a = (W.getD j (0, [])).1 := ⟨_, rfl⟩
          obtain ⟨l, hl⟩ : ∃ l, l = (W.getD j (0, [])).2 := ⟨_, rfl⟩
          rw [← ha] at q1 HBW hl3 hl4
          rw [← hl] at q2 HBW
          obtain ⟨ll, hll⟩ : ∃ ll, ll = l.length := ⟨_, rfl⟩
          rw [← hll] at q2 HBW
          clear ha hl hll ho1 hc1 hd1 hl1 hl2 HG
          by_cases hgood : ll = 64 ∧ 0 ≤ a ∧ a < k
          · obtain ⟨g1, g2, g3⟩ := hgood
            have HY := Lib.hid (HBW.out.2 ⟨g1, g2, g3⟩)
            have t1 : decide (a < 0) = false := by simpa using g2
            have t2 : decide ((k : Int) ≤ a) = false := by simpa using g3
            have t3 : ((ll : Int) != 64) = false := by rw [g1]; rfl
            clear g1 g2 g3
            go_wp2_with fail
            go_quiet (fail)
            go_wp2_with fail
            go_roundw
            case rel => exact ⟨j + 1, by omega, by go_num, by show _ = _; rw [HA.out, HR.out, HY.out]; rfl, ⟨HBX.out.os, HBX.out.tape, HBX.out.output, HBX.out.size, HBX.out.block⟩⟩
            case measure => simp [intOf]; omega
          · have hY : badW k (W.getD j (0, [])) = true := by
              cases hb : badW k (W.getD j (0, [])) with
              | true => rfl
              | false => exact absurd (HBW.out.1 hb) hgood
            have HZ := Lib.hid (may_badW (L := L) (HQ.out hY))
            have hcs : (a < 0) ∨ (0 ≤ a ∧ (k : Int) ≤ a) ∨ (0 ≤ a ∧ a < k ∧ ll ≠ 64) := by omega
            clear hY hgood
            rcases hcs with g1 | ⟨g1, g2⟩ | ⟨g1, g2, g3⟩
            · have t1 : decide (a < 0) = true := by simpa using g1
              clear g1
              go_wp2_with fail
              go_quiet (fail)
              go_wp2_with fail
              go_ret
              exact ⟨retb HZ.out.symm, HB0.out.trans (Below.mono ⟨HBX.out.os, HBX.out.tape, HBX.out.output, HBX.out.size, HBX.out.block⟩ HB0.out.size)⟩
            · have t1 : decide (a < 0) = false := by simpa using g1
              have t2 : decide ((k : Int) ≤ a) = true := by simpa using g2
              clear g1 g2
              go_wp2_with fail
              go_quiet (fail)
              go_wp2_with fail
              go_ret
              exact ⟨retb HZ.out.symm, HB0.out.trans (Below.mono ⟨HBX.out.os, HBX.out.tape, HBX.out.output, HBX.out.size, HBX.out.block⟩ HB0.out.size)⟩
            · have t1 : decide (a < 0) = false := by simpa using g1
              have t2 : decide ((k : Int) ≤ a) = false := by simpa using g2
              have t3 : ((ll : Int) != 64) = true := bne_iff_ne.2 (by omega)
              clear g1 g2 g3
              go_wp2_with fail
              go_quiet (fail)
              go_wp2_with fail
              go_ret
              exact ⟨retb HZ.out.symm, HB0.out.trans (Below.mono ⟨HBX.out.os, HBX.out.tape, HBX.out.output, HBX.out.size, HBX.out.block⟩ HB0.out.size)⟩
        · obtain rfl : j = m := by omega
          have HWm : Hid (W.any (badW S.length) = false) := by
            have := HR.out
            rw [← HMW.out, List.take_length, ← HNS.out] at this
            exact this
          have HF := Lib.hid (may_rest (L := L) HS.out HWm.out)
          rw [HNS.out] at HF
          clear HR
          by_cases g1 : 1 ≤ k
          · by_cases g2 : k ≤ 4096
            · by_cases g3 : -1 ≤ L
              · go_wp2_with fail
                go_ret
                exact ⟨retb (by rw [HF.out]; simp [g1, g2, g3]), HB0.out.trans (HBX.out.mono HB0.out.size)⟩
              · have g3' : decide (-1 ≤ L) = false := by simpa using g3
                go_wp2_with fail
                go_ret
                exact ⟨retb (by rw [HF.out]; simp [g1, g2]; omega), HB0.out.trans (HBX.out.mono HB0.out.size)⟩
            · have g2' : decide (k ≤ 4096) = false := by simpa using g2
              go_wp2_with fail
              go_ret
              exact ⟨retb (by rw [HF.out]; simp [g2]), HB0.out.trans (HBX.out.mono HB0.out.size)⟩
          · have g1' : decide (1 ≤ k) = false := by simpa using g1
            go_wp2_with fail
            go_ret
            exact ⟨retb (by rw [HF.out]; simp [g1]), HB0.out.trans (HBX.out.mono HB0.out.size)⟩
end Go.Proofs.Ytopklkkhddpglaa
