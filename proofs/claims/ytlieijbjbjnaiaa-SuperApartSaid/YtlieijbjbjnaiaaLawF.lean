/- The walk of SuperApart. -/
import Derived.Test.YtlieijbjbjnaiaaS13
namespace Go.Proofs.Ytlieijbjbjnaiaa.Sup
open Go.RowKit Crc Chk Frm Fra Go.Maps

/-- The step of a loop over the sectors that have been met. -/
theorem next_keys (w : World) {ops : Array Oper} {rest : List Oper} {o : Oper} {a : Act} {Q : Exit → Act → World → Prop} (hg : o.guard = none) (it : Operand) (hop : o.op = Op.next it false) (b r n : Nat) (D : DataW Unit) (left : Lit → Bool) (cnt : Nat)
    (hit : a.eval it = .pointer (some ⟨r, 0, none⟩)) (h : w.ranges Try.prog 3 (plainElem Try.prog 4) b r n D left cnt)
    (hDone : cnt = 0 → wpList Try.prog ops Q rest (a.put o.dst (.tuple #[.bool false])) w)
    (hMore : ∀ (x : Int) (v : Value) (w' : World) (cnt' : Nat), left (.int .i64 x) = true → w'.ranges Try.prog 3 (plainElem Try.prog 4) b r n D (fun z => left z && !z.sameKey (.int .i64 x)) cnt' → cnt' < cnt →
      w.grownBy w' (some r) → w'.heap.size = w.heap.size → (Instr.entry (.pointer (some ⟨r, 0, none⟩))).run Try.prog w' = .ok (.tuple #[.int .i64 x, v]) w' → wpList Try.prog ops Q rest (a.put o.dst (.tuple #[.bool true, .int .i64 x, v])) w') :
    wpList Try.prog ops Q (o :: rest) a w :=
  wpList_next_ranges w hg it hop 3 lawI (plainElem Try.prog 4) (Value.int .i64) Value.bool (fun key kl hkey => by obtain ⟨x, rfl, _⟩ := Maps.keyOf_int_inv Try.underlying3 hkey; exact ⟨x, rfl⟩) (fun v y hv => by obtain ⟨c, rfl, _⟩ := plainElem_bool_inv hv; exact ⟨c, rfl⟩) b r n D left cnt hit h
    (fun h0 _ => hDone h0) (fun x c kl y w' cnt' hkey hlk hv hat hrg hlt hgr hsz hen => by
      obtain ⟨x', ex, rfl, hwx⟩ := Maps.keyOf_int_inv Try.underlying3 hkey
      cases ex
      exact hMore x (.bool c) w' cnt' hlk hrg hlt hgr hsz hen)
theorem BoxP.grown {g : Nat} {l p : Int} {W W' : World} {row : Option Nat} (h : BoxP g l p W) (hg : W.grownBy W' row) (hlt : g < W.heap.size) (hne : some g ≠ row) : BoxP g l p W' := by
  have hb := hg.block g hlt hne
  refine ⟨?_, ?_⟩
  · have := h.1; unfold World.cell? at this ⊢; rw [hb]; exact this
  · have := h.2; unfold World.cell? at this ⊢; rw [hb]; exact this
set_option maxRecDepth 20000 in
set_option maxHeartbeats 6400000 in
theorem apart_yes (L Q : Nat) (w : World) (hf : fitsB L Q = true) (hq : Q ≤ 60) :
    Calls Try.prog 6 #[.agg #[.int .i64 (L : Int), .int .i64 (Q : Int)]] w fun e w' => e = .returned (.bool true) ∧ Below w.heap.size w w' := by
  have hx := fits_iff.1 hf
  obtain ⟨⟨l1, l2⟩, ⟨p1, p2⟩, lp⟩ := hx
  obtain ⟨H, hH⟩ : ∃ H, H = L + 8 * Q := ⟨_, rfl⟩
  have hH1 : H ≤ 2047 := by omega
  obtain ⟨SZ, hSZ⟩ : ∃ S, S = 2 + 2 * H := ⟨_, rfl⟩
  have HFT : Hid (∀ W, Calls Try.prog 21 #[.agg #[.int .i64 (L : Int), .int .i64 (Q : Int)]] W fun e w' => e = .returned (.bool true) ∧ Below W.heap.size W w') := fun W => fits_at L Q true W hf
  have HSZC : Hid (∀ W, Calls Try.prog 23 #[.agg #[.int .i64 (L : Int), .int .i64 (Q : Int)]] W fun e w' => e = .returned (.int .i64 (SZ : Int)) ∧ Below W.heap.size W w') := fun W => by
    have := size_yes L Q W hf
    rwa [show 2 + 2 * ((L : Int) + (Q : Int) * 8) = (SZ : Int) by omega] at this
  have HLG : Hid (∀ h base : Nat, h < 2 → base = 2 + h * H → ∀ W, Calls Try.prog 19 #[.agg #[.int .i64 (L : Int), .int .i64 (Q : Int)], .int .i64 (h : Int)] W fun e w' => e = .returned (.tuple #[.int .i64 (base : Int), .int .i64 0]) ∧ Below W.heap.size W w') := fun h base hh hb W => by
    have := log_yes L Q h W hf (within_iff.2 ⟨by omega, by omega⟩)
    rcases (show h = 0 ∨ h = 1 by omega) with rfl | rfl
    · rwa [show 2 + ((0 : Nat) : Int) * ((L : Int) + (Q : Int) * 8) = (base : Int) by omega] at this
    · rwa [show 2 + ((1 : Nat) : Int) * ((L : Int) + (Q : Int) * 8) = (base : Int) by omega] at this
  have HPG : Hid (∀ h base i N : Nat, h < 2 → base = 2 + h * H → i < Q → N = base + L + 8 * i → ∀ W, Calls Try.prog 20 #[.agg #[.int .i64 (L : Int), .int .i64 (Q : Int)], .int .i64 (h : Int), .int .i64 (i : Int)] W fun e w' => e = .returned (.tuple #[.int .i64 (N : Int), .int .i64 0]) ∧ Below W.heap.size W w') := fun h base i N hh hb hi hN W => by
    have := page_yes L Q h i W hf (within_iff.2 ⟨by omega, by omega⟩) (within_iff.2 ⟨by omega, by omega⟩)
    rcases (show h = 0 ∨ h = 1 by omega) with rfl | rfl
    · rwa [show 2 + ((0 : Nat) : Int) * ((L : Int) + (Q : Int) * 8) + (L : Int) + (i : Int) * 8 = (N : Int) by omega] at this
    · rwa [show 2 + ((1 : Nat) : Int) * ((L : Int) + (Q : Int) * 8) + (L : Int) + (i : Int) * 8 = (N : Int) by omega] at this
  have HHE := Lib.hid hH
  have HSE := Lib.hid hSZ
  have hL : L ≤ 500 := by omega
  have hsz1 : SZ ≤ 4096 := by omega
  clear hf l1 l2 p1 p2 lp hH hSZ
  obtain ⟨W0, hW0⟩ : ∃ W0, W0 = w.alloc (.cells #[.int .i64 (L : Int), .int .i64 (Q : Int)] 42) := ⟨_, rfl⟩
  have HB0 : Hid (BoxP w.heap.size L Q W0) := by rw [hW0]; exact boxP_new w L Q
  have HZ0 : Hid (Below w.heap.size w W0) := by rw [hW0]; exact (Below.refl _ _).alloc (Nat.le_refl _) _
  have hz0 : w.heap.size < W0.heap.size := by rw [hW0, alloc_size]; omega
  have HW0 := Lib.hid hW0
  clear hW0
  have hmm := @run_makeMap Try.prog
  go_enter Try.func6, Try.ntmps6
  go_wp2_with fail
  rw [← HW0.out]
  refine (HFT.out _).mono ?_
  rintro e w1 ⟨rfl, hb1⟩
  have HB1 := Lib.hid (HB0.out.below hb1 hz0)
  have HZ1 := Lib.hid (step' HZ0.out hb1 HZ0.out.size)
  have hz1 : w.heap.size < w1.heap.size := by have := hb1.size; omega
  clear hb1 HB0 HW0
  obtain ⟨k0, k1⟩ := HB1.out
  have HA0 : Hid (ApI w w1.heap.size L Q 0 (w1.alloc (.map #[] 0))) := by
    have hbb : Below w1.heap.size w1 (w1.alloc (.map #[] 0)) := (Below.refl _ _).alloc (Nat.le_refl _) _
    exact ⟨HB1.out.below hbb hz1, vis_new w1, step' HZ1.out hbb HZ1.out.size, hz1⟩
  obtain ⟨w2, hr2', hA1⟩ := HA0.out.put (by omega)
  obtain ⟨w3, hr3', hA2⟩ := hA1.put (by omega)
  have hr2 : (Instr.mapUpdate 50 (.map (some w1.heap.size)) (.int .i64 0) (.bool true)).run Try.prog (w1.alloc (.map #[] 0)) = .ok () w2 := hr2'
  have hr3 : (Instr.mapUpdate 50 (.map (some w1.heap.size)) (.int .i64 1) (.bool true)).run Try.prog w2 = .ok () w3 := hr3'
  have HA2 : Hid (ApI w w1.heap.size L Q 2 w3) := hA2
  clear hA1 hA2 hr2' hr3' HA0
  go_wp2_with fail
  clear hr2 hr3 hmm k0 k1
  go_loopw [4] (fun s4 wr => ∃ h N : Nat, h ≤ 2 ∧ s4 = .int .i64 h ∧ Hid (N = 2 + h * H) ∧ Hid (ApI w w1.heap.size L Q N wr)) (fun i _ => 2 - (intOf i).toNat)
  case atStart => exact ⟨0, 2, by omega, rfl, by show _ = _; omega, HA2⟩
  case round =>
    obtain ⟨h, base, hh, rfl, HN, HA⟩ := hrel
    obtain ⟨wo, rfl⟩ : ∃ y, y = wr := ⟨wr, rfl⟩
    by_cases hlt : h < 2
    · have hbase : base ≤ 2049 := by
        have := HN.out
        have := HHE.out
        rcases (show h = 0 ∨ h = 1 by omega) with rfl | rfl <;> omega
      obtain ⟨k0, k1⟩ := HA.out.p_
      go_wp2_with fail
      clear k0 k1
      refine (HLG.out h base hlt HN.out _).mono ?_
      rintro e w4 ⟨rfl, hb4⟩
      have HA4 := Lib.hid (HA.out.next hb4)
      clear hb4
      go_wp2_with fail
      go_loopw [7] (fun s7 wr => ∃ N : Nat, base ≤ N ∧ N ≤ base + L ∧ s7 = .int .i64 N ∧ Hid (ApI w w1.heap.size L Q N wr)) (fun i _ => base + L - (intOf i).toNat)
      case atStart => exact ⟨base, Nat.le_refl _, by omega, rfl, HA4⟩
      case round =>
        obtain ⟨N, hN1, hN2, rfl, HAN⟩ := hrel
        obtain ⟨k0, k1⟩ := HAN.out.p_
        by_cases hl2 : N < base + L
        · have hlk := vis_look HAN.out.v_ (by omega)
          obtain ⟨w5, hr5, hA5⟩ := HAN.out.put (by omega)
          have HA5 := Lib.hid hA5
          have hl2' : (N : Int) < base + L := by omega
          clear hA5
          go_wp2_with fail
          go_roundw
          case rel => exact ⟨N + 1, by omega, by omega, by go_num, HA5⟩
          case measure => simp [intOf]; omega
        · obtain rfl : N = base + L := by omega
          have hl2' : ¬ ((base : Int) + L < base + L) := by omega
          go_wp2_with fail
          clear k0 k1
          go_loopw [8] (fun s8 wr => ∃ i N : Nat, i ≤ Q ∧ s8 = .int .i64 i ∧ Hid (N = base + L + 8 * i) ∧ Hid (ApI w w1.heap.size L Q N wr)) (fun i _ => Q - (intOf i).toNat)
          case atStart => exact ⟨0, base + L, Nat.zero_le _, rfl, rfl, HAN⟩
          case round =>
            obtain ⟨i, N, hiq, rfl, HNI, HAI⟩ := hrel
            obtain ⟨wl, rfl⟩ : ∃ y, y = wr := ⟨wr, rfl⟩
            obtain ⟨k0, k1⟩ := HAI.out.p_
            by_cases hi : i < Q
            · have hN5 : N ≤ 5000 := by have := HNI.out; omega
              go_wp2_with fail
              clear k0 k1
              refine (HPG.out h base i N hlt HN.out hi HNI.out _).mono ?_
              rintro e w6 ⟨rfl, hb6⟩
              have HA6 := Lib.hid (HAI.out.next hb6)
              clear hb6
              go_wp2_with fail
              go_loopw [11] (fun s11 wr => ∃ M : Nat, N ≤ M ∧ M ≤ N + 8 ∧ s11 = .int .i64 M ∧ Hid (ApI w w1.heap.size L Q M wr)) (fun i _ => N + 8 - (intOf i).toNat)
              case atStart => exact ⟨N, Nat.le_refl _, by omega, rfl, HA6⟩
              case round =>
                obtain ⟨M, hM1, hM2, rfl, HAM⟩ := hrel
                by_cases hm : M < N + 8
                · have hlk := vis_look HAM.out.v_ (by omega)
                  obtain ⟨w7, hr7, hA7⟩ := HAM.out.put (by omega)
                  have HA7 := Lib.hid hA7
                  have hm' : (M : Int) < N + 8 := by omega
                  clear hA7
                  go_wp2_with fail
                  go_roundw
                  case rel => exact ⟨M + 1, by omega, by omega, by go_num, HA7⟩
                  case measure => simp [intOf]; omega
                · obtain rfl : M = N + 8 := by omega
                  have hm' : ¬ ((N : Int) + 8 < N + 8) := by omega
                  go_wp2_with fail
                  go_roundw
                  case rel => exact ⟨i + 1, N + 8, by omega, by go_num, by have := HNI.out; show _ = _; omega, HAM⟩
                  case measure => simp [intOf]; omega
            · obtain rfl : i = Q := by omega
              go_wp2_with fail
              go_roundw
              case rel => exact ⟨h + 1, N, by omega, by go_num, by
                have h1 := HNI.out
                have h2 := HN.out
                have h3 := HHE.out
                show _ = _
                rcases (show h = 0 ∨ h = 1 by omega) with rfl | rfl <;> omega, HAI⟩
              case measure => simp [intOf]; omega
    · obtain rfl : base = SZ := by
        have h1 := HN.out
        have h2 := HSE.out
        rw [show h = 2 by omega] at h1
        omega
      have hlt' : ¬ (h : Int) < 2 := by omega
      obtain ⟨D, hown, hhas, hsz⟩ := HA.out.v_
      have HHAS := Lib.hid hhas
      have HSIZE := Lib.hid hsz
      have HOWN := Lib.hid hown
      clear hhas hsz hown
      go_wp2_with (at_range; refine wpList_range_own _ rfl _ 50 rfl 3 4 lawI Try.underlying50 _ w1.heap.size _ D rfl HOWN.out ?_; intro w8 hrg0 hg0 hs0)
      try go_frame
      have hwo : w.heap.size < wo.heap.size := Nat.lt_trans HA.out.lt HA.out.v_.lt
      have HP8 := Lib.hid (HA.out.p_.grown hg0 hwo (by simp))
      have HZ8 := Lib.hid (HA.out.bl.grown hg0 HA.out.bl.size (fun k hk => by cases hk))
      have HWO := Lib.hid HA.out.bl.size
      obtain ⟨r, hr⟩ : ∃ r, r = wo.heap.size := ⟨_, rfl⟩
      rw [← hr] at hrg0 ⊢
      have hwr : w.heap.size < r := by omega
      clear hg0 hs0 hr hwo HWO HA HPG HLG
      go_loopw [12] (fun _ wr => ∃ (left : Lit → Bool) (cnt : Nat), wr.ranges Try.prog 3 (plainElem Try.prog 4) w1.heap.size r base D left cnt ∧ (∀ kl, left kl = true → Maps.has D kl = true) ∧ Hid (BoxP w.heap.size L Q wr) ∧ Hid (Below w.heap.size w wr)) (fun _ wr => wr.rangeLeft w1.heap.size r)
      case atStart => exact ⟨_, _, hrg0, fun _ h => h, HP8, HZ8⟩
      case round =>
        obtain ⟨left, cnt, hrg, hleft, HP, HZ⟩ := hrel
        have hwlt : w.heap.size < wr.heap.size := Nat.lt_trans hwr hrg.lt
        go_wp2_with (at_next; refine next_keys _ rfl _ rfl w1.heap.size r base D left cnt rfl hrg ?_ ?_)
        · intro _
          have HOW := Lib.hid hrg.owns
          obtain ⟨k0, k1⟩ := HP.out
          clear hrg hrg0 HOWN
          go_wp2_with (at_len; refine wpList_len_own _ rfl _ 50 rfl 3 4 Try.underlying50 _ w1.heap.size _ D rfl HOW.out ?_)
          rw [HSIZE.out]
          refine (HSZC.out _).mono ?_
          rintro e w9 ⟨rfl, hb9⟩
          have HZ9 := Lib.hid (step' HZ.out hb9 HZ.out.size)
          clear hb9
          go_wp2_with fail
          refine (awake_any _).mono ?_
          rintro e w10 ⟨rfl, hb10⟩
          have HZ10 := Lib.hid (step' HZ9.out hb10 HZ9.out.size)
          clear hb10
          go_wp2_with fail
          go_ret
          exact ⟨rfl, HZ10.out⟩
        · intro x vv w9 cnt9 hlk hrg1 hlt9 hg1 hs1 hen
          have hin := hleft _ hlk
          rw [HHAS.out] at hin
          obtain ⟨x1, x2⟩ := of_decide_eq_true hin
          have x1' : decide (x < 0) = false := by simpa using x1
          have x2' : decide ((base : Int) ≤ x) = false := by simpa using x2
          have HP9 := Lib.hid (HP.out.grown hg1 hwlt (fun e => by injection e with e; omega))
          have HZ9 := Lib.hid (HZ.out.grown hg1 HZ.out.size (fun k hk => by injection hk with hk; omega))
          have hw9 : w.heap.size < w9.heap.size := by omega
          have HR9 := Lib.hid hrg1
          have HRO := Lib.hid hrg
          have HLF := Lib.hid hleft
          obtain ⟨k0, k1⟩ := HP9.out
          clear hrg hrg1 hin hg1 hs1 hlk hleft HP HZ HOWN hrg0
          go_wp2_with fail
          refine (HSZC.out _).mono ?_
          rintro e w10 ⟨rfl, hb10⟩
          have HP10 := Lib.hid (HP9.out.below hb10 hw9)
          have HZ10 := Lib.hid (step' HZ9.out hb10 HZ9.out.size)
          have HR10 := Lib.hid (HR9.out.kept (grown_of hb10) (by simp) (by simp))
          clear hb10 hen k0 k1
          go_wp2_with fail
          go_roundw
          case rel => exact ⟨_, cnt9, HR10.out, fun kl h => HLF.out kl (by simp only [Bool.and_eq_true] at h; exact h.1), HP10, HZ10⟩
          case measure => rw [HR10.out.left_eq, HRO.out.left_eq]; exact hlt9
theorem apart_no (l p : Int) (w : World) (h : fitsB l p = false ∨ 60 < p) :
    Calls Try.prog 6 #[.agg #[.int .i64 l, .int .i64 p]] w fun e w' => e = .returned (.bool true) ∧ Below w.heap.size w w' := by
  obtain ⟨b, hb⟩ : ∃ b, fitsB l p = b := ⟨_, rfl⟩
  have HFT : Hid (∀ W, Calls Try.prog 21 #[.agg #[.int .i64 l, .int .i64 p]] W fun e w' => e = .returned (.bool b) ∧ Below W.heap.size W w') := fun W => fits_at l p b W hb
  have hh : b = false ∨ 60 < p := by rw [← hb]; exact h
  have HB := Lib.hid (boxP_new w l p)
  clear hb h
  cases b with
  | false =>
    clear hh
    go_enter Try.func6, Try.ntmps6
    go_wp2_with fail
    refine (HFT.out _).mono ?_
    rintro e w1 ⟨rfl, hb1⟩
    have HZ1 := Lib.hid (below_box hb1)
    clear hb1
    go_wp2_with fail
    refine (awake_any _).mono ?_
    rintro e w2 ⟨rfl, hb2⟩
    have HZ2 := Lib.hid (step' HZ1.out hb2 HZ1.out.size)
    clear hb2
    go_wp2_with fail
    go_ret
    exact ⟨rfl, HZ2.out⟩
  | true =>
    have hp : 60 < p := by rcases hh with h | h; cases h; exact h
    clear hh
    go_enter Try.func6, Try.ntmps6
    go_wp2_with fail
    refine (HFT.out _).mono ?_
    rintro e w1 ⟨rfl, hb1⟩
    have HZ1 := Lib.hid (below_box hb1)
    obtain ⟨k0, k1⟩ := HB.out.below hb1 (by rw [alloc_size]; omega)
    clear hb1
    go_wp2_with fail
    refine (awake_any _).mono ?_
    rintro e w2 ⟨rfl, hb2⟩
    have HZ2 := Lib.hid (step' HZ1.out hb2 HZ1.out.size)
    clear hb2
    go_wp2_with fail
    go_ret
    exact ⟨rfl, HZ2.out⟩
theorem apart_any (l p : Int) (w : World) :
    Calls Try.prog 6 #[.agg #[.int .i64 l, .int .i64 p]] w fun e w' => e = .returned (.bool true) ∧ Below w.heap.size w w' := by
  by_cases h : fitsB l p = false ∨ 60 < p
  · exact apart_no l p w h
  · have hf : fitsB l p = true := by
      cases hx : fitsB l p with
      | true => rfl
      | false => exact absurd (.inl hx) h
    have hp : p ≤ 60 := by omega
    have hx := fits_iff.1 hf
    obtain ⟨L, rfl⟩ : ∃ k : Nat, l = k := ⟨l.toNat, by omega⟩
    obtain ⟨Q, rfl⟩ : ∃ k : Nat, p = k := ⟨p.toNat, by omega⟩
    exact apart_yes L Q w hf (by omega)
end Go.Proofs.Ytlieijbjbjnaiaa.Sup
