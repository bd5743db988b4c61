/- Contract: the document's Decode of what is sealed. -/
import Derived.Test.YtckbehojcjhcgaaN17
import Derived.Test.YtckbehojcjhcgaaN13
import Derived.Test.YtckbehojcjhcgaaNAnyB
import Derived.Deep.CutBlock
namespace Go.Proofs.Ytckbehojcjhcgaa.Nod
open Go.RowKit Crc Chk Frm Fra

theorem rexec5 {P : Program} {o : Oper} {a : Act} {w w' : World} {K : Act → World → Prop} {Q : Exit → Act → World → Prop} (h : (execOp a.eval o).run P w = .ok .skip w') (hk : K (a.put o.dst undef) w') : o.wp P a w K Q := by
  unfold Oper.wp
  rw [h]
  simpa [Oper.upon] using hk
theorem rexec4 {P : Program} {o : Oper} {a : Act} {w w' : World} {K : Act → World → Prop} {Q : Exit → Act → World → Prop} {v : Value} (h : (execOp a.eval o).run P w = .ok (.value v) w') (hk : K (a.put o.dst v) w') : o.wp P a w K Q := by
  unfold Oper.wp
  rw [h]
  exact hk
theorem row_lit {w : World} {base n n' size c : Nat} {e : TypeId} {A : Option Addr} {xs : List Value} (h : w.ownsRow base e size (.slice A n c) n' xs) : n = n' ∧ n ≤ c := by
  obtain ⟨A', c', e, hc⟩ := row_sl h
  injection e with e1 e2 e3
  subst e2 e3
  exact ⟨rfl, hc⟩
set_option maxRecDepth 20000 in
set_option maxHeartbeats 6400000 in
theorem rdec_go (l : T) (w : World) (hl : l.length = 512) (hs : soundB l = true) : Calls Try.prog 20 #[.string (text l)] w (DecD w (decD l)) := by
  obtain ⟨e, l1, l2⟩ := sum_split hl
  have HX : Hid (∀ W, Calls Try.prog 31 #[.string (text l)] W fun e w' => e = .returned (.tuple #[.string (text (l.take 508)), .int .i64 0]) ∧ Below W.heap.size W w') := fun W => by
    have := ropen_yes (l.take 508) (l.drop 508) W l2 (by omega) (by unfold soundB at hs; exact of_decide_eq_true hs)
    rwa [e] at this
  have HF : Hid (¬ (mayB (dNode (l.take 508)) = true ∧ pageL (dNode (l.take 508)) = l) → decD l = (Nd.nil, 4)) := fun hh => by
    unfold decD; rw [if_neg (by omega), if_neg (by rw [hs]; decide), if_neg hh]
  have HY : Hid (mayB (dNode (l.take 508)) = true ∧ pageL (dNode (l.take 508)) = l → decD l = (dNode (l.take 508), 0)) := fun hh => by
    unfold decD; rw [if_neg (by omega), if_neg (by rw [hs]; decide), if_pos hh]
  have hz := text_size l
  have HSL : Hid (∀ m : T, ((text m).toList == (text l).toList) = decide (m = l)) := fun m => by
    rw [text_toList, text_toList, Bool.eq_iff_iff]; simp
  obtain ⟨s, hs'⟩ : ∃ s, s = text l := ⟨_, rfl⟩
  rw [← hs'] at hz HX HSL ⊢
  obtain ⟨t, ht⟩ : ∃ t, t = l.take 508 := ⟨_, rfl⟩
  rw [← ht] at HX HF HY l1
  obtain ⟨N, hN⟩ : ∃ N, N = dNode t := ⟨_, rfl⟩
  rw [← hN] at HF HY
  have h1 : ((s.size : Int) != 512) = false := by simp; omega
  have h2 : s.size = 512 := by omega
  have hts := text_size t
  have HTL := Lib.hid l1
  obtain ⟨q, hq⟩ : ∃ q, q = oct1 t 0 := ⟨_, rfl⟩
  obtain ⟨m, hm⟩ : ∃ m, m = oct1 t 1 := ⟨_, rfl⟩
  have hq8 : q < 256 := by rw [hq]; exact oct1_lt t 0
  have hm8 : m < 256 := by rw [hm]; exact oct1_lt t 1
  have HN0 : Hid (q = 0 → N.ps = dPairs t m 2) := fun h => by rw [hN, hm]; unfold dNode; rw [← hq, h]; rfl
  have HN1 : Hid (q ≠ 0 → N.ps = []) := fun h => by rw [hN]; unfold dNode; rw [← hq]; dsimp only; rw [if_neg h]
  have HNC : Hid (N.cs = dKids t q 1) := by
    show _ = _
    rw [hN]; unfold dNode; rw [← hq]; dsimp only
    by_cases h : q = 0
    · rw [if_pos h, h]; rfl
    · rw [if_neg h]
  have HNK : Hid (N.ks = dKeys t (q - 1) (1 + 2 * q)) := by
    show _ = _
    rw [hN]; unfold dNode; rw [← hq]; dsimp only
    by_cases h : q = 0
    · rw [if_pos h, h]; rfl
    · rw [if_neg h]
  have HC0 : Hid (∀ W, Calls Try.prog 32 #[.string (text t), .int .i64 0] W fun e w' => e = .returned (.int .i64 q) ∧ W = w') := fun W => by rw [hq]; exact roct_any t 0 0 rfl W (by omega) (by omega)
  have HC1 : Hid (∀ W, Calls Try.prog 32 #[.string (text t), .int .i64 1] W fun e w' => e = .returned (.int .i64 m) ∧ W = w') := fun W => by rw [hm]; exact roct_any t 1 1 rfl W (by omega) (by omega)
  have HCO : Hid (∀ (a : Nat) (x : Int) (W : World), x = a → a ≤ 100000 → Calls Try.prog 32 #[.string (text t), .int .i64 x] W fun e w' => e = .returned (.int .i64 (oct1 t a : Nat)) ∧ W = w') := fun a x W hx ha => roct_any t a x hx W (by omega) ha
  have HCG : Hid (∀ (a : Nat) (W : World), a ≤ 90000 → Calls Try.prog 33 #[.string (text t), .int .i64 a] W fun e w' => e = .returned (.tuple #[.string (text (dGet t a).1), .int .i64 ((dGet t a).2 : Nat)]) ∧ W = w') := fun a W ha => rget_any t a W (by omega) ha
  have hw8 : (text t).size = 508 := by rw [hts]; exact l1
  obtain ⟨st, hst⟩ : ∃ st, st = text t := ⟨_, rfl⟩
  rw [← hst] at HX HC0 HC1 HCO HCG hw8
  have HZ : Hid (BoxN w.heap.size none 0 0 none 0 0 none 0 0 (w.alloc (.cells nil3 26))) := boxN_new w ..
  have HB : Hid (Below w.heap.size w (w.alloc (.cells nil3 26))) := (Below.refl _ _).alloc (Nat.le_refl _) _
  have hz1 : w.heap.size < (w.alloc (.cells nil3 26)).heap.size := by rw [alloc_size]; omega
  obtain ⟨W1, hW1⟩ : ∃ W1, W1 = w.alloc (.cells nil3 26) := ⟨_, rfl⟩
  rw [← hW1] at HZ HB hz1
  have HW := Lib.hid hW1
  have H2 := Lib.hid h2
  have H8 := Lib.hid hw8
  clear hs' hz hl hs l1 l2 e hW1 h2 ht hN hq hm hts hst hw8
  go_enter Try.func20, Try.ntmps20
  go_upto_region 1 with fail
  rw [← HW.out]
  go_wp2_with fail
  refine (HX.out _).mono ?_
  rintro e w2 ⟨rfl, hb⟩
  have HZ2 := Lib.hid (HZ.out.below hb hz1)
  have HB2 : Hid (Below w.heap.size w w2) := step' HB.out hb (by omega)
  have hz2 : w.heap.size < w2.heap.size := by have := hb.size; omega
  have HZ3 : Hid (BoxN w2.heap.size none 0 0 none 0 0 none 0 0 (w2.alloc (.cells nil3 26))) := boxN_new w2 ..
  have HB3 : Hid (Below w2.heap.size w2 (w2.alloc (.cells nil3 26))) := (Below.refl _ _).alloc (Nat.le_refl _) _
  have hz3 : (w2.alloc (.cells nil3 26)).heap.size = w2.heap.size + 1 := alloc_size _ _
  obtain ⟨W3, hW3⟩ : ∃ W3, W3 = w2.alloc (.cells nil3 26) := ⟨_, rfl⟩
  rw [← hW3] at HZ3 HB3 hz3
  have HW3 := Lib.hid hW3
  have HS3 : Hid (DSt w w2.heap.size none 0 0 none 0 0 none 0 0 W3) := ⟨HZ2.out.below HB3.out hz2, HZ3.out, step' HB2.out HB3.out (by omega), hz2, by omega⟩
  have H3 := Lib.hid hz3
  clear hb hW3 hz3 HZ HB HB2 HZ2 HZ3 HB3
  go_upto_region 7 with fail
  rw [← HW3.out]
  clear HW3 HW HX
  obtain ⟨z, hz⟩ : ∃ z, z = w2.heap.size := ⟨_, rfl⟩
  rw [← hz] at HS3 H3 hz2 ⊢
  clear hz
  go_wp2_with fail
  refine (HC0.out _).mono ?_
  rintro e w4 ⟨rfl, rfl⟩
  go_upto_if 31 with fail
  go_cut [7] (fun s7 wx => ∃ (a0 : Nat) (A : Option Addr) (n c : Nat), s7 = .int .i64 a0 ∧ a0 ≤ 509 ∧ (q ≠ 0 → a0 = 1) ∧ Prs wx wx.heap.size A N.ps ∧ n = N.ps.length ∧ n ≤ c ∧ n ≤ 1000 ∧ DSt w z A n c none 0 0 none 0 0 wx)
  case first =>
    by_cases hq0 : q = 0
    · have HPS := Lib.hid (HN0.out hq0)
      have hqb : ((q : Int) == 0) = true := by simp [hq0]
      have HQ0 := Lib.hid hq0
      clear hq0
      go_wp2_with fail
      refine (HC1.out _).mono ?_
      rintro e w5 ⟨rfl, rfl⟩
      go_wp2_with fail
      go_loopw [7, 10] (fun y i wr => ∃ (k A n c : _), k ≤ m ∧ i = .int .i64 (k : Nat) ∧ y = .int .i64 (dPairsAt t k 2 : Nat) ∧ Hid (wr.ownsRow (z + 1) 49 2 (.slice A n c) n (pcs (dPairs t k 2))) ∧ Hid (n = (dPairs t k 2).length) ∧ Hid (DSt w z A n c none 0 0 none 0 0 wr)) (fun _ i _ => m - (intOf i).toNat)
      case atStart => exact ⟨0, none, 0, 0, Nat.zero_le _, rfl, rfl, World.ownsRow_nil _ _ _ _, rfl, HS3.out⟩
      case round =>
        obtain ⟨k, A, n, c, hk, rfl, rfl, HO, HL, HS⟩ := hrel
        have hat : dPairsAt t k 2 ≤ 509 := by have := dPairsAt_le t k 2 (by rw [HTL.out]; omega); rw [HTL.out] at this; exact this
        have HFin : Hid ((k = m ∨ 508 < dPairsAt t k 2) → dPairs t k 2 = N.ps) := fun h => by
          rw [HPS.out]
          rcases h with rfl | h
          · rfl
          · have := dPairs_stop t k (m - k) 2 (by rw [HTL.out]; exact h)
            rw [show k + (m - k) = m by omega] at this
            exact this.symm
        have HSn := Lib.hid (fun h => dPairs_snoc t k 2 (by rw [HTL.out]; exact h))
        have hn1 : n ≤ 255 := by have := dPairs_len t k 2; rw [HL.out]; omega
        have hnc : n ≤ c := (row_lit HO.out).2
        obtain ⟨a, ha⟩ : ∃ a, a = dPairsAt t k 2 := ⟨_, rfl⟩
        rw [← ha] at hat HFin HSn ⊢
        obtain ⟨ps, hps⟩ : ∃ ps, ps = dPairs t k 2 := ⟨_, rfl⟩
        rw [← hps] at HO HL HFin HSn
        clear ha hps
        have h8 := H8.out
        by_cases hlt : k < m
        · by_cases hle : a ≤ 508
          · obtain ⟨HS1, HS2⟩ := (⟨Lib.hid (HSn.out hle).1, Lib.hid (HSn.out hle).2⟩ : Hid _ ∧ Hid _)
            have hG1 := HCG.out a
            have hb1 := dGet_le t a
            obtain ⟨b, hb⟩ : ∃ b, b = (dGet t a).2 := ⟨_, rfl⟩
            rw [← hb] at hG1 hb1 HS1 HS2
            have hG2 := HCG.out b
            obtain ⟨d, hd⟩ : ∃ d, d = (dGet t b).2 := ⟨_, rfl⟩
            obtain ⟨x, hx⟩ : ∃ x, x = (dGet t a).1 := ⟨_, rfl⟩
            obtain ⟨y, hy⟩ : ∃ y, y = (dGet t b).1 := ⟨_, rfl⟩
            rw [← hx] at hG1 HS1
            rw [← hd] at HS2
            rw [← hy] at HS1
            rw [← hd, ← hy] at hG2
            have hbb : b ≤ 509 := by rw [HTL.out] at hb1; exact hb1
            have HG1 := Lib.hid (fun W => hG1 W (by omega))
            have HG2 := Lib.hid (fun W => hG2 W (by omega))
            clear hb hd hx hy hG1 hG2 hb1 HFin HSn
            obtain ⟨tx, htx⟩ : ∃ u, u = text x := ⟨_, rfl⟩
            obtain ⟨ty, hty⟩ : ∃ u, u = text y := ⟨_, rfl⟩
            have hz9 := HS.out.z2
            have hb5 : Below wr.heap.size wr (wr.alloc (.cells #[.string tx, .string ty] 49)) := (Below.refl _ _).alloc (Nat.le_refl _) _
            have hz5 : wr.heap.size < (wr.alloc (.cells #[.string tx, .string ty] 49)).heap.size := by rw [alloc_size]; omega
            have hx5 := heap_alloc_new wr (.cells #[.string tx, .string ty] 49)
            have k5 : (wr.alloc (.cells #[.string tx, .string ty] 49)).cell? ⟨wr.heap.size, 0, none⟩ = some (.string tx) := by rw [cell_of_row _ _ 0 _ _ _ hx5]; rfl
            have k6 : (wr.alloc (.cells #[.string tx, .string ty] 49)).cell? ⟨wr.heap.size, 1, none⟩ = some (.string ty) := by rw [cell_of_row _ _ 1 _ _ _ hx5]; rfl
            obtain ⟨W5, hW5⟩ : ∃ W5, W5 = wr.alloc (.cells #[.string tx, .string ty] 49) := ⟨_, rfl⟩
            rw [← hW5] at hb5 hz5 k5 k6
            have HS5 := Lib.hid (HS.out.next hb5 (by omega))
            have hzb : z + 1 ≤ wr.heap.size := by omega
            obtain ⟨v2, w6, hrun, hown, hb6, hz6⟩ := run_appP W5 (z + 1) (.slice A n c) ps (by show World.ownsRow _ _ _ _ _ _ _; rw [← HL.out]; exact row_below HO.out hb5 (Nat.le_refl _)) x y (by rw [← HL.out]; omega) (by omega)
            rw [← htx, ← hty] at hrun
            obtain ⟨A2, c2, rfl, hc2⟩ := row_sl hown
            have hl2 : (ps ++ [(x, y)]).length = n + 1 := by rw [List.length_append, ← HL.out]; rfl
            rw [hl2] at hrun hown hc2
            have HS6 := Lib.hid (HS5.out.next hb6 (Nat.le_refl _))
            obtain ⟨W7, hW7⟩ : ∃ W7, W7 = w6.setCell ⟨z, 0, none⟩ (.slice A2 (n + 1) c2) := ⟨_, rfl⟩
            have HS7 : Hid (DSt w z A2 (n + 1) c2 none 0 0 none 0 0 W7) := by rw [hW7]; exact HS6.out.set 0 _ (HS6.out.bx.set0 A2 (n + 1) c2)
            have HO7 : Hid (W7.ownsRow (z + 1) 49 2 (.slice A2 (n + 1) c2) (n + 1) (pcs (dPairs t (k + 1) 2))) := by
              show World.ownsRow _ _ _ _ _ _ _
              have h5 := hown
              unfold OwnP at h5
              rw [hl2] at h5
              rw [HS1.out, hW7]
              exact ownsRow_setCell_other h5 (a := ⟨z, 0, none⟩) (row_ne h5 HS6.out.bx (by decide)) _
            have HL7 : Hid (n + 1 = (dPairs t (k + 1) 2).length) := by show _ = _; rw [HS1.out]; exact hl2.symm
            have HR := Lib.hid hrun
            have HW5 := Lib.hid hW5
            have HW7 := Lib.hid hW7
            have HK5 := Lib.hid k5
            have HK6 := Lib.hid k6
            have HH5 := Lib.hid hb5
            obtain ⟨q0, q1, q2, q4⟩ := HS6.out.bx.cells
            have hz61 := HS6.out.z2
            rw [← htx] at HG1
            rw [← hty] at HG2
            clear htx hty hx5 hb5 hrun hown hc2 hl2 hW5 hW7 hb6 hz6 k5 k6 hz5
            go_wp2_with fail
            refine (HG1.out _).mono ?_
            rintro e w8 ⟨rfl, rfl⟩
            go_wp2_with fail
            refine (HG2.out _).mono ?_
            rintro e w8 ⟨rfl, rfl⟩
            go_upto_region 18 with fail
            rw [← HW5.out]
            obtain ⟨k0, k1, k2, k4⟩ := HS5.out.bx.cells
            have k5 := HK5.out
            have k6 := HK6.out
            go_wp2_with (at_builtin; refine Go.Lib.wpList_append_run _ rfl (.tmp 61) (.tmp 63) 22 22 rfl _ _ rfl rfl _ w6 HR.out ?_)
            rw [← HW7.out, ← HS2.out]
            clear k0 k1 k2 k4 k5 k6 q0 q1 q2 q4
            go_roundw
            case rel => exact ⟨k + 1, A2, n + 1, c2, by omega, by go_num, rfl, HO7.out, HL7.out, HS7.out⟩
            case measure => simp [intOf]; omega
          · have hps := HFin.out (.inr (by omega))
            have HPr : Hid (Prs wr wr.heap.size A N.ps) := by show Prs _ _ _ _; rw [← hps]; exact prs_of HO.out HL.out
            have HLn : Hid (n = N.ps.length) := by show _ = _; rw [← hps]; exact HL.out
            clear hps HFin HSn HO HL
            go_wp2_with fail
            go_meet
            exact ⟨a, A, n, c, rfl, hat, fun h => absurd HQ0.out h, HPr.out, HLn.out, hnc, by omega, HS.out⟩
        · have hps := HFin.out (.inl (by omega))
          have HPr : Hid (Prs wr wr.heap.size A N.ps) := by show Prs _ _ _ _; rw [← hps]; exact prs_of HO.out HL.out
          have HLn : Hid (n = N.ps.length) := by show _ = _; rw [← hps]; exact HL.out
          clear hps HFin HSn HO HL
          go_wp2_with fail
          go_meet
          exact ⟨a, A, n, c, rfl, hat, fun h => absurd HQ0.out h, HPr.out, HLn.out, hnc, by omega, HS.out⟩
    · have HPS := Lib.hid (HN1.out hq0)
      go_wp2_with fail
      go_meet
      refine ⟨1, none, 0, 0, rfl, by omega, fun _ => rfl, ?_, ?_, by omega, by omega, HS3.out⟩
      · rw [HPS.out]; exact fun i hi => by cases hi
      · rw [HPS.out]; rfl
  case rest =>
  obtain ⟨a0, A, n, c, rfl, ha0, hqa, hpr, hnl, hnc, hn1, hds⟩ := hcut
  obtain ⟨W5, rfl⟩ : ∃ x, x = wc := ⟨wc, rfl⟩
  have HS5 := Lib.hid hds
  have HP5 := Lib.hid hpr
  have HNL := Lib.hid hnl
  have HQA := Lib.hid hqa
  clear hds hpr hnl hqa HS3 H3 HC0 HC1 HN0
  go_wp2_with fail
  go_loopw [7, 12] (fun y i wr => ∃ (k p A' n' c' : _), k ≤ q ∧ i = .int .i64 (k : Nat) ∧ y = .int .i64 (p : Nat) ∧ Hid (p = a0 + 2 * k) ∧ Hid (wr.ownsRow W5.heap.size 3 1 (.slice A' n' c') n' (kcs (dKids t k 1))) ∧ n' = k ∧ Hid (DSt w z A n c none 0 0 A' n' c' wr) ∧ Hid (Prs wr W5.heap.size A N.ps) ∧ W5.heap.size ≤ wr.heap.size) (fun _ i _ => q - (intOf i).toNat)
  case atStart => exact ⟨0, a0, none, 0, 0, Nat.zero_le _, rfl, rfl, rfl, World.ownsRow_nil _ _ _ _, rfl, HS5.out, HP5.out, Nat.le_refl _⟩
  case round =>
    obtain ⟨k, p, A', n', c', hk, rfl, rfl, HPP, HO, rfl, HS, HP, hsz⟩ := hrel
    obtain ⟨k0, k1, k2, k4⟩ := HS.out.bx.cells
    have hzw : z < (wr.drewN 1).heap.size := HS.out.z2
    have hzl : z < W5.heap.size := HS5.out.z2
    have hcc : n' ≤ c' := (row_lit HO.out).2
    by_cases hlt : n' < q
    · have ha1 : a0 = 1 := HQA.out (by omega)
      have HP1 : Hid (p = 1 + 2 * n') := by show _ = _; rw [HPP.out, ha1]
      have HA1 := Lib.hid ha1
      have hp5 : p ≤ 600 := by have := HP1.out; omega
      have HSn := Lib.hid (dKids_snoc t n' 1)
      have HDk : Hid (dKid t (1 + 2 * n') = 256 * (oct1 t p : Int) + (oct1 t (p + 1) : Int)) := by show _ = _; rw [← HP1.out]; unfold dKid; omega
      have HG1 := Lib.hid (fun W => HCO.out p p W rfl (by omega))
      have HG2 := Lib.hid (fun W => HCO.out (p + 1) ((p : Int) + 1) W (by omega) (by omega))
      have ho1 := oct1_lt t p
      have ho2 := oct1_lt t (p + 1)
      obtain ⟨o1, ho1'⟩ : ∃ o, o = oct1 t p := ⟨_, rfl⟩
      obtain ⟨o2, ho2'⟩ : ∃ o, o = oct1 t (p + 1) := ⟨_, rfl⟩
      rw [← ho1'] at HG1 HDk ho1
      rw [← ho2'] at HG2 HDk ho2
      have hkl := dKids_len t n' 1
      obtain ⟨v2, w6, hrun, hown, hb6, hz6⟩ := run_appK (wr.drewN 1) W5.heap.size (.slice A' n' c') (dKids t n' 1) (by show World.ownsRow _ _ _ _ _ _ _; rw [hkl]; exact HO.out) (256 * (o1 : Int) + (o2 : Int)) (by omega) hsz
      obtain ⟨A2, c2, rfl, hc2⟩ := row_sl hown
      have hl2 : (dKids t n' 1 ++ [256 * (o1 : Int) + (o2 : Int)]).length = n' + 1 := by rw [List.length_append, hkl]; rfl
      rw [hl2] at hrun hown hc2
      have hb6' : Below W5.heap.size wr w6 := ((below_drewN wr 1).mono hsz).trans hb6
      have HS6 := Lib.hid (HS.out.next hb6' (by omega))
      obtain ⟨W7, hW7⟩ : ∃ W7, W7 = w6.setCell ⟨z, 2, none⟩ (.slice A2 (n' + 1) c2) := ⟨_, rfl⟩
      have HS7 : Hid (DSt w z A n c none 0 0 A2 (n' + 1) c2 W7) := by rw [hW7]; exact HS6.out.set 2 _ (HS6.out.bx.set2 A2 (n' + 1) c2)
      have HO7 : Hid (W7.ownsRow W5.heap.size 3 1 (.slice A2 (n' + 1) c2) (n' + 1) (kcs (dKids t (n' + 1) 1))) := by
        show World.ownsRow _ _ _ _ _ _ _
        have h5 := hown
        unfold OwnK at h5
        rw [hl2] at h5
        rw [HSn.out, HDk.out, hW7]
        exact ownsRow_setCell_other h5 (a := ⟨z, 2, none⟩) (row_ne h5 HS6.out.bx (by decide)) _
      have HP7 : Hid (Prs W7 W5.heap.size A N.ps) := by rw [hW7]; exact (HP.out.below hb6' (Nat.le_refl _)).box (by have := hb6'.size; omega) HS6.out.bx 2 _
      have hsz7 : W5.heap.size ≤ W7.heap.size := by rw [hW7]; have := hb6'.size; simpa [World.setCell] using (by omega : W5.heap.size ≤ w6.heap.size)
      have HR := Lib.hid hrun
      have HW7 := Lib.hid hW7
      obtain ⟨q0, q1, q2, q4⟩ := HS6.out.bx.cells
      have hz61 := HS6.out.z2
      clear ho1' ho2' hkl hrun hown hc2 hl2 hb6 hb6' hz6 hW7 HSn ha1
      have HV1 : Hid (IntKind.i64.wrap (256 * (o1 : Int)) = 256 * (o1 : Int)) := by show _ = _; rw [IntKind.wrap_i64]; omega
      have HV2 : Hid (IntKind.i64.wrap ((p : Int) + 1) = (p : Int) + 1) := by show _ = _; rw [IntKind.wrap_i64]; omega
      have HV3 : Hid (IntKind.i64.wrap (256 * (o1 : Int) + (o2 : Int)) = 256 * (o1 : Int) + (o2 : Int)) := by show _ = _; rw [IntKind.wrap_i64]; omega
      go_upto_region 22 with fail
      refine wp_region_chain2 (by kernel_rfl) (fun i => [.pointer (some ⟨z, 2, none⟩), .slice A' n' c', .string st, .int .i64 p, .int .i64 o1, .int .i64 (256 * (o1 : Int)), .string st, .int .i64 p, .int .i64 ((p : Int) + 1), .int .i64 o2, .int .i64 (256 * (o1 : Int) + (o2 : Int)), .slice (some ⟨wr.heap.size, 0, none⟩) 1 1, .slice A2 (n' + 1) c2, .pointer (some ⟨z, 2, none⟩), undef].getD i undef) [4, 9, 10, 11, 12, 14] []
        (fun vs x => (vs.length ≤ 3 → x = wr.drewN 1) ∧ (vs.length = 4 → x = (wr.drewN 1).alloc (.cells #[.int .i64 (256 * (o1 : Int) + (o2 : Int))] 3)) ∧ (vs.length = 5 → x = w6) ∧ (vs.length = 6 → x = W7))
        ⟨fun _ => rfl, (fun h => by cases h), (fun h => by cases h), (fun h => by cases h)⟩ (by kernel_rfl) (backsB_spec (by kernel_rfl)) (by kernel_rfl) (by decide) (by decide) ?pure22 ?acts22 ?fin22
      case pure22 =>
        intro i vs o listed a1 x hic ho hR hkle hlen hk hund hdep
        obtain ⟨r0, r1, r2, r3⟩ := hR
        have hi : i < 15 := (Array.getElem?_eq_some_iff.1 ho).1
        have e4 := ev (show a1.eval (.tmp 4) = .string st from hk.frame 4 (frame_of (by kernel_rfl)))
        have e6 := ev (show a1.eval (.tmp 6) = .pointer (some ⟨z, 0, none⟩) from hk.frame 6 (frame_of (by kernel_rfl)))
        have e7 := ev (show a1.eval (.tmp 7) = .int .i64 p from hk.frame 7 (frame_of (by kernel_rfl)))
        have hii : i = 0 ∨ i = 1 ∨ i = 2 ∨ i = 3 ∨ i = 5 ∨ i = 6 ∨ i = 7 ∨ i = 8 ∨ i = 13 := by simp at hic; omega
        rcases hii with rfl | rfl | rfl | rfl | rfl | rfl | rfl | rfl | rfl
        · cases ho
          exact ⟨rfl, by go_simp⟩
        · have h3 : vs.length ≤ 4 := hkle 4 12 rfl (by kernel_rfl)
          have hx : x.cell? ⟨z, 2, none⟩ = some (.slice A' n' c') := by
            rcases Nat.lt_or_ge vs.length 4 with h | h
            · rw [r0 (by omega)]; exact k2
            · rw [r1 (by omega)]; exact (World.cell?_alloc_lt _ _ ⟨z, 2, none⟩ hzw).trans k2
          cases ho
          have d0 := ev (show a1.eval (.tmp 71) = .pointer (some ⟨z, 2, none⟩) from hk.done 0 _ 71 rfl rfl (hdep ⟨0, .data⟩ (by simp) rfl) (by decide))
          exact ⟨rfl, by go_simp⟩
        · cases ho
          exact ⟨rfl, by simp [execOp, e4, Act.eval]⟩
        · cases ho
          exact ⟨rfl, by simp [execOp, e7, Act.eval]⟩
        · cases ho
          have d4 := ev (show a1.eval (.tmp 75) = .int .i64 o1 from hk.done 4 _ 75 rfl rfl (hdep ⟨4, .data⟩ (by simp) rfl) (by decide))
          exact ⟨rfl, by go_simp; exact HV1.out⟩
        · cases ho
          exact ⟨rfl, by simp [execOp, e4, Act.eval]⟩
        · cases ho
          exact ⟨rfl, by simp [execOp, e7, Act.eval]⟩
        · cases ho
          have d7 := ev (show a1.eval (.tmp 78) = .int .i64 p from hk.done 7 _ 78 rfl rfl (hdep ⟨7, .data⟩ (by simp) rfl) (by decide))
          exact ⟨rfl, by go_simp; exact HV2.out⟩
        · cases ho
          exact ⟨rfl, by go_simp⟩
      case acts22 =>
        intro i vs o listed a1 x hj ho hev hR hk hund hdep
        obtain ⟨r0, r1, r2, r3⟩ := hR
        have hjj : vs.length = 0 ∨ vs.length = 1 ∨ vs.length = 2 ∨ vs.length = 3 ∨ vs.length = 4 ∨ vs.length = 5 := by
          have := (List.getElem?_eq_some_iff.1 hj).1
          simp at this; omega
        have e4 := ev (show a1.eval (.tmp 4) = .string st from hk.frame 4 (frame_of (by kernel_rfl)))
        have hap : ∀ v : Value, (vs ++ [v]).length = vs.length + 1 := fun v => by rw [List.length_append]; rfl
        rcases hjj with hj0 | hj0 | hj0 | hj0 | hj0 | hj0
        · rw [hj0] at hj
          cases hj
          cases ho
          have d2 := ev (show a1.eval (.tmp 73) = .string st from hk.done 2 _ 73 rfl rfl (hdep ⟨2, .data⟩ (by simp) rfl) (by decide))
          have d3 := ev (show a1.eval (.tmp 74) = .int .i64 p from hk.done 3 _ 74 rfl rfl (hdep ⟨3, .data⟩ (by simp) rfl) (by decide))
          have hx := r0 (by omega)
          subst hx
          refine ⟨rfl, ?_⟩
          go_simp
          refine (HG1.out _).mono ?_
          rintro e x' ⟨rfl, rfl⟩
          exact ⟨_, rfl, rfl, rfl⟩
        · rw [hj0] at hj
          cases hj
          cases ho
          have d6 := ev (show a1.eval (.tmp 77) = .string st from hk.done 6 _ 77 rfl rfl (hdep ⟨6, .data⟩ (by simp) rfl) (by decide))
          have d8 := ev (show a1.eval (.tmp 79) = .int .i64 ((p : Int) + 1) from hk.done 8 _ 79 rfl rfl (hdep ⟨8, .data⟩ (by simp) rfl) (by decide))
          have hx := r0 (by omega)
          subst hx
          refine ⟨rfl, ?_⟩
          go_simp
          refine (HG2.out _).mono ?_
          rintro e x' ⟨rfl, rfl⟩
          exact ⟨_, rfl, rfl, rfl⟩
        · rw [hj0] at hj
          cases hj
          cases ho
          have d5 := ev (show a1.eval (.tmp 76) = .int .i64 (256 * (o1 : Int)) from hk.done 5 _ 76 rfl rfl (hdep ⟨5, .data⟩ (by simp) rfl) (by decide))
          have d9 := ev (show a1.eval (.tmp 80) = .int .i64 o2 from hk.done 9 _ 80 rfl rfl (hdep ⟨9, .data⟩ (by simp) rfl) (by decide))
          have hx := r0 (by omega)
          subst hx
          refine ⟨rfl, rexec4 (v := .int .i64 (256 * (o1 : Int) + (o2 : Int))) (w' := wr.drewN 1) (by go_simp; exact HV3.out) ?_⟩
          exact ⟨_, rfl, (fun _ => rfl), ⟨fun _ => rfl, (fun h => by rw [hap] at h; omega), (fun h => by rw [hap] at h; omega), (fun h => by rw [hap] at h; omega)⟩⟩
        · rw [hj0] at hj
          cases hj
          cases ho
          have d10 := ev (show a1.eval (.tmp 81) = .int .i64 (256 * (o1 : Int) + (o2 : Int)) from hk.done 10 _ 81 rfl rfl (hdep ⟨10, .data⟩ (by simp) rfl) (by decide))
          have hx := r0 (by omega)
          subst hx
          refine ⟨rfl, rexec4 (v := .slice (some ⟨wr.heap.size, 0, none⟩) 1 1) (w' := (wr.drewN 1).alloc (.cells #[.int .i64 (256 * (o1 : Int) + (o2 : Int))] 3)) (by go_simp) ?_⟩
          exact ⟨_, rfl, (fun _ => rfl), ⟨(fun h => by rw [hap] at h; omega), fun _ => rfl, (fun h => by rw [hap] at h; omega), (fun h => by rw [hap] at h; omega)⟩⟩
        · rw [hj0] at hj
          cases hj
          cases ho
          have hx := r1 hj0
          subst hx
          have D1 : a1.eval (.tmp 72) = .slice A' n' c' := hk.done 1 _ 72 rfl rfl (hdep ⟨1, .data⟩ (by simp) rfl) (by decide)
          have D11 : a1.eval (.tmp 82) = .slice (some ⟨wr.heap.size, 0, none⟩) 1 1 := hk.done 11 _ 82 rfl rfl (hdep ⟨11, .data⟩ (by simp) rfl) (by decide)
          refine ⟨rfl, Go.Lib.wp_append_run _ (.tmp 72) (.tmp 82) 24 24 rfl _ _ D1 D11 _ w6 HR.out ?_⟩
          exact ⟨_, rfl, (fun _ => rfl), ⟨(fun h => by rw [hap] at h; omega), (fun h => by rw [hap] at h; omega), fun _ => rfl, (fun h => by rw [hap] at h; omega)⟩⟩
        · rw [hj0] at hj
          cases hj
          cases ho
          have hx := r2 hj0
          subst hx
          have d12 := ev (show a1.eval (.tmp 83) = .slice A2 (n' + 1) c2 from hk.done 12 _ 83 rfl rfl (hdep ⟨12, .data⟩ (by simp) rfl) (by decide))
          have d13 := ev (show a1.eval (.tmp 84) = .pointer (some ⟨z, 2, none⟩) from hk.done 13 _ 84 rfl rfl (hdep ⟨13, .data⟩ (by simp) rfl) (by decide))
          refine ⟨rfl, rexec5 (w' := W7) (by rw [HW7.out]; go_simp) ?_⟩
          exact ⟨undef, rfl, (fun _ => rfl), ⟨(fun h => by rw [hap] at h; omega), (fun h => by rw [hap] at h; omega), (fun h => by rw [hap] at h; omega), fun _ => rfl⟩⟩
      case fin22 =>
        intro vs listed a2 x hall hlen hev hR hk
        have hx : x = W7 := hR.2.2.2 hlen
        subst hx
        have hact := fr_all [71, 72, 73, 74, 75, 76, 77, 78, 79, 80, 81, 82, 83, 84] hk (by kernel_rfl)
        simp only [List.foldl_cons, List.foldl_nil, List.setIfInBounds_toArray, List.set_cons_succ, List.set_cons_zero] at hact
        generalize a2.eval (.tmp 71) = u71' at hact
        generalize a2.eval (.tmp 72) = u72' at hact
        generalize a2.eval (.tmp 73) = u73' at hact
        generalize a2.eval (.tmp 74) = u74' at hact
        generalize a2.eval (.tmp 75) = u75' at hact
        generalize a2.eval (.tmp 76) = u76' at hact
        generalize a2.eval (.tmp 77) = u77' at hact
        generalize a2.eval (.tmp 78) = u78' at hact
        generalize a2.eval (.tmp 79) = u79' at hact
        generalize a2.eval (.tmp 80) = u80' at hact
        generalize a2.eval (.tmp 81) = u81' at hact
        generalize a2.eval (.tmp 82) = u82' at hact
        generalize a2.eval (.tmp 83) = u83' at hact
        generalize a2.eval (.tmp 84) = u84' at hact
        clear hev hR hk hall
        rw [hact]
        clear hact k0 k1 k2 k4 q0 q1 q2 q4
        go_wp2_with fail
        go_roundw
        case rel => exact ⟨n' + 1, p + 2, A2, n' + 1, c2, by omega, by go_num, by go_num, (show p + 2 = a0 + 2 * (n' + 1) by have h1 := HP1.out; have h2 := HA1.out; omega), HO7.out, rfl, HS7.out, HP7.out, hsz7⟩
        case measure => simp [intOf]; omega
    · obtain rfl : n' = q := by omega
      obtain ⟨W6, rfl⟩ : ∃ y, y = wr := ⟨wr, rfl⟩
      have HKd : Hid (Kds W6 W6.heap.size A' N.cs) := by show Kds _ _ _ _; rw [HNC.out]; exact kds_of HO.out (dKids_len _ _ _).symm (dKids_range _ _ _)
      have HP6 := Lib.hid (HP.out)
      have HNk : Hid (N.ks = dKeys t (n' - 1) p) := by
        show _ = _
        rw [HNK.out]
        by_cases h : n' = 0
        · rw [h]; rfl
        · have h1 := HPP.out
          have h2 := HQA.out h
          rw [h1, h2]
      have HS6 := Lib.hid HS.out
      have hz6 : z < W6.heap.size := HS.out.z2
      have hn8 : n' ≤ 255 := by omega
      have HCl : Hid (N.cs.length = n') := by show _ = _; rw [HNC.out, dKids_len]
      clear HO HP HS k0 k1 k2 k4 HPP HQA
      go_upto_block 4 with fail
      go_cut [7] (fun s7 wx => s7 = s7 ∧ ∃ A2 n2 c2, DSt w z A n c A2 n2 c2 A' n' c' wx ∧ IsN wx wx.heap.size N A n c A2 n2 c2 A' n' c')
      case first =>
        go_wp2_with fail
        go_loopw [7, 13] (fun y i wr => ∃ (j g x A2 n2 c2 : _), g ≤ n' + 1 ∧ i = .int .i64 (g : Nat) ∧ y = .int .i64 (x : Nat) ∧ Hid (g = 1 + j) ∧ Hid (j ≤ n' - 1) ∧ Hid (x = dKeysAt t j p) ∧ Hid (wr.ownsRow W6.heap.size 9 1 (.slice A2 n2 c2) n2 (tcs (dKeys t j p))) ∧ Hid (n2 = (dKeys t j p).length) ∧ n2 ≤ 255 ∧ Hid (DSt w z A n c A2 n2 c2 A' n' c' wr) ∧ Hid (Prs wr W6.heap.size A N.ps) ∧ Hid (Kds wr W6.heap.size A' N.cs) ∧ W6.heap.size ≤ wr.heap.size) (fun _ i _ => n' + 1 - (intOf i).toNat)
        case atStart => exact ⟨0, 1, p, none, 0, 0, by omega, rfl, rfl, rfl, Nat.zero_le _, rfl, World.ownsRow_nil _ _ _ _, rfl, by omega, HS6.out, HP6.out.more hsz, HKd.out, Nat.le_refl _⟩
        case round =>
          obtain ⟨j, g, x, A2, n2, c2, hg, rfl, rfl, HG, HJ, HXx, HO, HL, hn2, HS, HP, HK, hsz3⟩ := hrel
          have hzw : z < wr.heap.size := HS.out.z2
          have hcc : n2 ≤ c2 := (row_lit HO.out).2
          have h8 := H8.out
          have HFin : Hid ((n' ≤ g ∨ 508 < x) → dKeys t j p = N.ks) := fun h => by
            rw [HNk.out]
            rcases h with h | h
            · rw [show j = n' - 1 by have := HG.out; have := HJ.out; omega]
            · have := dKeys_stop t j (n' - 1 - j) p (by rw [HTL.out, ← HXx.out]; exact h)
              rw [show j + (n' - 1 - j) = n' - 1 by have := HJ.out; omega] at this
              exact this.symm
          have HSn := Lib.hid (fun h => dKeys_snoc t j p (by rw [HTL.out, ← HXx.out]; exact h))
          rw [← HXx.out] at HSn
          obtain ⟨ks, hks⟩ : ∃ ks, ks = dKeys t j p := ⟨_, rfl⟩
          rw [← hks] at HO HL HFin HSn
          clear hks
          have hend : (n' ≤ g ∨ 508 < x) → Hid (DSt w z A n c A2 n2 c2 A' n' c' wr ∧ IsN wr wr.heap.size N A n c A2 n2 c2 A' n' c') := fun h => by
            have hk := HFin.out h
            have h1 := txs_of HO.out HL.out
            rw [hk] at h1
            refine ⟨HS.out, HP.out.more hsz3, h1, HK.out.more hsz3, HNL.out.symm, ?_, HCl.out, hnc, hcc, by omega, by omega, by omega, by omega⟩
            rw [← hk]; exact HL.out.symm
          by_cases hlt : g < n'
          · by_cases hle : x ≤ 508
            · obtain ⟨HS1, HS2⟩ := (⟨Lib.hid (HSn.out hle).1, Lib.hid (HSn.out hle).2⟩ : Hid _ ∧ Hid _)
              have hG1 := HCG.out x
              obtain ⟨b, hb⟩ : ∃ b, b = (dGet t x).2 := ⟨_, rfl⟩
              obtain ⟨y, hy⟩ : ∃ y, y = (dGet t x).1 := ⟨_, rfl⟩
              rw [← hb, ← hy] at hG1
              rw [← hb] at HS2
              rw [← hy] at HS1
              have HG1 := Lib.hid (fun W => hG1 W (by omega))
              clear hb hy hG1 HFin HSn hend
              obtain ⟨ty, hty⟩ : ∃ u, u = text y := ⟨_, rfl⟩
              obtain ⟨v2, w6, hrun, hown, hb6, hz6'⟩ := run_appT wr W6.heap.size (.slice A2 n2 c2) ks (by show World.ownsRow _ _ _ _ _ _ _; rw [← HL.out]; exact HO.out) y (by rw [← HL.out]; omega) hsz3
              rw [← hty] at hrun HG1
              obtain ⟨A3, c3, rfl, hc3⟩ := row_sl hown
              have hl2 : (ks ++ [y]).length = n2 + 1 := by rw [List.length_append, ← HL.out]; rfl
              rw [hl2] at hrun hown hc3
              have HS6' := Lib.hid (HS.out.next hb6 (by omega))
              obtain ⟨W7, hW7⟩ : ∃ W7, W7 = w6.setCell ⟨z, 1, none⟩ (.slice A3 (n2 + 1) c3) := ⟨_, rfl⟩
              have HS7 : Hid (DSt w z A n c A3 (n2 + 1) c3 A' n' c' W7) := by rw [hW7]; exact HS6'.out.set 1 _ (HS6'.out.bx.set1 A3 (n2 + 1) c3)
              have HO7 : Hid (W7.ownsRow W6.heap.size 9 1 (.slice A3 (n2 + 1) c3) (n2 + 1) (tcs (dKeys t (j + 1) p))) := by
                show World.ownsRow _ _ _ _ _ _ _
                have h5 := hown
                unfold OwnT at h5
                rw [hl2] at h5
                rw [HS1.out, hW7]
                exact ownsRow_setCell_other h5 (a := ⟨z, 1, none⟩) (row_ne h5 HS6'.out.bx (by decide)) _
              have HL7 : Hid (n2 + 1 = (dKeys t (j + 1) p).length) := by show _ = _; rw [HS1.out]; exact hl2.symm
              have HP7 : Hid (Prs W7 W6.heap.size A N.ps) := by rw [hW7]; exact (HP.out.below hb6 (Nat.le_refl _)).box (by have := hb6.size; omega) HS6'.out.bx 1 _
              have HK7 : Hid (Kds W7 W6.heap.size A' N.cs) := by rw [hW7]; exact (HK.out.below hb6 (Nat.le_refl _)).box (by have := hb6.size; omega) HS6'.out.bx 1 _
              have hsz7 : W6.heap.size ≤ W7.heap.size := by rw [hW7]; have := hb6.size; simpa [World.setCell] using (by omega : W6.heap.size ≤ w6.heap.size)
              have hn27 : n2 + 1 ≤ 255 := by have h1 := dKeys_len t (j + 1) p; have h2 := HL7.out; have h3 := HG.out; omega
              have HR := Lib.hid hrun
              have HW7 := Lib.hid hW7
              obtain ⟨q0, q1, q2, q4⟩ := HS6'.out.bx.cells
              obtain ⟨k0, k1, k2, k4⟩ := HS.out.bx.cells
              have hz61 := HS6'.out.z2
              clear hty hrun hown hc3 hl2 hb6 hz6' hW7
              go_wp2_with fail
              refine (HG1.out _).mono ?_
              rintro e w8 ⟨rfl, rfl⟩
              go_wp2_with (at_builtin; refine Go.Lib.wpList_append_run _ rfl (.tmp 105) (.tmp 107) 23 23 rfl _ _ rfl rfl _ w6 HR.out ?_)
              rw [← HW7.out]
              clear k0 k1 k2 k4 q0 q1 q2 q4
              go_roundw
              case rel => exact ⟨j + 1, g + 1, b, A3, n2 + 1, c3, by omega, by go_num, rfl, (show g + 1 = 1 + (j + 1) by have := HG.out; omega), (show j + 1 ≤ n' - 1 by have := HG.out; omega), HS2.out.symm, HO7.out, HL7.out, hn27, HS7.out, HP7.out, HK7.out, hsz7⟩
              case measure => simp [intOf]; omega
            · have HE := hend (.inr (by omega))
              clear hend HFin HSn HO HL
              go_wp2_with fail
              go_meet
              exact ⟨trivial, A2, n2, c2, HE.out.1, HE.out.2⟩
          · have HE := hend (.inl (by omega))
            clear hend HFin HSn HO HL
            go_wp2_with fail
            go_meet
            exact ⟨trivial, A2, n2, c2, HE.out.1, HE.out.2⟩
      case rest =>
      obtain ⟨-, A2, n2, c2, hds, hisn⟩ := hcut
      obtain ⟨W7, rfl⟩ : ∃ x, x = wc := ⟨wc, rfl⟩
      have HS7 := Lib.hid hds
      have HI7 := Lib.hid hisn
      obtain ⟨k0, k1, k2, k4⟩ := HS7.out.bx.cells
      clear hds hisn HS6 HP6 HKd HNk HCl HCG HCO
      go_wp2_with fail
      refine (rmay_any N A n c A2 n2 c2 A' n' c' W7 HI7.out).mono ?_
      rintro e w8 ⟨rfl, hb8⟩
      have hz7 := HS7.out.z2
      have HS8 := Lib.hid (HS7.out.next hb8 (by omega))
      have HI8 := Lib.hid ((HI7.out.below hb8 (Nat.le_refl _)).more hb8.size)
      clear hb8 k0 k1 k2 k4
      obtain ⟨k0, k1, k2, k4⟩ := HS8.out.bx.cells
      have hz8 := HS8.out.z2
      cases hmay : mayB N with
      | false =>
        have HQ : Hid (decD l = (Nd.nil, 4)) := HF.out (fun h => by rw [hmay] at h; exact absurd h.1 (by decide))
        obtain ⟨t0, t1, t2, t4⟩ := HS8.out.rs.cells
        go_wp2_with fail
        refine bodyPost_ret (v := .tuple #[nv none 0 0 none 0 0 none 0 0, .int .i64 4]) (by simp [results, Try.results20, go_sem, t0, t1, t2]) rfl ⟨none, 0, 0, none, 0, 0, none, 0, 0, by rw [HQ.out], by rw [HQ.out]; exact isN_nil _ _, ?_⟩
        exact stN_below HS8.out.bl (Nat.le_refl _) (.slice none 0 0) (.slice none 0 0) (.slice none 0 0)
      | true =>
        have HE := Lib.hid (renc_any N A n c A2 n2 c2 A' n' c' w8 HI8.out hmay)
        have HEQ := Lib.hid (HSL.out (pageL N))
        have HMY := Lib.hid hmay
        obtain ⟨u, hu⟩ : ∃ u, u = text (pageL N) := ⟨_, rfl⟩
        rw [← hu] at HE HEQ
        clear hu hmay
        go_wp2_with fail
        refine HE.out.mono ?_
        rintro e w9 ⟨rfl, hb9⟩
        have HS9 := Lib.hid (HS8.out.next hb9 (by omega))
        have HI9 := Lib.hid ((HI8.out.below hb9 (Nat.le_refl _)).more hb9.size)
        clear hb9 k0 k1 k2 k4
        obtain ⟨k0, k1, k2, k4⟩ := HS9.out.bx.cells
        obtain ⟨t0, t1, t2, t4⟩ := HS9.out.rs.cells
        have hz9 := HS9.out.z2
        have hz9' := HS9.out.z1
        by_cases he : pageL N = l
        · have HQ : Hid (decD l = (N, 0)) := HY.out ⟨HMY.out, he⟩
          have hne : (!(u.toList == s.toList)) = false := by rw [HEQ.out, decide_eq_true he]; rfl
          clear he
          go_wp2_with fail
          refine bodyPost_ret (v := .tuple #[nv A n c A2 n2 c2 A' n' c', .int .i64 0]) (by simp [results, Try.results20, go_sem, t0, t1, t2]) rfl ⟨A, n, c, A2, n2, c2, A', n', c', by rw [HQ.out], ?_, ?_⟩
          · rw [HQ.out]
            have := isN_st HI9.out (Nat.le_refl _) HS9.out.rs (.slice A n c) (.slice A2 n2 c2) (.slice A' n' c')
            rw [← stN_size w9 w.heap.size (.slice A n c) (.slice A2 n2 c2) (.slice A' n' c')] at this
            exact this
          · exact stN_below HS9.out.bl (Nat.le_refl _) (.slice A n c) (.slice A2 n2 c2) (.slice A' n' c')
        · have HQ : Hid (decD l = (Nd.nil, 4)) := HF.out (fun h => he h.2)
          have hne : (!(u.toList == s.toList)) = true := by rw [HEQ.out, decide_eq_false he]; rfl
          clear he
          go_wp2_with fail
          refine bodyPost_ret (v := .tuple #[nv none 0 0 none 0 0 none 0 0, .int .i64 4]) (by simp [results, Try.results20, go_sem, t0, t1, t2]) rfl ⟨none, 0, 0, none, 0, 0, none, 0, 0, by rw [HQ.out], by rw [HQ.out]; exact isN_nil _ _, ?_⟩
          exact stN_below HS9.out.bl (Nat.le_refl _) (.slice none 0 0) (.slice none 0 0) (.slice none 0 0)
theorem rdec_any (l : T) (w : World) (hl : l.length ≤ 600) : Calls Try.prog 20 #[.string (text l)] w (DecD w (decD l)) := by
  by_cases h : l.length = 512
  · cases hs : soundB l with
    | true => exact rdec_go l w h hs
    | false =>
      have e : decD l = (Nd.nil, 6) := by unfold decD; rw [if_neg (by omega), if_pos hs]
      rw [e]; exact rdec_sum l w h hs
  · have e : decD l = (Nd.nil, 3) := by unfold decD; rw [if_pos h]
    rw [e]; exact rdec_short l w hl h
end Go.Proofs.Ytckbehojcjhcgaa.Nod
