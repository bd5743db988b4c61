/- The walk of TreeRanges. -/
import Derived.Test.YteeeomcdknjolaaTZ
import Derived.Test.YteeeomcdknjolaaTW
import Derived.Test.YteeeomcdknjolaaTF
namespace Go.Proofs.Yteeeomcdknjolaa.Tre
open Go.RowKit Crc Chk Frm Fra Nod

theorem append_run_g {P : Program} {w : World} {ops : Array Oper} {rest : List Oper} {o : Oper} {a : Act} {Q : Exit → Act → World → Prop} (hw : Region.wanted o (yielded ops a.tmps) = true) (s x : Operand) (t tn : TypeId)
    (ho : o.op = .call { callee := .builtin .append, args := #[s, x], argTypes := #[t, tn] }) (vs vx : Value) (hs : a.eval s = vs) (hx : a.eval x = vx)
    (v' : Value) (w' : World) (hr : (Builtin.append_ #[t, tn] o.type #[vs, vx]).run P w = .ok v' w') (h : wpList P ops Q rest (a.put o.dst v') w') : wpList P ops Q (o :: rest) a w := by
  unfold wpList
  rw [if_pos hw]
  exact .inl (Lib.wp_append_run w s x t tn ho vs vx hs hx v' w' hr h)
theorem text_of' (s : ByteArray) : s = text s.data.toList := by
  apply ByteArray.ext
  simp [text]
set_option maxRecDepth 20000 in
set_option maxHeartbeats 1600000 in
theorem ranges_text (A : Option Addr) (l : List P) (c : Nat) (from_ mid : T) (w : World) (h : Prs w w.heap.size A l) (hc : l.length ≤ c) (hn : l.length ≤ 9223372036854775807) :
    Calls Try.prog 7 #[.slice A l.length c, .string (text from_), .string (text mid)] w fun e w' => e = .returned (.bool true) ∧ Below w.heap.size w w' := by
  have HF := Lib.hid (few_any A l l.length c w h rfl hc hn)
  have HT1 := Lib.hid (text_any from_)
  have HT2 := Lib.hid (text_any mid)
  have HAw := Lib.hid awake_any
  obtain ⟨n, hn9⟩ : ∃ n, n = l.length := ⟨_, rfl⟩
  rw [← hn9] at HF ⊢
  obtain ⟨t1, ht1⟩ : ∃ t, t = text from_ := ⟨_, rfl⟩
  obtain ⟨t2, ht2⟩ : ∃ t, t = text mid := ⟨_, rfl⟩
  rw [← ht1] at HT1 ⊢
  rw [← ht2] at HT2 ⊢
  obtain ⟨fr, hfr⟩ : ∃ t, t = from_.take 70 := ⟨_, rfl⟩
  obtain ⟨md, hmd⟩ : ∃ t, t = mid.take 70 := ⟨_, rfl⟩
  rw [← hfr] at HT1
  rw [← hmd] at HT2
  clear h hc hn hn9 ht1 ht2 hfr hmd
  go_enter Try.func7, Try.ntmps7
  go_wp2_with fail
  refine HF.out.mono ?_
  rintro e w1 ⟨v, rfl, ho, hb1⟩
  obtain ⟨A2, c2, rfl, hle⟩ := row_sl ho
  have hfl := fewL_len l
  have HP := Lib.hid (prs_of ho rfl)
  obtain ⟨q, hq⟩ : ∃ q, q = fewL l := ⟨_, rfl⟩
  rw [← hq] at hle hfl HP ⊢
  have HBu := Lib.hid (build_any A2 q q.length c2 w1 HP.out rfl hle (by omega))
  have HB1 := Lib.hid hb1
  obtain ⟨m, hm⟩ : ∃ m, m = q.length := ⟨_, rfl⟩
  have HM := Lib.hid hm
  rw [← hm] at HBu hfl ⊢
  clear ho hb1 hq hm hle HF
  go_wp2_with fail
  refine (HT1.out _).mono ?_
  rintro e w' ⟨rfl, rfl⟩
  go_wp2_with fail
  refine (HT2.out _).mono ?_
  rintro e w' ⟨rfl, rfl⟩
  go_wp2_with fail
  refine HBu.out.mono ?_
  rintro e w2 ⟨A3, c3, rfl, hn3, hl3, hb2⟩
  have HB2 := Lib.hid (step' HB1.out hb2 HB1.out.size)
  have HN3 := Lib.hid hn3
  have HP2 := Lib.hid (Prs.next HP.out hb2)
  have HEl : Hid (resE q = 0 → rightB (resL q) = true ∧ prsOf (resL q) = q ∧ mayP q = true) := fun h9 => by
    have h1 : mayP q = true := by
      unfold resE at h9
      split at h9
      · assumption
      · cases h9
    have h2 : pagesN q.length ≤ 200 := by
      unfold resE at h9
      rw [if_pos h1] at h9
      split at h9
      · assumption
      · cases h9
    rw [(res_ok h1 h2).2]
    exact ⟨tree_right h1 h2, tree_prs q, h1⟩
  have hrl : (resL q).length ≤ 200 := by unfold resL; split <;> (try split) <;> (try simp); rw [tree_len]; assumption
  obtain ⟨L, hL⟩ : ∃ L, L = resL q := ⟨_, rfl⟩
  rw [← hL] at HN3 HEl hrl ⊢
  obtain ⟨k, hk⟩ : ∃ k, k = resE q := ⟨_, rfl⟩
  rw [← hk] at HEl ⊢
  clear hL hk hn3 hl3 hb2 HBu
  go_upto_region 3 with fail
  by_cases hk0 : k = 0
  · obtain ⟨hrt, hpr, hmy⟩ := HEl.out hk0
    subst hk0
    have HRa : Hid (∀ (f9 g9 : T) (W : World), Below w2.heap.size w2 W → Calls Try.prog 23 #[.slice A3 L.length c3, .string (text f9), .string (text g9)] W (ROut W (rangeL q f9 g9) 0)) := fun f9 g9 W hb => by
      have h9 := range_any A3 L f9 g9 L.length c3 W (HN3.out.next hb) rfl (by omega)
      have e1 : rngL L f9 g9 = rangeL q f9 g9 := by unfold rngL; rw [if_pos hrt, hpr]
      have e2 : rngE L = 0 := by unfold rngE; rw [if_pos hrt]
      rwa [e1, e2] at h9
    obtain ⟨nL, hnL⟩ : ∃ n, n = L.length := ⟨_, rfl⟩
    rw [← hnL] at HRa ⊢
    have HRm : Hid (∀ W : World, Below w2.heap.size w2 W → Calls Try.prog 23 #[.slice A3 nL c3, .string (text md), .string ⟨#[]⟩] W (ROut W (rangeL q md []) 0)) := fun W hb => HRa.out md [] W hb
    have HRf : Hid (∀ W : World, Below w2.heap.size w2 W → Calls Try.prog 23 #[.slice A3 nL c3, .string (text fr), .string ⟨#[]⟩] W (ROut W (rangeL q fr []) 0)) := fun W hb => HRa.out fr [] W hb
    have HRx := Lib.hid (HRa.out fr md)
    have HMy := Lib.hid hmy
    have HX1 : Hid ((text md).toList = md) := text_toList md
    have HX2 : Hid ((text fr).toList = fr) := text_toList fr
    obtain ⟨z, hz⟩ : ∃ z, z = text md := ⟨_, rfl⟩
    obtain ⟨u, hu⟩ : ∃ z, z = text fr := ⟨_, rfl⟩
    rw [← hz] at HRm HRx HX1 ⊢
    rw [← hu] at HRf HRx HX2 ⊢
    clear hrt hpr hmy hnL hz hu HEl HRa HN3 hrl
    cases he : md.isEmpty with
    | true =>
      have g3 : z.toList.isEmpty = true := by rw [HX1.out]; exact he
      have g4 : z.toList = [] := by simpa using g3
      clear he g3
      go_wp2_with fail
      refine (HAw.out _).mono ?_
      rintro e w9 ⟨rfl, hb9⟩
      have HB9 := Lib.hid (step' HB2.out hb9 HB2.out.size)
      clear hb9
      go_wp2_with fail
      go_ret
      exact ⟨rfl, HB9.out⟩
    | false =>
      have HEm := Lib.hid he
      have g3 : z.toList.isEmpty = false := by rw [HX1.out]; exact he
      have g4 : ¬ z.toList = [] := by simpa using g3
      clear he
      cases hlt : ltB md fr with
      | true =>
        have g5 : Op.bytesLess z.toList u.toList = true := by rw [HX1.out, HX2.out]; exact hlt
        clear hlt
        go_wp2_with fail
        refine (HAw.out _).mono ?_
        rintro e w9 ⟨rfl, hb9⟩
        have HB9 := Lib.hid (step' HB2.out hb9 HB2.out.size)
        clear hb9
        go_wp2_with fail
        go_ret
        exact ⟨rfl, HB9.out⟩
      | false =>
        have HLt := Lib.hid hlt
        have g5 : Op.bytesLess z.toList u.toList = false := by rw [HX1.out, HX2.out]; exact hlt
        clear hlt
        go_wp2_with fail
        refine (HRx.out _ (Below.refl _ _)).mono ?_
        rintro e w3 ⟨Aa, ca, rfl, hpa, hca, hb3⟩
        have HB3 := Lib.hid hb3
        have HPa := Lib.hid hpa
        have HTwo := Lib.hid (range_two HMy.out HEm.out HLt.out)
        obtain ⟨la, hla⟩ : ∃ y, y = rangeL q fr md := ⟨_, rfl⟩
        rw [← hla] at HPa HTwo ⊢
        clear hpa hca hb3 hla g3 g4 g5
        go_wp2_with fail
        refine (HRm.out _ HB3.out).mono ?_
        rintro e w4 ⟨Ab, cb9, rfl, hpb, hcb, hb4⟩
        have HB4 := Lib.hid (step' HB3.out hb4 HB3.out.size)
        have HPb := Lib.hid hpb
        have HPa4 := Lib.hid (Prs.next HPa.out hb4)
        obtain ⟨lb9, hlb9⟩ : ∃ y, y = rangeL q md [] := ⟨_, rfl⟩
        rw [← hlb9] at HPb HTwo ⊢
        clear hpb hcb hb4 hlb9
        go_wp2_with fail
        refine (HRf.out _ HB4.out).mono ?_
        rintro e w5 ⟨Ac, cc, rfl, hpc, hcc, hb5⟩
        obtain ⟨c0, hc0l, hcut0⟩ := cut_at HMy.out fr
        have hcE : rangeL q fr [] = q.drop c0 := by
          rw [range_cut (a := c0) (b := q.length) hcut0 (fun h9 => by cases h9) (fun _ => Nat.le_refl _), List.take_length]
        rw [hcE] at hpc hcc HTwo ⊢
        have HB5 := Lib.hid (step' HB4.out hb5 HB4.out.size)
        have hPa5 := Prs.next HPa4.out hb5
        have hPb5 := Prs.next HPb.out hb5
        have HPc := Lib.hid hpc
        have hna : la.length ≤ 120 ∧ lb9.length ≤ 120 := by
          have h9 := congrArg List.length HTwo.out
          rw [List.length_append, List.length_drop] at h9
          have := HM.out
          omega
        have hbE : Below w5.heap.size w5 (w5.alloc (.cells #[] 49)) := (Below.refl _ _).alloc (Nat.le_refl _) _
        have hoE : OwnP (w5.alloc (.cells #[] 49)) w5.heap.size (.slice (some ⟨w5.heap.size, 0, none⟩) 0 0) [] := World.ownsRow_made w5 #[] 0 (Nat.le_refl _) (by decide) rfl
        obtain ⟨v6, w6, hr6, ho6, hb6⟩ := run_appPs _ w5.heap.size _ _ [] hoE Aa la la.length ca (hPa5.below hbE (Nat.le_refl _)) rfl (by simp) (by omega) hbE.size
        rw [List.nil_append] at ho6
        obtain ⟨v7, w7, hr7, ho7, hb7⟩ := run_appPs w6 w5.heap.size _ v6 la ho6 Ab lb9 lb9.length cb9 (hPb5.below (hbE.trans hb6) (Nat.le_refl _)) rfl (by omega) (by omega) ((hbE.trans hb6).size)
        obtain ⟨A7, c7, rfl, -⟩ := row_sl ho7
        have hb57 : Below w5.heap.size w5 w7 := (hbE.trans hb6).trans hb7
        have HS := Lib.hid (sameP_any A7 Ac (la ++ lb9) (q.drop c0) (la ++ lb9).length (q.drop c0).length c7 cc w7 (prs_of ho7 rfl) (Prs.next hpc hb57) rfl rfl (by rw [List.length_append]; omega) (by rw [List.length_drop]; have := HM.out; omega))
        rw [decide_eq_true HTwo.out] at HS
        have HR6 := Lib.hid hr6
        have HR7 := Lib.hid hr7
        have HB7 := Lib.hid (HB2.out.trans ((HB5.out.trans (hb57.mono HB5.out.size)).mono HB2.out.size))
        have HP7 := Lib.hid (Prs.next HP2.out (HB5.out.trans (hb57.mono HB5.out.size)))
        have HPc7 := Lib.hid (Prs.next hpc hb57)
        have HCl : Hid ((q.drop c0).length = m - c0) := by show _ = _; rw [List.length_drop, HM.out]
        obtain ⟨nc, hnc⟩ : ∃ y, y = (q.drop c0).length := ⟨_, rfl⟩
        rw [← hnc] at HS HCl ⊢
        obtain ⟨na, hna9⟩ : ∃ y, y = la.length := ⟨_, rfl⟩
        obtain ⟨nb, hnb9⟩ : ∃ y, y = lb9.length := ⟨_, rfl⟩
        rw [← hna9] at HR6 ⊢
        rw [← hnb9] at HR7 ⊢
        have HCut := Lib.hid hcut0
        have hc0m : c0 ≤ m := by rw [HM.out]; exact hc0l
        obtain ⟨n7, hn7⟩ : ∃ y, y = (la ++ lb9).length := ⟨_, rfl⟩
        rw [← hn7] at HS HR7
        clear hpc hcc hb5 hPa5 hPb5 hbE hoE hr6 ho6 hb6 hr7 ho7 hb7 hb57 hcE hc0l hcut0 hnc hna9 hnb9 hna hn7 HTwo
        go_wp2_with (at_builtin; first | refine append_run_g (wanted_of (t := 70) rfl rfl rfl) (.tmp 71) (.tmp 72) 22 22 rfl _ _ rfl rfl _ w6 HR6.out ?_ | refine append_run_g (wanted_of (t := 70) rfl rfl rfl) (.tmp 73) (.tmp 74) 22 22 rfl _ _ rfl rfl _ w7 HR7.out ?_)
        refine HS.out.mono ?_
        rintro e w8 ⟨rfl, hb8⟩
        have HB8 := Lib.hid (step' HB7.out hb8 HB7.out.size)
        have HP8 := Lib.hid (Prs.next HP7.out hb8)
        have HPc8 := Lib.hid (Prs.next HPc7.out hb8)
        clear hb8
        go_wp2_with fail
        go_loopw [15, 16] (fun x y wr => ∃ i at_ : Nat, i ≤ m ∧ x = .int .i64 at_ ∧ y = .int .i64 i ∧ Hid (at_ = i - c0) ∧ Hid (Below w8.heap.size w8 wr)) (fun _ y _ => m - (intOf y).toNat)
        case atStart => exact ⟨0, 0, Nat.zero_le _, rfl, rfl, (by show _ = _; omega), Below.refl _ _⟩
        case round =>
          obtain ⟨i0, at_, him, rfl, rfl, HAt, HB⟩ := hrel
          have hats : at_ ≤ 200 := by have := HAt.out; omega
          by_cases hlt : i0 < m
          · have hil : i0 < q.length := by rw [← HM.out]; exact hlt
            obtain ⟨lb, lo, hA, hlb0, hy10, hy20⟩ := HP8.out i0 hil
            subst hA
            have hy1 := (HB.out.cell (p := ⟨lb, lo + i0 * 2, none⟩) hlb0).trans hy10
            have hy2 := (HB.out.cell (p := ⟨lb, lo + i0 * 2 + 1, none⟩) hlb0).trans hy20
            have hlb : lb < wr.heap.size := Nat.lt_of_lt_of_le hlb0 HB.out.size
            obtain ⟨bd, hbd⟩ : ∃ b, b = decide (c0 ≤ i0) := ⟨_, rfl⟩
            have hkey : ltB q[i0].1 fr = !bd := by
              have h9 := HCut.out i0 hil
              rw [show q[i0].1 = kAt q i0 by unfold kAt; rw [getD_at _ _ i0 hil], h9, hbd]
              by_cases h8 : i0 < c0
              · rw [decide_eq_true h8, decide_eq_false (by omega)]; rfl
              · rw [decide_eq_false h8, decide_eq_true (by omega)]; rfl
            have HKy : Hid (Op.bytesLess (text q[i0].1).toList u.toList = !bd) := by show _ = _; rw [text_toList, HX2.out]; exact hkey
            have HAn : Hid ((if bd = true then at_ + 1 else at_) = i0 + 1 - c0) := by
              show _ = _
              have h1 := HAt.out
              by_cases h8 : c0 ≤ i0
              · rw [hbd, decide_eq_true h8, if_pos rfl]; omega
              · rw [hbd, decide_eq_false h8, if_neg (by decide)]; omega
            have HEq0 : Hid (∀ h7 : at_ < (q.drop c0).length, (q.drop c0)[at_] = q[i0] ↔ bd = true) := fun h7 => by
              have h1 := HAt.out
              rw [List.getElem_drop, hbd, decide_eq_true_eq]
              constructor
              · intro h8
                have h5 : kAt q (c0 + at_) = kAt q i0 := by
                  unfold kAt
                  rw [getD_at _ _ _ (by rw [List.length_drop] at h7; omega), getD_at _ _ i0 hil, h8]
                have h6 := kAt_inj HMy.out (by rw [List.length_drop] at h7; omega) hil h5
                omega
              · intro h8
                congr 1
                omega
            have HNo : Hid (¬ at_ < nc → bd = false) := fun h7 => by
              have h1 := HAt.out
              have h2 := HCl.out
              rw [hbd]; exact decide_eq_false (by omega)
            obtain ⟨y1, hy19⟩ : ∃ t, t = text q[i0].1 := ⟨_, rfl⟩
            obtain ⟨y2, hy29⟩ : ∃ t, t = text q[i0].2 := ⟨_, rfl⟩
            rw [← hy19] at hy1 HKy
            rw [← hy29] at hy2
            have hyi : (i0 : Int) < m := by omega
            have HY9 : Hid (y1 = text q[i0].1 ∧ y2 = text q[i0].2) := ⟨hy19, hy29⟩
            clear hbd hkey hy10 hy20 hy19 hy29 hlb0
            go_upto_region 14 with fail
            go_cut [17] from 86 to 100 (fun s17 wx => s17 = .bool bd ∧ Below wr.heap.size wr wx)
            case first =>
              by_cases hac : at_ < nc
              · have hacl : at_ < (q.drop c0).length := by rw [List.length_drop, ← HM.out, ← HCl.out]; exact hac
                obtain ⟨cb, co, hAc, hcb0, hx10, hx20⟩ := HPc8.out at_ hacl
                subst hAc
                have hx1 := (HB.out.cell (p := ⟨cb, co + at_ * 2, none⟩) hcb0).trans hx10
                have hx2 := (HB.out.cell (p := ⟨cb, co + at_ * 2 + 1, none⟩) hcb0).trans hx20
                have hcb : cb < wr.heap.size := Nat.lt_of_lt_of_le hcb0 HB.out.size
                have hai : (at_ : Int) < nc := by omega
                have HEq : Hid (decide ((text (q.drop c0)[at_].1).toList = y1.toList ∧ (text (q.drop c0)[at_].2).toList = y2.toList) = bd) := by
                  show _ = _
                  rw [HY9.out.1, HY9.out.2, text_toList, text_toList, text_toList, text_toList, Bool.eq_iff_iff, decide_eq_true_eq, ← HEq0.out hacl, Prod.ext_iff]
                obtain ⟨x1, hx19⟩ : ∃ t, t = text (q.drop c0)[at_].1 := ⟨_, rfl⟩
                obtain ⟨x2, hx29⟩ : ∃ t, t = text (q.drop c0)[at_].2 := ⟨_, rfl⟩
                rw [← hx19] at HEq hx1
                rw [← hx29] at HEq hx2
                clear hx10 hx20 hx19 hx29 hcb0 hac
                refine wp_region_by (by kernel_rfl) (Phi [.val (.int .i64 at_), .val (.slice (some ⟨cb, co, none⟩) nc cc), .val (.int .i64 nc), .val (.bool true), .val (.bool true), .val (.slice (some ⟨cb, co, none⟩) nc cc), .val (.int .i64 at_), .val (.pointer (some ⟨cb, co + at_ * 2, none⟩)), .val (.agg #[.string x1, .string x2]), .val (.slice (some ⟨lb, lo, none⟩) m c2), .val (.int .i64 i0), .val (.pointer (some ⟨lb, lo + i0 * 2, none⟩)), .val (.agg #[.string y1, .string y2]), .val (.bool bd), .val (.bool bd), .val (.bool bd)]) (phi_stab _) (by kernel_rfl) ?stepyes ?finyes
                case stepyes =>
                  intro i o listed a1 w2 ho hk hdep
                  have hi : i < 16 := (Array.getElem?_eq_some_iff.1 ho).1
                  have e0 := ev (show a1.eval (.tmp 0) = .slice (some ⟨lb, lo, none⟩) m c2 from hk.frame 0 (frame_of (by kernel_rfl)))
                  have e13 := ev (show a1.eval (.tmp 13) = .slice (some ⟨cb, co, none⟩) nc cc from hk.frame 13 (frame_of (by kernel_rfl)))
                  have e15 := ev (show a1.eval (.tmp 15) = .int .i64 at_ from hk.frame 15 (frame_of (by kernel_rfl)))
                  have e16 := ev (show a1.eval (.tmp 16) = .int .i64 i0 from hk.frame 16 (frame_of (by kernel_rfl)))
                  have z1 := (hk.below.cell (p := ⟨cb, co + at_ * 2, none⟩) hcb).trans hx1
                  have z2 := (hk.below.cell (p := ⟨cb, co + at_ * 2 + 1, none⟩) hcb).trans hx2
                  have z3 := (hk.below.cell (p := ⟨lb, lo + i0 * 2, none⟩) hlb).trans hy1
                  have z4 := (hk.below.cell (p := ⟨lb, lo + i0 * 2 + 1, none⟩) hlb).trans hy2
                  have hii : i = 0 ∨ i = 1 ∨ i = 2 ∨ i = 3 ∨ i = 4 ∨ i = 5 ∨ i = 6 ∨ i = 7 ∨ i = 8 ∨ i = 9 ∨ i = 10 ∨ i = 11 ∨ i = 12 ∨ i = 13 ∨ i = 14 ∨ i = 15 := by omega
                  rcases hii with rfl | rfl | rfl | rfl | rfl | rfl | rfl | rfl | rfl | rfl | rfl | rfl | rfl | rfl | rfl | rfl
                  · cases ho
                    refine wpOp_of rfl rfl (wp_value (v := .int .i64 at_) ?_ rfl)
                    simp [execOp, e15, Act.eval]
                  · cases ho
                    refine wpOp_of rfl rfl (wp_value (v := .slice (some ⟨cb, co, none⟩) nc cc) ?_ rfl)
                    simp [execOp, e13, Act.eval]
                  · cases ho
                    have d1 := ev (show a1.eval (.tmp 87) = .slice (some ⟨cb, co, none⟩) nc cc from hk.done 1 _ 87 rfl rfl (hdep ⟨1, .data⟩ (by simp) rfl))
                    refine wpOp_of rfl rfl (wp_value (v := .int .i64 nc) ?_ rfl)
                    go_simp
                  · cases ho
                    have d0 := ev (show a1.eval (.tmp 86) = .int .i64 at_ from hk.done 0 _ 86 rfl rfl (hdep ⟨0, .data⟩ (by simp) rfl))
                    have d2 := ev (show a1.eval (.tmp 88) = .int .i64 nc from hk.done 2 _ 88 rfl rfl (hdep ⟨2, .data⟩ (by simp) rfl))
                    refine wpOp_of rfl rfl (wp_value (v := .bool true) ?_ rfl)
                    go_simp
                  · cases ho
                    have d3 := ev (show a1.eval (.tmp 89) = .bool true from hk.done 3 _ 89 rfl rfl (hdep ⟨3, .data⟩ (by simp) rfl))
                    refine wpOp_of rfl rfl (wp_value (v := .bool true) ?_ rfl)
                    simp [execOp, d3, Act.eval]
                  · cases ho
                    refine wpOp_of rfl (wanted_of (t := 90) rfl rfl (hk.done 4 _ 90 rfl rfl (hdep ⟨4, .guard⟩ (by simp) rfl))) (wp_value (v := .slice (some ⟨cb, co, none⟩) nc cc) ?_ rfl)
                    simp [execOp, e13, Act.eval]
                  · cases ho
                    refine wpOp_of rfl (wanted_of (t := 90) rfl rfl (hk.done 4 _ 90 rfl rfl (hdep ⟨4, .guard⟩ (by simp) rfl))) (wp_value (v := .int .i64 at_) ?_ rfl)
                    simp [execOp, e15, Act.eval]
                  · cases ho
                    have d5 := ev (show a1.eval (.tmp 91) = .slice (some ⟨cb, co, none⟩) nc cc from hk.done 5 _ 91 rfl rfl (hdep ⟨5, .data⟩ (by simp) rfl))
                    have d6 := ev (show a1.eval (.tmp 92) = .int .i64 at_ from hk.done 6 _ 92 rfl rfl (hdep ⟨6, .data⟩ (by simp) rfl))
                    refine wpOp_of rfl (wanted_of (t := 90) rfl rfl (hk.done 4 _ 90 rfl rfl (hdep ⟨4, .guard⟩ (by simp) rfl))) (wp_value (v := .pointer (some ⟨cb, co + at_ * 2, none⟩)) ?_ rfl)
                    go_simp
                  · cases ho
                    have d7 := ev (show a1.eval (.tmp 93) = .pointer (some ⟨cb, co + at_ * 2, none⟩) from hk.done 7 _ 93 rfl rfl (hdep ⟨7, .data⟩ (by simp) rfl))
                    refine wpOp_of rfl (wanted_of (t := 90) rfl rfl (hk.done 4 _ 90 rfl rfl (hdep ⟨4, .guard⟩ (by simp) rfl))) (wp_value (v := .agg #[.string x1, .string x2]) ?_ rfl)
                    go_simp
                  · cases ho
                    refine wpOp_of rfl (wanted_of (t := 90) rfl rfl (hk.done 4 _ 90 rfl rfl (hdep ⟨4, .guard⟩ (by simp) rfl))) (wp_value (v := .slice (some ⟨lb, lo, none⟩) m c2) ?_ rfl)
                    simp [execOp, e0, Act.eval]
                  · cases ho
                    refine wpOp_of rfl (wanted_of (t := 90) rfl rfl (hk.done 4 _ 90 rfl rfl (hdep ⟨4, .guard⟩ (by simp) rfl))) (wp_value (v := .int .i64 i0) ?_ rfl)
                    simp [execOp, e16, Act.eval]
                  · cases ho
                    have d9 := ev (show a1.eval (.tmp 95) = .slice (some ⟨lb, lo, none⟩) m c2 from hk.done 9 _ 95 rfl rfl (hdep ⟨9, .data⟩ (by simp) rfl))
                    have d10 := ev (show a1.eval (.tmp 96) = .int .i64 i0 from hk.done 10 _ 96 rfl rfl (hdep ⟨10, .data⟩ (by simp) rfl))
                    refine wpOp_of rfl (wanted_of (t := 90) rfl rfl (hk.done 4 _ 90 rfl rfl (hdep ⟨4, .guard⟩ (by simp) rfl))) (wp_value (v := .pointer (some ⟨lb, lo + i0 * 2, none⟩)) ?_ rfl)
                    go_simp
                  · cases ho
                    have d11 := ev (show a1.eval (.tmp 97) = .pointer (some ⟨lb, lo + i0 * 2, none⟩) from hk.done 11 _ 97 rfl rfl (hdep ⟨11, .data⟩ (by simp) rfl))
                    refine wpOp_of rfl (wanted_of (t := 90) rfl rfl (hk.done 4 _ 90 rfl rfl (hdep ⟨4, .guard⟩ (by simp) rfl))) (wp_value (v := .agg #[.string y1, .string y2]) ?_ rfl)
                    go_simp
                  · cases ho
                    have d8 := ev (show a1.eval (.tmp 94) = .agg #[.string x1, .string x2] from hk.done 8 _ 94 rfl rfl (hdep ⟨8, .data⟩ (by simp) rfl))
                    have d12 := ev (show a1.eval (.tmp 98) = .agg #[.string y1, .string y2] from hk.done 12 _ 98 rfl rfl (hdep ⟨12, .data⟩ (by simp) rfl))
                    refine wpOp_of rfl (wanted_of (t := 90) rfl rfl (hk.done 4 _ 90 rfl rfl (hdep ⟨4, .guard⟩ (by simp) rfl))) (wp_value (v := .bool bd) ?_ rfl)
                    go_simp
                    rw [← show decide (x1.toList = y1.toList ∧ x2.toList = y2.toList) = bd from HEq.out]
                    by_cases h1 : x1.toList = y1.toList <;> by_cases h2 : x2.toList = y2.toList <;> simp [h1, h2]
                  · cases ho
                    have d4 := ev (show a1.eval (.tmp 90) = .bool true from hk.done 4 _ 90 rfl rfl (hdep ⟨4, .data⟩ (by simp) rfl))
                    have d13 := ev (show a1.eval (.tmp 99) = .bool bd from hk.done 13 _ 99 rfl rfl (hdep ⟨13, .data⟩ (by simp) rfl))
                    refine wpOp_of rfl rfl (wp_value (v := .bool bd) ?_ rfl)
                    go_simp
                  · cases ho
                    have d14 := ev (show a1.eval (.tmp 100) = .bool bd from hk.done 14 _ 100 rfl rfl (hdep ⟨14, .data⟩ (by simp) rfl))
                    refine wpOp_of rfl rfl (wp_value (v := .bool bd) ?_ rfl)
                    simp [execOp, d14, Act.eval]
                case finyes =>
                  intro listed a2 w2 hk hall
                  have h17 : a2.eval (.tmp 17) = .bool bd := hk.done 15 _ 17 rfl rfl (hall 15 (by decide))
                  have hact := kept_all [86, 87, 88, 89, 90, 91, 92, 93, 94, 95, 96, 97, 98, 99, 100, 17] hk (by kernel_rfl)
                  have HB := Lib.hid hk.below
                  simp only [List.foldl_cons, List.foldl_nil, List.setIfInBounds_toArray, List.set_cons_succ, List.set_cons_zero] at hact
                  generalize a2.eval (.tmp 86) = u86 at hact
                  generalize a2.eval (.tmp 87) = u87 at hact
                  generalize a2.eval (.tmp 88) = u88 at hact
                  generalize a2.eval (.tmp 89) = u89 at hact
                  generalize a2.eval (.tmp 90) = u90 at hact
                  generalize a2.eval (.tmp 91) = u91 at hact
                  generalize a2.eval (.tmp 92) = u92 at hact
                  generalize a2.eval (.tmp 93) = u93 at hact
                  generalize a2.eval (.tmp 94) = u94 at hact
                  generalize a2.eval (.tmp 95) = u95 at hact
                  generalize a2.eval (.tmp 96) = u96 at hact
                  generalize a2.eval (.tmp 97) = u97 at hact
                  generalize a2.eval (.tmp 98) = u98 at hact
                  generalize a2.eval (.tmp 99) = u99 at hact
                  generalize a2.eval (.tmp 100) = u100 at hact
                  generalize a2.eval (.tmp 17) = u17 at hact h17
                  rw [hact]
                  clear hact
                  go_wp2
                  go_meet
                  first | exact ⟨h17, HB.out⟩ | exact ⟨rfl, HB.out⟩
              · obtain rfl : bd = false := HNo.out hac
                have hai : ¬ (at_ : Int) < nc := by omega
                clear hac
                refine wp_region_by (by kernel_rfl) (Phi [.val (.int .i64 at_), .val (.slice Ac nc cc), .val (.int .i64 nc), .val (.bool false), .val (.bool false), .val (undef), .val (undef), .val (undef), .val (undef), .val (undef), .val (undef), .val (undef), .val (undef), .val (undef), .val (.bool false), .val (.bool false)]) (phi_stab _) (by kernel_rfl) ?stepno ?finno
                case stepno =>
                  intro i o listed a1 w2 ho hk hdep
                  have hi : i < 16 := (Array.getElem?_eq_some_iff.1 ho).1
                  have e0 := ev (show a1.eval (.tmp 0) = .slice (some ⟨lb, lo, none⟩) m c2 from hk.frame 0 (frame_of (by kernel_rfl)))
                  have e13 := ev (show a1.eval (.tmp 13) = .slice Ac nc cc from hk.frame 13 (frame_of (by kernel_rfl)))
                  have e15 := ev (show a1.eval (.tmp 15) = .int .i64 at_ from hk.frame 15 (frame_of (by kernel_rfl)))
                  have e16 := ev (show a1.eval (.tmp 16) = .int .i64 i0 from hk.frame 16 (frame_of (by kernel_rfl)))
                  have hii : i = 0 ∨ i = 1 ∨ i = 2 ∨ i = 3 ∨ i = 4 ∨ i = 5 ∨ i = 6 ∨ i = 7 ∨ i = 8 ∨ i = 9 ∨ i = 10 ∨ i = 11 ∨ i = 12 ∨ i = 13 ∨ i = 14 ∨ i = 15 := by omega
                  rcases hii with rfl | rfl | rfl | rfl | rfl | rfl | rfl | rfl | rfl | rfl | rfl | rfl | rfl | rfl | rfl | rfl
                  · cases ho
                    refine wpOp_of rfl rfl (wp_value (v := .int .i64 at_) ?_ rfl)
                    simp [execOp, e15, Act.eval]
                  · cases ho
                    refine wpOp_of rfl rfl (wp_value (v := .slice Ac nc cc) ?_ rfl)
                    simp [execOp, e13, Act.eval]
                  · cases ho
                    have d1 := ev (show a1.eval (.tmp 87) = .slice Ac nc cc from hk.done 1 _ 87 rfl rfl (hdep ⟨1, .data⟩ (by simp) rfl))
                    refine wpOp_of rfl rfl (wp_value (v := .int .i64 nc) ?_ rfl)
                    go_simp
                  · cases ho
                    have d0 := ev (show a1.eval (.tmp 86) = .int .i64 at_ from hk.done 0 _ 86 rfl rfl (hdep ⟨0, .data⟩ (by simp) rfl))
                    have d2 := ev (show a1.eval (.tmp 88) = .int .i64 nc from hk.done 2 _ 88 rfl rfl (hdep ⟨2, .data⟩ (by simp) rfl))
                    refine wpOp_of rfl rfl (wp_value (v := .bool false) ?_ rfl)
                    go_simp
                  · cases ho
                    have d3 := ev (show a1.eval (.tmp 89) = .bool false from hk.done 3 _ 89 rfl rfl (hdep ⟨3, .data⟩ (by simp) rfl))
                    refine wpOp_of rfl rfl (wp_value (v := .bool false) ?_ rfl)
                    simp [execOp, d3, Act.eval]
                  · cases ho
                    exact wpOp_skip rfl (unwanted_of (t := 90) rfl rfl (hk.done 4 _ 90 rfl rfl (hdep ⟨4, .guard⟩ (by simp) rfl)) (by decide)) ⟨undef, rfl, rfl, Below.refl _ _⟩
                  · cases ho
                    exact wpOp_skip rfl (unwanted_of (t := 90) rfl rfl (hk.done 4 _ 90 rfl rfl (hdep ⟨4, .guard⟩ (by simp) rfl)) (by decide)) ⟨undef, rfl, rfl, Below.refl _ _⟩
                  · cases ho
                    exact wpOp_skip rfl (unwanted_of (t := 90) rfl rfl (hk.done 4 _ 90 rfl rfl (hdep ⟨4, .guard⟩ (by simp) rfl)) (by decide)) ⟨undef, rfl, rfl, Below.refl _ _⟩
                  · cases ho
                    exact wpOp_skip rfl (unwanted_of (t := 90) rfl rfl (hk.done 4 _ 90 rfl rfl (hdep ⟨4, .guard⟩ (by simp) rfl)) (by decide)) ⟨undef, rfl, rfl, Below.refl _ _⟩
                  · cases ho
                    exact wpOp_skip rfl (unwanted_of (t := 90) rfl rfl (hk.done 4 _ 90 rfl rfl (hdep ⟨4, .guard⟩ (by simp) rfl)) (by decide)) ⟨undef, rfl, rfl, Below.refl _ _⟩
                  · cases ho
                    exact wpOp_skip rfl (unwanted_of (t := 90) rfl rfl (hk.done 4 _ 90 rfl rfl (hdep ⟨4, .guard⟩ (by simp) rfl)) (by decide)) ⟨undef, rfl, rfl, Below.refl _ _⟩
                  · cases ho
                    exact wpOp_skip rfl (unwanted_of (t := 90) rfl rfl (hk.done 4 _ 90 rfl rfl (hdep ⟨4, .guard⟩ (by simp) rfl)) (by decide)) ⟨undef, rfl, rfl, Below.refl _ _⟩
                  · cases ho
                    exact wpOp_skip rfl (unwanted_of (t := 90) rfl rfl (hk.done 4 _ 90 rfl rfl (hdep ⟨4, .guard⟩ (by simp) rfl)) (by decide)) ⟨undef, rfl, rfl, Below.refl _ _⟩
                  · cases ho
                    exact wpOp_skip rfl (unwanted_of (t := 90) rfl rfl (hk.done 4 _ 90 rfl rfl (hdep ⟨4, .guard⟩ (by simp) rfl)) (by decide)) ⟨undef, rfl, rfl, Below.refl _ _⟩
                  · cases ho
                    have d4 := ev (show a1.eval (.tmp 90) = .bool false from hk.done 4 _ 90 rfl rfl (hdep ⟨4, .data⟩ (by simp) rfl))
                    have d13 := ev (show a1.eval (.tmp 99) = undef from hk.done 13 _ 99 rfl rfl (hdep ⟨13, .data⟩ (by simp) rfl))
                    refine wpOp_of rfl rfl (wp_value (v := .bool false) ?_ rfl)
                    go_simp
                  · cases ho
                    have d14 := ev (show a1.eval (.tmp 100) = .bool false from hk.done 14 _ 100 rfl rfl (hdep ⟨14, .data⟩ (by simp) rfl))
                    refine wpOp_of rfl rfl (wp_value (v := .bool false) ?_ rfl)
                    simp [execOp, d14, Act.eval]
                case finno =>
                  intro listed a2 w2 hk hall
                  have h17 : a2.eval (.tmp 17) = .bool false := hk.done 15 _ 17 rfl rfl (hall 15 (by decide))
                  have hact := kept_all [86, 87, 88, 89, 90, 91, 92, 93, 94, 95, 96, 97, 98, 99, 100, 17] hk (by kernel_rfl)
                  have HB := Lib.hid hk.below
                  simp only [List.foldl_cons, List.foldl_nil, List.setIfInBounds_toArray, List.set_cons_succ, List.set_cons_zero] at hact
                  generalize a2.eval (.tmp 86) = u86 at hact
                  generalize a2.eval (.tmp 87) = u87 at hact
                  generalize a2.eval (.tmp 88) = u88 at hact
                  generalize a2.eval (.tmp 89) = u89 at hact
                  generalize a2.eval (.tmp 90) = u90 at hact
                  generalize a2.eval (.tmp 91) = u91 at hact
                  generalize a2.eval (.tmp 92) = u92 at hact
                  generalize a2.eval (.tmp 93) = u93 at hact
                  generalize a2.eval (.tmp 94) = u94 at hact
                  generalize a2.eval (.tmp 95) = u95 at hact
                  generalize a2.eval (.tmp 96) = u96 at hact
                  generalize a2.eval (.tmp 97) = u97 at hact
                  generalize a2.eval (.tmp 98) = u98 at hact
                  generalize a2.eval (.tmp 99) = u99 at hact
                  generalize a2.eval (.tmp 100) = u100 at hact
                  generalize a2.eval (.tmp 17) = u17 at hact h17
                  rw [hact]
                  clear hact
                  go_wp2
                  go_meet
                  first | exact ⟨h17, HB.out⟩ | exact ⟨rfl, HB.out⟩
            case rest =>
            obtain ⟨rfl, hbx⟩ := hcut
            have HB9 := Lib.hid (step' HB.out hbx HB.out.size)
            have hy1' := (hbx.cell (p := ⟨lb, lo + i0 * 2, none⟩) hlb).trans hy1
            clear hbx hy1 hy2
            have hk9 := HKy.out
            cases bd with
            | true =>
              have hge : ∀ W, (binOp .geq 9 (.string y1) (.string u)).run Try.prog W = .ok (.bool true) W := fun W => by simp [binOp, Op.stringOp, hk9]
              go_wp2_with fail
              go_roundw
              case rel => exact ⟨i0 + 1, at_ + 1, by omega, by go_num, by go_num, HAn, HB9⟩
              case measure => simp [intOf]; omega
            | false =>
              have hge : ∀ W, (binOp .geq 9 (.string y1) (.string u)).run Try.prog W = .ok (.bool false) W := fun W => by simp [binOp, Op.stringOp, hk9]
              go_wp2_with fail
              go_roundw
              case rel => exact ⟨i0 + 1, at_, by omega, rfl, by go_num, HAn, HB9⟩
              case measure => simp [intOf]; omega
          · obtain rfl : i0 = m := by omega
            have HAe : Hid ((at_ : Int) = nc) := by show _ = _; rw [HAt.out, HCl.out]
            have hae := HAe.out
            go_wp2_with fail
            refine (HAw.out _).mono ?_
            rintro e w9 ⟨rfl, hb9⟩
            have HB9 := Lib.hid (HB8.out.trans ((HB.out.trans (hb9.mono HB.out.size)).mono HB8.out.size))
            clear hb9
            go_wp2_with fail
            go_ret
            exact ⟨rfl, HB9.out⟩
  · clear HEl hrl
    go_wp2_with fail
    refine (HAw.out _).mono ?_
    rintro e w9 ⟨rfl, hb9⟩
    have HB9 := Lib.hid (step' HB2.out hb9 HB2.out.size)
    clear hb9
    go_wp2_with fail
    go_ret
    exact ⟨rfl, HB9.out⟩
theorem ranges_any (A : Option Addr) (l : List P) (c : Nat) (s1 s2 : ByteArray) (w : World) (h : Prs w w.heap.size A l) (hc : l.length ≤ c) (hn : l.length ≤ 9223372036854775807) (_h1 : s1.size ≤ 9223372036854775807) (_h2 : s2.size ≤ 9223372036854775807) :
    Calls Try.prog 7 #[.slice A l.length c, .string s1, .string s2] w fun e w' => e = .returned (.bool true) ∧ Below w.heap.size w w' := by
  rw [text_of' s1, text_of' s2]
  exact ranges_text A l c _ _ w h hc hn
end Go.Proofs.Yteeeomcdknjolaa.Tre
