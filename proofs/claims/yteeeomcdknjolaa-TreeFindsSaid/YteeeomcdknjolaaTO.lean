/- The document's Build. -/
import Derived.Test.YteeeomcdknjolaaTM
import Derived.Test.YteeeomcdknjolaaTN
import Derived.Deep.CutBlock
namespace Go.Proofs.Yteeeomcdknjolaa.Tre
open Go.RowKit Crc Chk Frm Fra Nod

abbrev LT (l : List P) (i : Nat) : List T := (List.range i).map (lst l)
theorem lt_succ (l : List P) (i : Nat) : LT l (i + 1) = LT l i ++ [lst l i] := by simp [LT, List.range_succ]
theorem lt_len (l : List P) (i : Nat) : (LT l i).length = i := by simp [LT]
def tk (l : List P) (i k : Nat) : ByteArray := if k = 0 then ⟨#[]⟩ else text (lst l i)
theorem tk_succ (l : List P) (i k : Nat) : tk l i (k + 1) = text (lst l i) := by unfold tk; rw [if_neg (by omega)]
/-- The document's leaves: what one round lays. -/
theorem leaf_take (l : List P) (i m : Nat) (hm : m = min (l.length - 5 * i) 5) : (⟨(l.drop (5 * i)).take m, [], []⟩ : Nd) = leafN l i := (leaf_group l i m hm).1
theorem tk_end (l : List P) (i m : Nat) (hm : m = min (l.length - 5 * i) 5) : tk l i m = text (lst l i) := by
  unfold tk
  split
  · have : lst l i = [] := by
      unfold lst
      rw [List.getD_eq_getElem?_getD, List.getElem?_eq_none (by omega)]; rfl
    rw [this]; rfl
  · rfl
set_option maxRecDepth 20000 in
set_option maxHeartbeats 6400000 in
theorem rbuild_any (A : Option Addr) (l : List P) (n c : Nat) (w : World) (h : Prs w w.heap.size A l) (hl : l.length = n) (hn : n ≤ 3000) :
    Calls Try.prog 10 #[.slice A n c] w (BOut w (resL l) (resE l)) := by
  have HP := Lib.hid h
  have HL := Lib.hid hl
  have HM : Hid (∀ W, Below w.heap.size w W → Calls Try.prog 33 #[.slice A n c] W fun e w' => e = .returned (.bool (mayP l)) ∧ Below W.heap.size W w') := fun W hb => rmayP_any A l n c W ((HP.out.below hb (Nat.le_refl _)).more hb.size) HL.out (by omega)
  have HN : Hid (∀ W, Calls Try.prog 13 #[.int .i64 n] W fun e w' => e = .returned (.int .i64 (pagesN n : Nat)) ∧ Below W.heap.size W w') := fun W => rpages_any n W (by omega) (by omega)
  clear h hl
  cases hm : mayP l with
  | false =>
    obtain ⟨e1, e2⟩ := res_arg hm
    rw [e1, e2]
    rw [hm] at HM
    clear hm e1 e2
    go_enter Try.func10, Try.ntmps10
    go_wp2_with fail
    refine (HM.out _ (Below.refl _ _)).mono ?_
    rintro e w1 ⟨rfl, hb⟩
    have HB := Lib.hid hb
    clear hb
    go_wp2_with fail
    exact bodyPost_ret (v := .tuple #[.slice none 0 0, .int .i64 1]) (by simp [results, Try.results10, go_sem]) rfl ⟨none, 0, rfl, nds_nil _ _ _, Nat.le_refl _, HB.out⟩
  | true =>
    rw [hm] at HM
    have HMy := Lib.hid hm
    clear hm
    by_cases hp : pagesN n ≤ 200
    · have hp' := hp
      rw [← HL.out] at hp'
      obtain ⟨e1, e2⟩ := res_ok HMy.out hp'
      rw [e1, e2]
      have HPg := Lib.hid hp'
      obtain ⟨pn, hpn⟩ : ∃ y, y = pagesN n := ⟨_, rfl⟩
      rw [← hpn] at HN hp
      have hpi : ¬ (200 : Int) < pn := by omega
      obtain ⟨K, hK⟩ : ∃ K, K = lev0 n := ⟨_, rfl⟩
      have HKd : Hid (∀ i, i ≤ K → (i < K ↔ i = 0 ∨ 5 * i < n)) := fun i hi => by
        rw [hK] at hi ⊢
        unfold lev0 at hi ⊢
        split at hi <;> split <;> omega
      have HKp : Hid (0 < K ∧ K ≤ 601) := by show _ ∧ _; rw [hK]; unfold lev0; split <;> omega
      have HLa : Hid (LaySt l K 0 ((List.range K).map (leafN l)) (LT l K)) := by show LaySt _ _ _ _ _; rw [hK, ← HL.out]; exact laySt_start l
      clear e1 e2 hp' hpn hK
      go_enter Try.func10, Try.ntmps10
      go_wp2_with fail
      refine (HM.out _ (Below.refl _ _)).mono ?_
      rintro e w1 ⟨rfl, hb⟩
      have HB := Lib.hid hb
      clear hb
      go_wp2_with fail
      refine (HN.out _).mono ?_
      rintro e w2 ⟨rfl, hb⟩
      have HB2 := Lib.hid (step' HB.out hb HB.out.size)
      have HR0 : Hid (RSt w2 (LvL l 0) [] (.slice none 0 0) (LT l 0) (.slice none 0 0) w2) := ⟨World.ownsRow_nil _ _ _ _, cont_nil _ _, World.ownsRow_nil _ _ _ _, Below.refl _ _⟩
      have HPp : Hid (Prs w2 w2.heap.size A l) := (HP.out.below HB2.out (Nat.le_refl _)).more HB2.out.size
      clear hb HB HM HN
      go_wp2_with fail
      go_loopw [4, 5, 6] (fun x y z wr => ∃ (i I : Nat) (ds : List Sd) (A1 : Option Addr) (c1 : Nat) (A2 : Option Addr) (c2 : Nat), i ≤ K ∧ x = .slice A1 i c1 ∧ y = .slice A2 i c2 ∧ z = .int .i64 I ∧ Hid (I = 5 * i) ∧ Hid (RSt w2 (LvL l i) ds (.slice A1 i c1) (LT l i) (.slice A2 i c2) wr)) (fun _ _ z _ => 5 * K - (intOf z).toNat)
      case atStart => exact ⟨0, 0, [], none, 0, none, 0, Nat.zero_le _, rfl, rfl, rfl, rfl, HR0⟩
      case round =>
        obtain ⟨i, I, ds, A1, c1, A2, c2, hiK, rfl, rfl, rfl, HI, HR⟩ := hrel
        have hKd := HKd.out i hiK
        have hKp := HKp.out
        by_cases hlt : i < K
        · have hIs : I ≤ 3010 := by have := HI.out; have := HKp.out.2; omega
          have HPs := Lib.hid (PSt.start wr)
          obtain ⟨W1, hW1⟩ : ∃ x, x = wr.alloc (.cells #[.slice none 0 0, .slice none 0 0, .slice none 0 0] 55) := ⟨_, rfl⟩
          rw [← hW1] at HPs
          have HW1 := Lib.hid hW1
          obtain ⟨wo, rfl⟩ : ∃ x, x = wr := ⟨wr, rfl⟩
          obtain ⟨m, hm⟩ : ∃ m, m = min (n - 5 * i) 5 := ⟨_, rfl⟩
          have HMm := Lib.hid hm
          have hm5 : m ≤ 5 := by omega
          have hmn : 5 * i + m ≤ n ∨ m = 0 := by omega
          have HDs : Hid (ds.length = i) := by show _ = _; rw [← HR.out.len, lvL_len]
          have hcond : (i : Int) = 0 ∨ (5 * (i : Int) < n) := by rcases hKd.1 hlt with h | h <;> omega
          have HPs0 : Hid (PSt wo none 0 0 ((l.drop (5 * i)).take 0) W1) := HPs
          clear hW1 hm hKd hKp
          have HC := Lib.hid hcond
          clear hcond
          go_upto_region 8 with fail
          go_cut [30] from 23 to 30 (fun s30 wx => s30 = .bool true ∧ wo = wx)
          case first =>
            rcases Nat.eq_zero_or_pos I with hI0 | hI0
            · have hI0i : (I : Int) = 0 := by omega
              go_wp2_with fail
              go_meet
              exact ⟨by first | trivial | rfl, by first | trivial | rfl⟩
            · have hI0i : ¬ (I : Int) = 0 := by omega
              have hIn : (I : Int) < n := by have := HI.out; have := HC.out; omega
              go_wp2_with fail
              go_meet
              exact ⟨by first | trivial | rfl, by first | trivial | rfl⟩
          case rest =>
          obtain ⟨rfl, rfl⟩ := hcut
          go_upto_region 11 with fail
          rw [← HW1.out]
          go_wp2_with fail
          go_loopw [8, 9] (fun x y wr => ∃ (k J : Nat) (A3 : Option Addr) (c3 : Nat), k ≤ m ∧ x = .string (tk l i k) ∧ y = .int .i64 J ∧ Hid (J = I + k) ∧ Hid (PSt wo A3 k c3 ((l.drop (5 * i)).take k) wr)) (fun _ y _ => I + m - (intOf y).toNat)
          case atStart => exact ⟨0, I, none, 0, Nat.zero_le _, rfl, rfl, rfl, HPs0⟩
          case round =>
            obtain ⟨k, J, A3, c3, hkm, rfl, rfl, HJ, HS⟩ := hrel
            by_cases hlt2 : k < m
            · have hJs : J ≤ 3020 := by have := HJ.out; omega
              have hJn : J < n := by have h1 := HJ.out; have h2 := HI.out; have h3 := HMm.out; omega
              have hJl : J < l.length := by rw [HL.out]; exact hJn
              obtain ⟨b0, o0, hA, hb1, hc0, hd0⟩ := HPp.out J hJl
              subst hA
              have hbb : Below w2.heap.size w2 wr := HR.out.bl.trans (HS.out.bl.mono HR.out.bl.size)
              have hcc := (hbb.cell (p := ⟨b0, o0 + J * 2, none⟩) hb1).trans hc0
              have hdd := (hbb.cell (p := ⟨b0, o0 + J * 2 + 1, none⟩) hb1).trans hd0
              have hbl : b0 < wr.heap.size := Nat.lt_of_lt_of_le hb1 hbb.size
              have hbz : b0 ≠ wo.heap.size := by have := HR.out.bl.size; omega
              obtain ⟨kk0, -, -, -⟩ := HS.out.bx.cells
              have hzl : wo.heap.size < wr.heap.size := boxN_lt HS.out.bx
              have HTk : Hid ((l.drop (5 * i)).take (k + 1) = (l.drop (5 * i)).take k ++ [(l[J].1, l[J].2)]) := by
                show _ = _
                have h1 := HJ.out
                have h2 := HI.out
                subst h2
                subst h1
                rw [List.take_succ_eq_append_getElem (by rw [List.length_drop]; omega), List.getElem_drop]
              have hll : ((l.drop (5 * i)).take k).length = k := by rw [List.length_take, List.length_drop, HL.out]; have := HJ.out; have := HI.out; omega
              have hop : OwnP (wr.drewN 1) wo.heap.size (.slice A3 k c3) ((l.drop (5 * i)).take k) := by show World.ownsRow _ _ _ _ _ _ _; rw [hll]; exact HS.out.op
              obtain ⟨v6, w6, hr6, ho6, hg6, -⟩ := run_appP2 (wr.drewN 1) wo.heap.size _ _ hop l[J].1 l[J].2 (by rw [hll]; omega) (by show _ ≤ wr.heap.size; omega)
              obtain ⟨A6, c6, rfl, -⟩ := row_sl ho6
              have ho6' : w6.ownsRow wo.heap.size 49 2 (.slice A6 (k + 1) c6) (k + 1) (pcs ((l.drop (5 * i)).take k ++ [(l[J].1, l[J].2)])) := by
                have := ho6
                unfold OwnP at this
                rwa [show ((l.drop (5 * i)).take k ++ [(l[J].1, l[J].2)]).length = k + 1 by rw [List.length_append, hll]; rfl] at this
              rw [show ((l.drop (5 * i)).take k ++ [(l[J].1, l[J].2)]).length = k + 1 by rw [List.length_append, hll]; rfl] at hr6
              have hS1 : PSt wo A3 k c3 ((l.drop (5 * i)).take k) (wr.drewN 1) := HS.out.next (below_drewN wr 1)
              obtain ⟨hbx6, hS7⟩ := hS1.pair hg6 ho6'
              rw [← HTk.out] at hS7
              have HBX6 := Lib.hid hbx6
              obtain ⟨W7, hW7⟩ : ∃ x, x = w6.setCell ⟨wo.heap.size, 0, none⟩ (.slice A6 (k + 1) c6) := ⟨_, rfl⟩
              rw [← hW7] at hS7
              have HS7 := Lib.hid hS7
              have hq : ∀ b, (Value.slice A3 k c3).ownBlock = some b → wo.heap.size ≤ b := fun b hb => (HS.out.op.lt b hb).1
              have h6c : ∀ o : Nat, w6.cell? ⟨b0, o, none⟩ = (wr.drewN 1).cell? ⟨b0, o, none⟩ := fun o => World.cell?_of_block (a := ⟨b0, o, none⟩) (hg6.block b0 (by show b0 < wr.heap.size; exact hbl) (fun e => by have h1 := hq b0 e.symm; have := HR.out.bl.size; omega))
              have HF6 : Hid (w6.cell? ⟨b0, o0 + J * 2, none⟩ = some (.string (text l[J].1)) ∧ w6.cell? ⟨b0, o0 + J * 2 + 1, none⟩ = some (.string (text l[J].2))) := ⟨(h6c _).trans hcc, (h6c _).trans hdd⟩
              have h7c : ∀ o : Nat, W7.cell? ⟨b0, o, none⟩ = w6.cell? ⟨b0, o, none⟩ := fun o => by rw [hW7]; exact World.cell?_of_block (a := ⟨b0, o, none⟩) (Below.heap_setCell w6 ⟨wo.heap.size, 0, none⟩ _ b0 hbz)
              have HF7 : Hid (W7.cell? ⟨b0, o0 + J * 2, none⟩ = some (.string (text l[J].1)) ∧ W7.cell? ⟨b0, o0 + J * 2 + 1, none⟩ = some (.string (text l[J].2))) := ⟨(h7c _).trans HF6.out.1, (h7c _).trans HF6.out.2⟩
              have hF0 : (([0] : List Nat).length ≤ 1 → ((wr.drewN 1).alloc (.cells #[.string (text l[J].1), .string (text l[J].2)] 49)).cell? ⟨wo.heap.size, 0, none⟩ = some (.slice A3 k c3)) := fun _ => (World.cell?_alloc_lt _ _ ⟨wo.heap.size, 0, none⟩ (show wo.heap.size < wr.heap.size from hzl)).trans kk0
              have HF1 : Hid ((([0] : List Nat).length ≤ 1 → ((wr.drewN 1).alloc (.cells #[.string (text l[J].1), .string (text l[J].2)] 49)).cell? ⟨wo.heap.size, 0, none⟩ = some (.slice A3 k c3)) ∧ ((wr.drewN 1).alloc (.cells #[.string (text l[J].1), .string (text l[J].2)] 49)).cell? ⟨b0, o0 + J * 2, none⟩ = some (.string (text l[J].1)) ∧ ((wr.drewN 1).alloc (.cells #[.string (text l[J].1), .string (text l[J].2)] 49)).cell? ⟨b0, o0 + J * 2 + 1, none⟩ = some (.string (text l[J].2))) :=
                ⟨hF0, (World.cell?_alloc_lt _ _ ⟨b0, _, none⟩ (show b0 < wr.heap.size from hbl)).trans hcc, (World.cell?_alloc_lt _ _ ⟨b0, _, none⟩ (show b0 < wr.heap.size from hbl)).trans hdd⟩
              obtain ⟨p1, o1, e, hb3, hc3, -⟩ := HPp.out I (by have := HJ.out; omega)
              injection e with e
              injection e with e1 e2
              subst e1 e2
              have hIl : I < l.length := by have := HJ.out; omega
              have HKy : Hid (W7.cell? ⟨b0, o0 + I * 2, none⟩ = some (.string (tk l i (k + 1)))) := by
                show _ = _
                rw [tk_succ, h7c, h6c]
                have h1 : text (l[I]'hIl).1 = text (lst l i) := by
                  unfold lst
                  rw [getD_at _ _ _ (by have := HI.out; have := HJ.out; omega)]
                  have h2 := HI.out
                  subst h2; rfl
                rw [← h1]
                exact (hbb.cell (p := ⟨b0, o0 + I * 2, none⟩) hb1).trans hc3
              obtain ⟨t, ht⟩ : ∃ t, t = text l[J].1 := ⟨_, rfl⟩
              obtain ⟨u, hu⟩ : ∃ t, t = text l[J].2 := ⟨_, rfl⟩
              rw [← ht] at hcc HF6 HF7 HF1 hr6
              rw [← hu] at hdd HF6 HF7 HF1 hr6
              have HR6 := Lib.hid hr6
              have HW7 := Lib.hid hW7
              have hJi : (J : Int) < n := by omega
              have hJ5 : (J : Int) < (I : Int) + 5 := by have := HJ.out; omega
              have hIn : (I : Int) < n := by have := HJ.out; omega
              clear hc0 hd0 hbb HTk hll hop hr6 ho6 ho6' hg6 hS1 hbx6 hS7 hW7 hq h6c h7c hc3 ht hu hF0 hJl hIl
              go_upto_region 15 with fail
              refine wp_region_chain2 (by kernel_rfl) (fun q9 => [(.pointer (some ⟨wo.heap.size, 0, none⟩)), (.slice A3 k c3), (.slice (some ⟨b0, o0, none⟩) n c), (.int .i64 J), (.pointer (some ⟨b0, o0 + J * 2, none⟩)), (.agg #[.string t, .string u]), (.slice (some ⟨wr.heap.size, 0, none⟩) 1 1), (.slice A6 (k + 1) c6), (.pointer (some ⟨wo.heap.size, 0, none⟩)), undef].getD q9 undef) [6, 7, 9] []
                (fun vs x => ((vs.length ≤ 1 → x.cell? ⟨wo.heap.size, 0, none⟩ = some (.slice A3 k c3)) ∧ x.cell? ⟨b0, o0 + J * 2, none⟩ = some (.string t) ∧ x.cell? ⟨b0, o0 + J * 2 + 1, none⟩ = some (.string u)) ∧ ((vs = [] ∧ x = wr.drewN 1) ∨ (vs = [.slice (some ⟨wr.heap.size, 0, none⟩) 1 1] ∧ x = (wr.drewN 1).alloc (.cells #[.string t, .string u] 49)) ∨ (vs = [.slice (some ⟨wr.heap.size, 0, none⟩) 1 1, .slice A6 (k + 1) c6] ∧ x = w6) ∨ (vs = [.slice (some ⟨wr.heap.size, 0, none⟩) 1 1, .slice A6 (k + 1) c6, undef] ∧ x = W7)))
                ⟨⟨fun _ => kk0, hcc, hdd⟩, .inl ⟨rfl, rfl⟩⟩ (by kernel_rfl) (backsB_spec (by kernel_rfl)) (by kernel_rfl) (by decide) (by decide) ?pure15 ?acts15 ?fin15
              case pure15 =>
                intro i vs o listed a1 x hic ho hR hwait hlen hk hund hdep
                obtain ⟨⟨f0, f1, f2⟩, -⟩ := hR
                have hi : i < 10 := (Array.getElem?_eq_some_iff.1 ho).1
                have hii : i = 0 ∨ i = 1 ∨ i = 2 ∨ i = 3 ∨ i = 4 ∨ i = 5 ∨ i = 8 := by simp at hic; omega
                rcases hii with rfl | rfl | rfl | rfl | rfl | rfl | rfl
                · cases ho
                  have e7 := ev (show a1.eval (.tmp 7) = .pointer (some ⟨wo.heap.size, 0, none⟩) from hk.frame 7 (frame_of (by kernel_rfl)))
                  exact ⟨rfl, by go_simp⟩
                · cases ho
                  have d0 := ev (show a1.eval (.tmp 47) = .pointer (some ⟨wo.heap.size, 0, none⟩) from hk.done 0 _ 47 rfl rfl (hdep ⟨0, .data⟩ (by simp) rfl) (by decide))
                  have hv : vs.length ≤ 1 := hwait 1 7 rfl (by kernel_rfl)
                  have g0 := f0 hv
                  exact ⟨rfl, by go_simp⟩
                · cases ho
                  have e0 := ev (show a1.eval (.tmp 0) = .slice (some ⟨b0, o0, none⟩) n c from hk.frame 0 (frame_of (by kernel_rfl)))
                  exact ⟨rfl, by simp [execOp, e0, Act.eval]⟩
                · cases ho
                  have e9 := ev (show a1.eval (.tmp 9) = .int .i64 J from hk.frame 9 (frame_of (by kernel_rfl)))
                  exact ⟨rfl, by simp [execOp, e9, Act.eval]⟩
                · cases ho
                  have d2 := ev (show a1.eval (.tmp 49) = .slice (some ⟨b0, o0, none⟩) n c from hk.done 2 _ 49 rfl rfl (hdep ⟨2, .data⟩ (by simp) rfl) (by decide))
                  have d3 := ev (show a1.eval (.tmp 50) = .int .i64 J from hk.done 3 _ 50 rfl rfl (hdep ⟨3, .data⟩ (by simp) rfl) (by decide))
                  exact ⟨rfl, by go_simp⟩
                · cases ho
                  have d4 := ev (show a1.eval (.tmp 51) = .pointer (some ⟨b0, o0 + J * 2, none⟩) from hk.done 4 _ 51 rfl rfl (hdep ⟨4, .data⟩ (by simp) rfl) (by decide))
                  exact ⟨rfl, by go_simp⟩
                · cases ho
                  have e7 := ev (show a1.eval (.tmp 7) = .pointer (some ⟨wo.heap.size, 0, none⟩) from hk.frame 7 (frame_of (by kernel_rfl)))
                  exact ⟨rfl, by go_simp⟩
              case acts15 =>
                intro i vs o listed a1 x hj ho hev hR hk hund hdep
                obtain ⟨hF, hR⟩ := hR
                rcases hR with ⟨rfl, hP⟩ | ⟨rfl, hP⟩ | ⟨rfl, hP⟩ | ⟨rfl, hP⟩
                · cases hj
                  cases ho
                  have d5 := ev (show a1.eval (.tmp 52) = .agg #[.string t, .string u] from hk.done 5 _ 52 rfl rfl (hdep ⟨5, .data⟩ (by simp) rfl) (by decide))
                  subst hP
                  refine ⟨rfl, wp_exact4 (v := .slice (some ⟨wr.heap.size, 0, none⟩) 1 1) (w' := (wr.drewN 1).alloc (.cells #[.string t, .string u] 49)) (by go_simp) ?_⟩
                  exact ⟨_, rfl, (fun _ => rfl), HF1.out, .inr (.inl ⟨rfl, rfl⟩)⟩
                · cases hj
                  cases ho
                  have d1 := ev (show a1.eval (.tmp 48) = .slice A3 k c3 from hk.done 1 _ 48 rfl rfl (hdep ⟨1, .data⟩ (by simp) rfl) (by decide))
                  have d6 := ev (show a1.eval (.tmp 53) = .slice (some ⟨wr.heap.size, 0, none⟩) 1 1 from hk.done 6 _ 53 rfl rfl (hdep ⟨6, .data⟩ (by simp) rfl) (by decide))
                  subst hP
                  have D1 : a1.eval (.tmp 48) = .slice A3 k c3 := hk.done 1 _ 48 rfl rfl (hdep ⟨1, .data⟩ (by simp) rfl) (by decide)
                  have D6 : a1.eval (.tmp 53) = .slice (some ⟨wr.heap.size, 0, none⟩) 1 1 := hk.done 6 _ 53 rfl rfl (hdep ⟨6, .data⟩ (by simp) rfl) (by decide)
                  refine ⟨rfl, Go.Lib.wp_append_run _ (.tmp 48) (.tmp 53) 22 22 rfl _ _ D1 D6 _ w6 HR6.out ?_⟩
                  exact ⟨_, rfl, (fun _ => rfl), ⟨(fun h => absurd h (by simp)), HF6.out⟩, .inr (.inr (.inl ⟨rfl, rfl⟩))⟩
                · cases hj
                  cases ho
                  have d8 := ev (show a1.eval (.tmp 55) = .pointer (some ⟨wo.heap.size, 0, none⟩) from hk.done 8 _ 55 rfl rfl (hdep ⟨8, .data⟩ (by simp) rfl) (by decide))
                  have d7 := ev (show a1.eval (.tmp 54) = .slice A6 (k + 1) c6 from hk.done 7 _ 54 rfl rfl (hdep ⟨7, .data⟩ (by simp) rfl) (by decide))
                  subst hP
                  obtain ⟨y0, y1, y2, y4⟩ := HBX6.out.cells
                  refine ⟨rfl, rexec5 (w' := W7) (by rw [HW7.out]; go_simp) ?_⟩
                  exact ⟨undef, rfl, (fun _ => rfl), ⟨(fun h => absurd h (by simp)), HF7.out⟩, .inr (.inr (.inr ⟨rfl, rfl⟩))⟩
                · cases hj
              case fin15 =>
                intro vs listed a2 x hall hlen hev hR hk
                obtain ⟨hF, hR⟩ := hR
                rcases hR with ⟨rfl, hP⟩ | ⟨rfl, hP⟩ | ⟨rfl, hP⟩ | ⟨rfl, hP⟩
                · cases hlen
                · cases hlen
                · cases hlen
                · have hact := fr_all [47, 48, 49, 50, 51, 52, 53, 54, 55] hk (by kernel_rfl)
                  simp only [List.foldl_cons, List.foldl_nil, List.setIfInBounds_toArray, List.set_cons_succ, List.set_cons_zero] at hact
                  generalize a2.eval (.tmp 47) = u47 at hact
                  generalize a2.eval (.tmp 48) = u48 at hact
                  generalize a2.eval (.tmp 49) = u49 at hact
                  generalize a2.eval (.tmp 50) = u50 at hact
                  generalize a2.eval (.tmp 51) = u51 at hact
                  generalize a2.eval (.tmp 52) = u52 at hact
                  generalize a2.eval (.tmp 53) = u53 at hact
                  generalize a2.eval (.tmp 54) = u54 at hact
                  generalize a2.eval (.tmp 55) = u55 at hact
                  rw [hact]
                  clear hact  hev hk
                  subst hP
                  have hkk := HKy.out
                  clear hF hcc hdd kk0
                  go_wp2_with fail
                  go_roundw
                  case rel => exact ⟨k + 1, J + 1, A6, c6, by omega, rfl, by go_num, (by show _ = _; rw [HJ.out]; omega), HS7⟩
                  case measure => have h1 := HJ.out; simp [intOf]; omega
            · have hJs : J ≤ 3020 := by have := HJ.out; omega
              obtain rfl : k = m := by omega
              obtain ⟨wl, rfl⟩ : ∃ y, y = wr := ⟨wr, rfl⟩
              have hkm' : k = min (l.length - 5 * i) 5 := by rw [HL.out]; exact HMm.out
              have hte := tk_end l i k hkm'
              have hdl : ((l.drop (5 * i)).take k).length = k := by rw [List.length_take, List.length_drop]; omega
              obtain ⟨A4, c4, x2, A5, c5, x3, hr2, -, hr3, hR3⟩ := HR.out.step HS.out.bl (fun S hS => HS.out.cont hdl (by omega) S hS) (lst l i) (by rw [lt_len]; have := HKp.out.2; omega) (by rw [HDs.out]; have := HKp.out.2; omega)
              rw [HDs.out] at hr2
              rw [lt_len, ← hte] at hr3
              rw [lt_len, HDs.out, leaf_take l i k hkm', ← lvL_succ, ← lt_succ] at hR3
              have HR2 := Lib.hid hr2
              have HR3 := Lib.hid hr3
              have HRn := Lib.hid hR3
              clear hkm' hte hdl hr2 hr3 hR3
              go_upto_region 13 with fail
              go_cut [44] from 35 to 44 (fun s44 wx => s44 = .bool false ∧ wl = wx)
              case first =>
                by_cases hk5 : k = 5
                · have hJ5 : ¬ (J : Int) < (I : Int) + 5 := by have := HJ.out; omega
                  clear hk5
                  go_wp2_with fail
                  go_meet
                  exact ⟨by first | trivial | rfl, by first | trivial | rfl⟩
                · have hJ5 : (J : Int) < (I : Int) + 5 := by have := HJ.out; omega
                  have hJn : ¬ (J : Int) < n := by have := HJ.out; have := HI.out; have := HMm.out; omega
                  go_wp2_with fail
                  go_meet
                  exact ⟨by first | trivial | rfl, by first | trivial | rfl⟩
              case rest =>
              obtain ⟨rfl, rfl⟩ := hcut
              obtain ⟨k0, k1, k2, k4⟩ := HS.out.bx.cells
              go_upto_region 18 with (at_builtin; refine Go.Lib.wpList_append_run _ rfl (.tmp 61) (.tmp 63) 24 24 rfl _ _ rfl rfl _ x2 HR2.out ?_)
              clear k0 k1 k2 k4
              go_wp2_with (at_builtin; refine Go.Lib.wpList_append_run _ rfl (.tmp 65) (.tmp 67) 53 53 rfl _ _ rfl rfl _ x3 HR3.out ?_)
              go_roundw
              case rel => exact ⟨i + 1, I + 5, _, A4, c4, A5, c5, by omega, rfl, rfl, by go_num, (by show _ = _; rw [HI.out]; omega), HRn⟩
              case measure => have h1 := HI.out; simp [intOf]; omega
        · obtain rfl : i = K := by omega
          have hI1 : ¬ (I : Int) = 0 := by have := HI.out; have h9 := hKp.1; omega
          have hI2 : ¬ (I : Int) < n := by have := HI.out; have h9 := hKd.2; intro h8; exact hlt (h9 (.inr (by omega)))
          have hi6 : i ≤ 601 := hKp.2
          clear hKd hKp
          go_upto_block 4 with fail
          obtain ⟨W4, rfl⟩ : ∃ y, y = wr := ⟨wr, rfl⟩
          go_wp2_with fail
          go_loopw [4, 5, 10, 11] (fun x y z t wr => ∃ (r f u : Nat) (out : List Nd) (least : List T) (ds : List Sd) (A1 : Option Addr) (c1 : Nat) (A2 : Option Addr) (c2 : Nat), x = .slice A1 u c1 ∧ y = .slice A2 u c2 ∧ z = .int .i64 f ∧ t = .int .i64 u ∧ Hid (u = f + r) ∧ Hid (LaySt l r f out least) ∧ Hid (RSt w2 out ds (.slice A1 u c1) least (.slice A2 u c2) wr)) (fun _ _ z t _ => ((intOf t) - (intOf z)).toNat)
          case atStart => exact ⟨i, 0, i, _, _, _, A1, c1, A2, c2, rfl, rfl, rfl, rfl, (by show _ = _; omega), HLa, HR⟩
          case round =>
            obtain ⟨r, f, u, out, least, ds, A1, c1, A2, c2, rfl, rfl, rfl, rfl, HU, HLa, HR⟩ := hrel
            have hsm : f + r ≤ 200 := by
              have h1 := lay_len r f out least HLa.out.2.1
              rw [HLa.out.2.2.2, tree_len] at h1
              have := levs_ge r
              have := HPg.out
              omega
            have hu2 : u ≤ 200 := by have := HU.out; omega
            have hf2 : f ≤ u := by have := HU.out; omega
            by_cases hr1 : 1 < r
            · have hur : (1 : Int) < (u : Int) - f := by have := HU.out; omega
              have HUp := Lib.hid (up_lt hr1)
              have HLn := Lib.hid (HLa.out.next hr1)
              have HG0 : Hid (GrpSt r f f []) := grpSt_start r f
              have HR0 : Hid (RSt w2 (out ++ ([] : List (Nat × Nat)).map (mkN least)) ds (.slice A1 (u + 0) c1) (least ++ lstG least []) (.slice A2 (u + 0) c2) wr) := by
                rw [List.map_nil, List.append_nil, show lstG least [] = [] from rfl, List.append_nil]
                exact HR.out
              obtain ⟨wq, rfl⟩ : ∃ y, y = wr := ⟨wr, rfl⟩
              go_wp2_with fail
              go_loopw [4, 5, 12] (fun x y z wr => ∃ (a p : Nat) (dn : List (Nat × Nat)) (ds : List Sd) (A1 : Option Addr) (c1 : Nat) (A2 : Option Addr) (c2 : Nat), f ≤ a ∧ a ≤ u ∧ x = .slice A1 p c1 ∧ y = .slice A2 p c2 ∧ z = .int .i64 a ∧ Hid (p = u + dn.length) ∧ Hid (dn.length ≤ a) ∧ Hid (GrpSt r f a dn) ∧ Hid (RSt w2 (out ++ dn.map (mkN least)) ds (.slice A1 p c1) (least ++ lstG least dn) (.slice A2 p c2) wr)) (fun _ _ z _ => u - (intOf z).toNat)
              case atStart => exact ⟨f, u, [], ds, A1, c1, A2, c2, Nat.le_refl _, (by have := HU.out; omega), rfl, rfl, rfl, rfl, Nat.zero_le _, HG0, HR0⟩
              case round =>
                obtain ⟨a, p, dn, ds, A1, c1, A2, c2, hfa, hau, rfl, rfl, rfl, HPp2, HDn, HG, HR⟩ := hrel
                have hu200 : u ≤ 200 := by have := HU.out; omega
                by_cases hlt2 : a < u
                · obtain ⟨q, hq⟩ : ∃ q, q = u - a := ⟨_, rfl⟩
                  have hqi : (u : Int) - a = (q : Nat) := by omega
                  have HGn := Lib.hid (HG.out.next (show a < f + r by have := HU.out; omega))
                  rw [show f + r - a = q by have := HU.out; omega] at HGn
                  obtain ⟨m, hm⟩ : ∃ m, m = many q := ⟨_, rfl⟩
                  have hmr := many_rng (show 0 < q by omega)
                  rw [← hm] at hmr HGn
                  obtain ⟨hm0, hm1, hm8⟩ := hmr
                  have HMq := Lib.hid hm
                  have HQ := Lib.hid hq
                  have hq200 : q ≤ 200 := by omega
                  have hai : (a : Int) < u := by omega
                  have HDs : Hid (ds.length = p) := by
                    show _ = _
                    rw [← HR.out.len, List.length_append, List.length_map, HLa.out.2.1, HPp2.out, HU.out]
                  have HTs : Hid ((least ++ lstG least dn).length = p) := by
                    show _ = _
                    rw [List.length_append, List.length_map, HLa.out.2.2.1, HPp2.out, HU.out]
                  have HEl : Hid (∀ J, (hJ : J < (least ++ lstG least dn).length) → J < u → (least ++ lstG least dn)[J] = least.getD J []) := fun J hJ hJu => by
                    have h9 : J < least.length := by rw [HLa.out.2.2.1]; have := HU.out; omega
                    rw [List.getElem_append_left h9, List.getD_eq_getElem?_getD, List.getElem?_eq_getElem h9]; rfl
                  clear hm hq
                  go_upto_if 83 with fail
                  go_cut [13] (fun s13 wx => s13 = .int .i64 ((if q = 9 then 7 else q : Nat) : Int) ∧ wr = wx)
                  case first =>
                    by_cases h9 : q = 9
                    · have h9i : (q : Int) = 9 := by omega
                      go_wp2_with fail
                      go_meet
                      exact ⟨by first | (rw [if_pos h9]; rfl) | rfl, by first | trivial | rfl⟩
                    · have h9i : ¬ (q : Int) = 9 := by omega
                      go_wp2_with fail
                      go_meet
                      exact ⟨by first | (rw [if_neg h9]) | rfl, by first | trivial | rfl⟩
                  case rest =>
                  obtain ⟨rfl, rfl⟩ := hcut
                  obtain ⟨q', hq'⟩ : ∃ y, y = if q = 9 then 7 else q := ⟨_, rfl⟩
                  have HC1 : Hid (8 < q' → m = 8) := fun h => by
                    have h1 := HMq.out
                    unfold many at h1
                    by_cases h9 : q = 9
                    · rw [if_pos h9] at hq'; omega
                    · rw [if_neg h9] at hq' h1
                      rw [if_pos (by omega)] at h1; exact h1
                  have HC2 : Hid (¬ 8 < q' → m = q') := fun h => by
                    have h1 := HMq.out
                    unfold many at h1
                    by_cases h9 : q = 9
                    · rw [if_pos h9] at hq' h1; omega
                    · rw [if_neg h9] at hq' h1
                      rw [if_neg (by omega)] at h1; omega
                  rw [← hq']
                  have hq2 : q' ≤ 200 := by split at hq' <;> omega
                  clear hq'
                  go_upto_if 85 with fail
                  go_cut [13] (fun s13 wx => s13 = .int .i64 (m : Nat) ∧ wr = wx)
                  case first =>
                    by_cases h8 : 8 < q'
                    · have h8i : (8 : Int) < q' := by omega
                      have HE := Lib.hid (HC1.out h8)
                      clear h8
                      go_wp2_with fail
                      go_meet
                      exact ⟨by rw [HE.out]; rfl, by first | trivial | rfl⟩
                    · have h8i : ¬ (8 : Int) < q' := by omega
                      have HE := Lib.hid (HC2.out h8)
                      clear h8
                      go_wp2_with fail
                      go_meet
                      exact ⟨by rw [HE.out], by first | trivial | rfl⟩
                  case rest =>
                  obtain ⟨rfl, rfl⟩ := hcut
                  have HNs := Lib.hid (NSt.start wr)
                  obtain ⟨W1, hW1⟩ : ∃ x, x = wr.alloc (.cells #[.slice none 0 0, .slice none 0 0, .slice none 0 0] 55) := ⟨_, rfl⟩
                  rw [← hW1] at HNs
                  have HW1 := Lib.hid hW1
                  obtain ⟨wo, rfl⟩ : ∃ x, x = wr := ⟨wr, rfl⟩
                  have ham : a + m ≤ u := by have := HQ.out; omega
                  have HTx : Hid (Txs wo wo.heap.size A2 (least ++ lstG least dn)) := by
                    have h9 := HR.out.oq
                    unfold OwnT at h9
                    rw [HTs.out] at h9
                    exact txs_of h9 HTs.out.symm
                  have HNs0 : Hid (NSt wo none (0 - 1) 0 none 0 0 ((List.range' (a + 1) (0 - 1)).map fun j => least.getD j []) ((List.range' a 0).map fun (j : Nat) => (j : Int)) W1) := HNs
                  have hps : p ≤ 1000 := by have h1 := HPp2.out; have h2 := HDn.out; omega
                  clear hW1
                  go_upto_region 29 with fail
                  rw [← HW1.out]
                  go_wp2_with fail
                  go_loopw [15] (fun y wr => ∃ (k J : Nat) (A3 : Option Addr) (c3 : Nat) (A4 : Option Addr) (c4 : Nat), k ≤ m ∧ y = .int .i64 J ∧ Hid (J = a + k) ∧ Hid (NSt wo A3 (k - 1) c3 A4 k c4 ((List.range' (a + 1) (k - 1)).map fun j => least.getD j []) ((List.range' a k).map fun (j : Nat) => (j : Int)) wr)) (fun y _ => a + m - (intOf y).toNat)
                  case atStart => exact ⟨0, a, none, 0, none, 0, Nat.zero_le _, rfl, rfl, HNs0⟩
                  case round =>
                    obtain ⟨k, J, A3, c3, A4, c4, hkm, rfl, HJ, HS⟩ := hrel
                    have hJs : J ≤ 220 := by have := HJ.out; omega
                    by_cases hlt3 : k < m
                    · have hJam : (J : Int) < (a : Int) + m := by have := HJ.out; omega
                      have hyl : ((List.range' a k).map fun (j : Nat) => (j : Int)).length = k := by simp
                      have HCs : Hid (((List.range' a k).map fun (j : Nat) => (j : Int)) ++ [(J : Int)] = (List.range' a (k + 1)).map fun (j : Nat) => (j : Int)) := by
                        show _ = _
                        rw [HJ.out, ← List.range'_append_1, List.map_append]; rfl
                      have hok : OwnK wr wo.heap.size (.slice A4 k c4) ((List.range' a k).map fun (j : Nat) => (j : Int)) := by show World.ownsRow _ _ _ _ _ _ _; rw [hyl]; exact HS.out.ok
                      obtain ⟨v5, w5, hr5, ho5, hg5, -⟩ := run_appK2 wr wo.heap.size _ _ hok J (by rw [hyl]; omega) HS.out.bl.size
                      obtain ⟨A5, c5, rfl, -⟩ := row_sl ho5
                      have e5 : (((List.range' a k).map fun (j : Nat) => (j : Int)) ++ [(J : Int)]).length = k + 1 := by rw [List.length_append, hyl]; rfl
                      have ho5' : w5.ownsRow wo.heap.size 3 1 (.slice A5 (k + 1) c5) (k + 1) (kcs (((List.range' a k).map fun (j : Nat) => (j : Int)) ++ [(J : Int)])) := by
                        have h9 := ho5
                        unfold OwnK at h9
                        rwa [e5] at h9
                      rw [e5] at hr5
                      obtain ⟨hbx5, hS6⟩ := HS.out.kid hg5 ho5'
                      rw [HCs.out] at hS6
                      have HBX5 := Lib.hid hbx5
                      obtain ⟨W6, hW6⟩ : ∃ x, x = w5.setCell ⟨wo.heap.size, 2, none⟩ (.slice A5 (k + 1) c5) := ⟨_, rfl⟩
                      rw [← hW6] at hS6
                      have HS6 := Lib.hid hS6
                      have HR5 := Lib.hid hr5
                      have HW6 := Lib.hid hW6
                      clear hyl hok hr5 ho5 hg5 e5 ho5' hbx5 hS6 hW6 HCs
                      obtain ⟨k0, k1, k2, k4⟩ := HS.out.bx.cells
                      obtain ⟨y0, y1, y2, y4⟩ := HBX5.out.cells
                      go_upto_region 33 with (at_builtin; refine Go.Lib.wpList_append_run _ rfl (.tmp 96) (.tmp 98) 32 32 rfl _ _ rfl rfl _ w5 HR5.out ?_)
                      rw [← HW6.out]
                      clear k0 k1 k2 k4 y0 y1 y2 y4
                      by_cases hk0 : k = 0
                      · subst hk0
                        have hJa : ¬ (a : Int) < J := by have := HJ.out; omega
                        have HS8 : Hid (NSt wo A3 (0 + 1 - 1) c3 A5 (0 + 1) c5 ((List.range' (a + 1) (0 + 1 - 1)).map fun j => least.getD j []) ((List.range' a (0 + 1)).map fun (j : Nat) => (j : Int)) W6) := HS6.out
                        go_wp2_with fail
                        go_roundw
                        case rel => exact ⟨0 + 1, J + 1, A3, c3, A5, c5, by omega, by go_num, (by show _ = _; have := HJ.out; omega), HS8⟩
                        case measure => have h1 := HJ.out; simp [intOf]; omega
                      · obtain ⟨k2, rfl⟩ : ∃ k2, k = k2 + 1 := ⟨k - 1, by omega⟩
                        have hJa : (a : Int) < J := by have := HJ.out; omega
                        rw [Nat.add_sub_cancel] at HS6
                        have hJl : J < (least ++ lstG least dn).length := by rw [HTs.out, HPp2.out]; have := HJ.out; omega
                        obtain ⟨b0, o0, hA, hb1, hc0⟩ := HTx.out J hJl
                        subst hA
                        rw [HEl.out J hJl (by have := HJ.out; omega)] at hc0
                        have hcc := (HS6.out.bl.cell (p := ⟨b0, o0 + J, none⟩) hb1).trans hc0
                        have hbl : b0 < W6.heap.size := Nat.lt_of_lt_of_le hb1 HS6.out.bl.size
                        have hbz : b0 ≠ wo.heap.size := by omega
                        obtain ⟨-, kk1, -, -⟩ := HS6.out.bx.cells
                        have hzl : wo.heap.size < W6.heap.size := boxN_lt HS6.out.bx
                        have HXs : Hid (((List.range' (a + 1) k2).map fun j => least.getD j []) ++ [least.getD J []] = (List.range' (a + 1) (k2 + 1)).map fun j => least.getD j []) := by
                          show _ = _
                          rw [HJ.out, ← List.range'_append_1, List.map_append, show a + (k2 + 1) = a + 1 + k2 by omega]; rfl
                        have hxl : ((List.range' (a + 1) k2).map fun j => least.getD j []).length = k2 := by simp
                        have hot : OwnT (W6.drewN 1) wo.heap.size (.slice A3 k2 c3) ((List.range' (a + 1) k2).map fun j => least.getD j []) := by show World.ownsRow _ _ _ _ _ _ _; rw [hxl]; exact HS6.out.ot
                        obtain ⟨v6, w6, hr6, ho6, hg6, -⟩ := run_appT2 (W6.drewN 1) wo.heap.size _ _ hot (least.getD J []) (by rw [hxl]; omega) (by show _ ≤ W6.heap.size; omega)
                        obtain ⟨A6, c6, rfl, -⟩ := row_sl ho6
                        have e6 : (((List.range' (a + 1) k2).map fun j => least.getD j []) ++ [least.getD J []]).length = k2 + 1 := by rw [List.length_append, hxl]; rfl
                        have ho6' : w6.ownsRow wo.heap.size 9 1 (.slice A6 (k2 + 1) c6) (k2 + 1) (tcs (((List.range' (a + 1) k2).map fun j => least.getD j []) ++ [least.getD J []])) := by
                          have h9 := ho6
                          unfold OwnT at h9
                          rwa [e6] at h9
                        rw [e6] at hr6
                        have hS1 := HS6.out.next (below_drewN W6 1)
                        obtain ⟨hbx6, hS7⟩ := hS1.key hg6 ho6'
                        rw [HXs.out] at hS7
                        have HBX6 := Lib.hid hbx6
                        obtain ⟨W7, hW7⟩ : ∃ x, x = w6.setCell ⟨wo.heap.size, 1, none⟩ (.slice A6 (k2 + 1) c6) := ⟨_, rfl⟩
                        rw [← hW7] at hS7
                        have HS7 : Hid (NSt wo A6 (k2 + 1 + 1 - 1) c6 A5 (k2 + 1 + 1) c5 ((List.range' (a + 1) (k2 + 1 + 1 - 1)).map fun j => least.getD j []) ((List.range' a (k2 + 1 + 1)).map fun (j : Nat) => (j : Int)) W7) := hS7
                        have hqq : ∀ b, (Value.slice A3 k2 c3).ownBlock = some b → wo.heap.size ≤ b := fun b hb => (HS6.out.ot.lt b hb).1
                        have h6c : w6.cell? ⟨b0, o0 + J, none⟩ = (W6.drewN 1).cell? ⟨b0, o0 + J, none⟩ := World.cell?_of_block (a := ⟨b0, o0 + J, none⟩) (hg6.block b0 (by show b0 < W6.heap.size; exact hbl) (fun e => by have h1 := hqq b0 e.symm; omega))
                        have HF6 : Hid (w6.cell? ⟨b0, o0 + J, none⟩ = some (.string (text (least.getD J [])))) := h6c.trans hcc
                        have HF7 : Hid (W7.cell? ⟨b0, o0 + J, none⟩ = some (.string (text (least.getD J [])))) := by
                          show _ = _
                          rw [hW7]; exact (World.cell?_of_block (a := ⟨b0, o0 + J, none⟩) (Below.heap_setCell w6 ⟨wo.heap.size, 1, none⟩ _ b0 hbz)).trans HF6.out
                        have HF1 : Hid ((([0] : List Nat).length ≤ 1 → ((W6.drewN 1).alloc (.cells #[.string (text (least.getD J []))] 9)).cell? ⟨wo.heap.size, 1, none⟩ = some (.slice A3 k2 c3)) ∧ ((W6.drewN 1).alloc (.cells #[.string (text (least.getD J []))] 9)).cell? ⟨b0, o0 + J, none⟩ = some (.string (text (least.getD J [])))) :=
                          ⟨fun _ => (World.cell?_alloc_lt _ _ ⟨wo.heap.size, 1, none⟩ (show wo.heap.size < W6.heap.size from hzl)).trans kk1, (World.cell?_alloc_lt _ _ ⟨b0, _, none⟩ (show b0 < W6.heap.size from hbl)).trans hcc⟩
                        obtain ⟨t, ht⟩ : ∃ t, t = text (least.getD J []) := ⟨_, rfl⟩
                        rw [← ht] at hcc HF6 HF7 HF1 hr6
                        have HR6 := Lib.hid hr6
                        have HW7 := Lib.hid hW7
                        have hJp : (J : Int) < p := by have h1 := HTs.out; omega
                        clear hc0 HXs hxl hot hr6 ho6 hg6 e6 ho6' hS1 hbx6 hS7 hW7 hqq h6c ht hJl
                        go_upto_region 34 with fail
                        refine wp_region_chain2 (by kernel_rfl) (fun q9 => [(.pointer (some ⟨wo.heap.size, 1, none⟩)), (.slice A3 k2 c3), (.slice (some ⟨b0, o0, none⟩) p c2), (.int .i64 J), (.pointer (some ⟨b0, o0 + J, none⟩)), (.string t), (.slice (some ⟨W6.heap.size, 0, none⟩) 1 1), (.slice A6 (k2 + 1) c6), (.pointer (some ⟨wo.heap.size, 1, none⟩)), undef].getD q9 undef) [6, 7, 9] []
                          (fun vs x => ((vs.length ≤ 1 → x.cell? ⟨wo.heap.size, 1, none⟩ = some (.slice A3 k2 c3)) ∧ x.cell? ⟨b0, o0 + J, none⟩ = some (.string t)) ∧ ((vs = [] ∧ x = W6.drewN 1) ∨ (vs = [.slice (some ⟨W6.heap.size, 0, none⟩) 1 1] ∧ x = (W6.drewN 1).alloc (.cells #[.string t] 9)) ∨ (vs = [.slice (some ⟨W6.heap.size, 0, none⟩) 1 1, .slice A6 (k2 + 1) c6] ∧ x = w6) ∨ (vs = [.slice (some ⟨W6.heap.size, 0, none⟩) 1 1, .slice A6 (k2 + 1) c6, undef] ∧ x = W7)))
                          ⟨⟨fun _ => kk1, hcc⟩, .inl ⟨rfl, rfl⟩⟩ (by kernel_rfl) (backsB_spec (by kernel_rfl)) (by kernel_rfl) (by decide) (by decide) ?pure34 ?acts34 ?fin34
                        case pure34 =>
                          intro i vs o listed a1 x hic ho hR hwait hlen hk hund hdep
                          obtain ⟨⟨f0, f1⟩, -⟩ := hR
                          have hi : i < 10 := (Array.getElem?_eq_some_iff.1 ho).1
                          have hii : i = 0 ∨ i = 1 ∨ i = 2 ∨ i = 3 ∨ i = 4 ∨ i = 5 ∨ i = 8 := by simp at hic; omega
                          rcases hii with rfl | rfl | rfl | rfl | rfl | rfl | rfl
                          · cases ho
                            have e14 := ev (show a1.eval (.tmp 14) = .pointer (some ⟨wo.heap.size, 0, none⟩) from hk.frame 14 (frame_of (by kernel_rfl)))
                            exact ⟨rfl, by go_simp⟩
                          · cases ho
                            have d0 := ev (show a1.eval (.tmp 104) = .pointer (some ⟨wo.heap.size, 1, none⟩) from hk.done 0 _ 104 rfl rfl (hdep ⟨0, .data⟩ (by simp) rfl) (by decide))
                            have hv : vs.length ≤ 1 := hwait 1 7 rfl (by kernel_rfl)
                            have g0 := f0 hv
                            exact ⟨rfl, by go_simp⟩
                          · cases ho
                            have e5 := ev (show a1.eval (.tmp 5) = .slice (some ⟨b0, o0, none⟩) p c2 from hk.frame 5 (frame_of (by kernel_rfl)))
                            exact ⟨rfl, by simp [execOp, e5, Act.eval]⟩
                          · cases ho
                            have e15 := ev (show a1.eval (.tmp 15) = .int .i64 J from hk.frame 15 (frame_of (by kernel_rfl)))
                            exact ⟨rfl, by simp [execOp, e15, Act.eval]⟩
                          · cases ho
                            have d2 := ev (show a1.eval (.tmp 106) = .slice (some ⟨b0, o0, none⟩) p c2 from hk.done 2 _ 106 rfl rfl (hdep ⟨2, .data⟩ (by simp) rfl) (by decide))
                            have d3 := ev (show a1.eval (.tmp 107) = .int .i64 J from hk.done 3 _ 107 rfl rfl (hdep ⟨3, .data⟩ (by simp) rfl) (by decide))
                            exact ⟨rfl, by go_simp⟩
                          · cases ho
                            have d4 := ev (show a1.eval (.tmp 108) = .pointer (some ⟨b0, o0 + J, none⟩) from hk.done 4 _ 108 rfl rfl (hdep ⟨4, .data⟩ (by simp) rfl) (by decide))
                            exact ⟨rfl, by go_simp⟩
                          · cases ho
                            have e14 := ev (show a1.eval (.tmp 14) = .pointer (some ⟨wo.heap.size, 0, none⟩) from hk.frame 14 (frame_of (by kernel_rfl)))
                            exact ⟨rfl, by go_simp⟩
                        case acts34 =>
                          intro i vs o listed a1 x hj ho hev hR hk hund hdep
                          obtain ⟨hF, hR⟩ := hR
                          rcases hR with ⟨rfl, hP⟩ | ⟨rfl, hP⟩ | ⟨rfl, hP⟩ | ⟨rfl, hP⟩
                          · cases hj
                            cases ho
                            have d5 := ev (show a1.eval (.tmp 109) = .string t from hk.done 5 _ 109 rfl rfl (hdep ⟨5, .data⟩ (by simp) rfl) (by decide))
                            subst hP
                            refine ⟨rfl, wp_exact4 (v := .slice (some ⟨W6.heap.size, 0, none⟩) 1 1) (w' := (W6.drewN 1).alloc (.cells #[.string t] 9)) (by go_simp) ?_⟩
                            exact ⟨_, rfl, (fun _ => rfl), HF1.out, .inr (.inl ⟨rfl, rfl⟩)⟩
                          · cases hj
                            cases ho
                            have d1 := ev (show a1.eval (.tmp 105) = .slice A3 k2 c3 from hk.done 1 _ 105 rfl rfl (hdep ⟨1, .data⟩ (by simp) rfl) (by decide))
                            have d6 := ev (show a1.eval (.tmp 110) = .slice (some ⟨W6.heap.size, 0, none⟩) 1 1 from hk.done 6 _ 110 rfl rfl (hdep ⟨6, .data⟩ (by simp) rfl) (by decide))
                            subst hP
                            have D1 : a1.eval (.tmp 105) = .slice A3 k2 c3 := hk.done 1 _ 105 rfl rfl (hdep ⟨1, .data⟩ (by simp) rfl) (by decide)
                            have D6 : a1.eval (.tmp 110) = .slice (some ⟨W6.heap.size, 0, none⟩) 1 1 := hk.done 6 _ 110 rfl rfl (hdep ⟨6, .data⟩ (by simp) rfl) (by decide)
                            refine ⟨rfl, Go.Lib.wp_append_run _ (.tmp 105) (.tmp 110) 53 53 rfl _ _ D1 D6 _ w6 HR6.out ?_⟩
                            exact ⟨_, rfl, (fun _ => rfl), ⟨(fun h => absurd h (by simp)), HF6.out⟩, .inr (.inr (.inl ⟨rfl, rfl⟩))⟩
                          · cases hj
                            cases ho
                            have d8 := ev (show a1.eval (.tmp 112) = .pointer (some ⟨wo.heap.size, 1, none⟩) from hk.done 8 _ 112 rfl rfl (hdep ⟨8, .data⟩ (by simp) rfl) (by decide))
                            have d7 := ev (show a1.eval (.tmp 111) = .slice A6 (k2 + 1) c6 from hk.done 7 _ 111 rfl rfl (hdep ⟨7, .data⟩ (by simp) rfl) (by decide))
                            subst hP
                            obtain ⟨y0, y1, y2, y4⟩ := HBX6.out.cells
                            refine ⟨rfl, rexec5 (w' := W7) (by rw [HW7.out]; go_simp) ?_⟩
                            exact ⟨undef, rfl, (fun _ => rfl), ⟨(fun h => absurd h (by simp)), HF7.out⟩, .inr (.inr (.inr ⟨rfl, rfl⟩))⟩
                          · cases hj
                        case fin34 =>
                          intro vs listed a2 x hall hlen hev hR hk
                          obtain ⟨hF, hR⟩ := hR
                          rcases hR with ⟨rfl, hP⟩ | ⟨rfl, hP⟩ | ⟨rfl, hP⟩ | ⟨rfl, hP⟩
                          · cases hlen
                          · cases hlen
                          · cases hlen
                          · have hact := fr_all [104, 105, 106, 107, 108, 109, 110, 111, 112] hk (by kernel_rfl)
                            simp only [List.foldl_cons, List.foldl_nil, List.setIfInBounds_toArray, List.set_cons_succ, List.set_cons_zero] at hact
                            generalize a2.eval (.tmp 104) = u104 at hact
                            generalize a2.eval (.tmp 105) = u105 at hact
                            generalize a2.eval (.tmp 106) = u106 at hact
                            generalize a2.eval (.tmp 107) = u107 at hact
                            generalize a2.eval (.tmp 108) = u108 at hact
                            generalize a2.eval (.tmp 109) = u109 at hact
                            generalize a2.eval (.tmp 110) = u110 at hact
                            generalize a2.eval (.tmp 111) = u111 at hact
                            generalize a2.eval (.tmp 112) = u112 at hact
                            rw [hact]
                            clear hact  hev hk
                            subst hP
                            clear hF hcc kk1
                            go_wp2_with fail
                            go_roundw
                            case rel => exact ⟨k2 + 1 + 1, J + 1, A6, c6, A5, c5, by omega, by go_num, (by show _ = _; have := HJ.out; omega), HS7⟩
                            case measure => have h1 := HJ.out; simp [intOf]; omega
                    · obtain rfl : k = m := by omega
                      have hJam : ¬ (J : Int) < (a : Int) + k := by have := HJ.out; omega
                      obtain ⟨wl, rfl⟩ : ∃ y, y = wr := ⟨wr, rfl⟩
                      have hal : a < (least ++ lstG least dn).length := by rw [HTs.out, HPp2.out]; omega
                      obtain ⟨A6, c6, x2, A7, c7, x3, hr2, hq2', hr3, hR3⟩ := HR.out.step HS.out.bl (fun S hS => HS.out.cont (by simp) (by simp) (by omega) (by omega) (fun y hy => by
                        obtain ⟨j, hj, rfl⟩ := List.mem_map.1 hy
                        have := List.mem_range'_1.1 hj
                        omega) S hS) (least.getD a []) (by rw [HTs.out]; omega) (by rw [HDs.out]; omega)
                      rw [HDs.out] at hr2
                      rw [HTs.out] at hr3
                      have e1 : out ++ dn.map (mkN least) ++ [mkN least (a, k)] = out ++ (dn ++ [(a, k)]).map (mkN least) := by simp
                      have e2 : least ++ lstG least dn ++ [least.getD a []] = least ++ lstG least (dn ++ [(a, k)]) := by simp [lstG]
                      have hR4 : RSt w2 (out ++ (dn ++ [(a, k)]).map (mkN least)) (ds ++ [⟨none, 0, 0, A3, k - 1, c3, A4, k, c4⟩]) (.slice A6 (p + 1) c6) (least ++ lstG least (dn ++ [(a, k)])) (.slice A7 (p + 1) c7) x3 := by
                        rw [← e1, ← e2]
                        rw [HTs.out, HDs.out] at hR3
                        exact hR3
                      have htx2 : Txs x2 x2.heap.size A2 (least ++ lstG least dn) := by
                        unfold OwnT at hq2'
                        rw [HTs.out] at hq2'
                        exact txs_of hq2' HTs.out.symm
                      obtain ⟨b0, o0, hA, -, hc0⟩ := htx2 a hal
                      subst hA
                      rw [HEl.out a hal (by omega)] at hc0
                      obtain ⟨t, ht⟩ : ∃ t, t = text (least.getD a []) := ⟨_, rfl⟩
                      rw [← ht] at hc0 hr3
                      have HR2 := Lib.hid hr2
                      have HR3 := Lib.hid hr3
                      have HRn := Lib.hid hR4
                      have HC0 := Lib.hid hc0
                      have hap : (a : Int) < p := by have h1 := HTs.out; omega
                      clear hr2 hr3 hR3 hR4 e1 e2 hq2' htx2 hc0 ht hal
                      obtain ⟨k0, k1, k2, k4⟩ := HS.out.bx.cells
                      go_upto_region 36 with (at_builtin; refine Go.Lib.wpList_append_run _ rfl (.tmp 113) (.tmp 115) 24 24 rfl _ _ rfl rfl _ x2 HR2.out ?_)
                      clear k0 k1 k2 k4
                      have hc0 := HC0.out
                      go_wp2_with (at_builtin; refine Go.Lib.wpList_append_run _ rfl (.tmp 117) (.tmp 122) 53 53 rfl _ _ rfl rfl _ x3 HR3.out ?_)
                      clear hc0
                      go_roundw
                      case rel => exact ⟨a + k, p + 1, dn ++ [(a, k)], _, A6, c6, A7, c7, by omega, by omega, rfl, rfl, by go_num, (by show _ = _; rw [HPp2.out, List.length_append]; rfl), (by show _ ≤ _; rw [List.length_append]; have h1 := HDn.out; simp; omega), HGn, HRn⟩
                      case measure => simp [intOf]; omega
                · have hae : ¬ (a : Int) < u := by omega
                  have HGf : Hid (grp r f = dn) := HG.out.fin (by have := HU.out; omega)
                  have HPr : Hid (p = f + r + up r) := by show _ = _; rw [HPp2.out, HU.out, ← HGf.out, grp_len]
                  have HR4 : Hid (RSt w2 (out ++ (grp r f).map (mkN least)) ds (.slice A1 p c1) (least ++ (grp r f).map fun g => least.getD g.1 []) (.slice A2 p c2) wr) := by
                    show RSt _ _ _ _ _ _ _
                    rw [HGf.out]; exact HR.out
                  have hUo := HU.out
                  have hupr := HUp.out
                  go_wp2_with fail
                  go_roundw
                  case rel => exact ⟨up r, f + r, p, _, _, ds, A1, c1, A2, c2, rfl, rfl, (by rw [← hUo]), rfl, HPr, HLn, HR4⟩
                  case measure =>
                    have h1 := HPr.out
                    simp only [intOf]; omega
            · have hur : ¬ (1 : Int) < (u : Int) - f := by have := HU.out; omega
              have HF := HLa.out.fin hr1
              have HO : Hid (BOut w (tree l) 0 (.returned (.tuple #[.slice A1 u c1, .int .i64 0])) wr) := by
                have hl1 : (tree l).length = u := by rw [← HF, HLa.out.2.1, HU.out]
                have hl2 : ds.length = u := by rw [← HR.out.len, HF, hl1]
                have ho : wr.ownsRow w2.heap.size 55 3 (.slice A1 u c1) u (dcs ds) := by
                  have h9 := HR.out.ov
                  unfold OwnN at h9
                  rw [hl2] at h9
                  exact h9
                obtain ⟨A', c', e, hle⟩ := row_sl ho
                injection e with _ _ e; subst e
                refine ⟨A1, c1, by rw [hl1], ?_, by rw [hl1]; exact hle, HB2.out.trans (HR.out.bl.mono HB2.out.size)⟩
                rw [← HF]
                exact HR.out.ct.nds ho hl2.symm
              clear HF
              go_wp2_with fail
              exact bodyPost_ret (v := .tuple #[.slice A1 u c1, .int .i64 0]) (by simp [results, Try.results10, go_sem]) rfl HO.out
    · have hp' := hp
      rw [← HL.out] at hp'
      obtain ⟨e1, e2⟩ := res_full HMy.out hp'
      rw [e1, e2]
      obtain ⟨pn, hpn⟩ : ∃ y, y = pagesN n := ⟨_, rfl⟩
      rw [← hpn] at HN hp
      have hpi : (200 : Int) < pn := by omega
      clear e1 e2 hp' hpn
      go_enter Try.func10, Try.ntmps10
      go_wp2_with fail
      refine (HM.out _ (Below.refl _ _)).mono ?_
      rintro e w1 ⟨rfl, hb⟩
      have HB := Lib.hid hb
      clear hb
      go_wp2_with fail
      refine (HN.out _).mono ?_
      rintro e w2 ⟨rfl, hb⟩
      have HB2 := Lib.hid (step' HB.out hb HB.out.size)
      clear hb
      go_wp2_with fail
      exact bodyPost_ret (v := .tuple #[.slice none 0 0, .int .i64 9]) (by simp [results, Try.results10, go_sem]) rfl ⟨none, 0, rfl, nds_nil _ _ _, Nat.le_refl _, HB2.out⟩
end Go.Proofs.Yteeeomcdknjolaa.Tre
