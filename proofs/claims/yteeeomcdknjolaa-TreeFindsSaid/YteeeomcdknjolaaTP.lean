/- The pairs in the leaves; which pages are a tree. -/
import Derived.Test.YteeeomcdknjolaaTO
namespace Go.Proofs.Yteeeomcdknjolaa.Tre
open Go.RowKit Crc Chk Frm Fra Nod

theorem prs_take_succ (L : List Nd) (k : Nat) (h : k < L.length) : prsOf (L.take (k + 1)) = prsOf (L.take k) ++ L[k].ps := by
  rw [List.take_succ_eq_append_getElem h, prs_append]
  simp [prsOf]
theorem prs_bound (L : List Nd) (m : Nat) (h : ∀ nd ∈ L, nd.ps.length ≤ m) : (prsOf L).length ≤ L.length * m := by
  induction L with
  | nil => simp [prsOf]
  | cons a L ih =>
    have h1 := h a (by simp)
    have h2 := ih (fun nd hn => h nd (by simp [hn]))
    have : prsOf (a :: L) = a.ps ++ prsOf L := by simp [prsOf]
    rw [this, List.length_append, List.length_cons, Nat.add_mul]
    omega
theorem prs_take_bound (L : List Nd) (k m : Nat) (h : ∀ nd ∈ L, nd.ps.length ≤ m) : (prsOf (L.take k)).length ≤ L.length * m := by
  refine Nat.le_trans (prs_bound (L.take k) m fun nd hn => h nd (List.mem_of_mem_take hn)) ?_
  exact Nat.mul_le_mul (by rw [List.length_take]; omega) (Nat.le_refl _)
theorem may_few {n : Nd} (h : Nod.mayB n = true) : n.ps.length ≤ 5 := by
  unfold Nod.mayB at h
  split at h
  · exact (leaf_iff.1 h).2.1
  · have := (inner_iff.1 h).1.1; omega
set_option maxHeartbeats 1600000 in
theorem gather_any (A : Option Addr) (L : List Nd) (n c : Nat) (w : World) (h : Nds w w.heap.size A L) (hl : L.length = n) (hn : n ≤ 1000) (hb : ∀ nd ∈ L, nd.ps.length ≤ 1000) :
    Calls Try.prog 40 #[.slice A n c] w fun e w' => ∃ v, e = .returned v ∧ OwnP w' w.heap.size v (prsOf L) ∧ Below w.heap.size w w' := by
  have HP := Lib.hid h
  have HL := Lib.hid hl
  have HBd := Lib.hid hb
  clear h hl hb
  go_enter Try.func40, Try.ntmps40
  go_wp2_with fail
  go_loopw [3, 8] (fun x y wr => ∃ (k : Nat) (v : Value), k ≤ n ∧ v = x ∧ y = .int .i64 k ∧ Hid (OwnP wr w.heap.size v (prsOf (L.take k))) ∧ Hid (Below w.heap.size w wr)) (fun _ y _ => n - (intOf y).toNat)
  case atStart => exact ⟨0, .slice none 0 0, Nat.zero_le _, rfl, rfl, World.ownsRow_nil _ _ _ _, Below.refl _ _⟩
  case round =>
    obtain ⟨k, v, hk, rfl, rfl, HO, HB⟩ := hrel
    by_cases hlt : k < n
    · have hlt' : k < L.length := by rw [HL.out]; exact hlt
      obtain ⟨b0, o0, A1, n1, c1, A2, n2, c2, A3, n3, c3, rfl, hb1, z1, z2, z3, hi⟩ := HP.out k hlt'
      have hbw : b0 < wr.heap.size := by have := HB.out.size; omega
      have q1 := (HB.out.cell (p := ⟨b0, o0 + k * 3, none⟩) hb1).trans z1
      have q2 := (HB.out.cell (p := ⟨b0, o0 + k * 3 + 1, none⟩) hb1).trans z2
      have q3 := (HB.out.cell (p := ⟨b0, o0 + k * 3 + 2, none⟩) hb1).trans z3
      obtain ⟨W2, hW2⟩ : ∃ x, x = wr.alloc (.cells #[.slice A1 n1 c1, .slice A2 n2 c2, .slice A3 n3 c3] 55) := ⟨_, rfl⟩
      have hb2 : Below wr.heap.size wr W2 := by rw [hW2]; exact (Below.refl _ _).alloc (Nat.le_refl _) _
      have HBX : Hid (BoxN wr.heap.size A1 n1 c1 A2 n2 c2 A3 n3 c3 W2) := by rw [hW2]; exact boxN_new wr ..
      have hB2 : Below w.heap.size w W2 := HB.out.trans (hb2.mono HB.out.size)
      have hO2 : OwnP W2 w.heap.size v (prsOf (L.take k)) := row_below HO.out hb2 (Nat.le_refl _)
      have hbd := HBd.out L[k] (List.getElem_mem hlt')
      have hbk := prs_take_bound L k 1000 HBd.out
      obtain ⟨v6, w6, hr6, ho6, hb6⟩ := run_appPs W2 w.heap.size w.heap.size v _ hO2 A1 L[k].ps n1 c1 (hi.ps.below hB2 (Nat.le_refl _)) hi.l1 (by have := HL.out; omega) (by have := hi.l1; omega) hB2.size
      rw [← prs_take_succ L k hlt'] at ho6
      have HR6 := Lib.hid hr6
      have HO6 := Lib.hid ho6
      have HB6 := Lib.hid (hB2.trans hb6)
      have HW2 := Lib.hid hW2
      clear z1 z2 z3 hi hW2 hb2 hB2 hO2 hbd hbk hr6 ho6 hb6 hlt'
      go_upto_region 5 with fail
      rw [← HW2.out]
      obtain ⟨k0, k1, k2, k4⟩ := HBX.out.cells
      clear q1 q2 q3
      go_wp2_with (at_builtin; refine Go.Lib.wpList_append_run _ rfl (.tmp 12) (.tmp 14) 22 22 rfl _ _ rfl rfl _ w6 HR6.out ?_)
      clear k0 k1 k2 k4
      go_roundw
      case rel => exact ⟨k + 1, _, by omega, rfl, by go_num, HO6, HB6⟩
      case measure => simp [intOf]; omega
    · obtain rfl : k = n := by omega
      have HX : Hid (prsOf (L.take k) = prsOf L) := by show _ = _; rw [← HL.out, List.take_length]
      rw [HX.out] at HO
      go_wp2_with fail
      go_ret
      exact ⟨_, rfl, HO.out, HB.out⟩
set_option maxHeartbeats 1600000 in
theorem rpairs_any (A : Option Addr) (L : List Nd) (n c : Nat) (w : World) (h : Nds w w.heap.size A L) (hl : L.length = n) (hn : n ≤ 1000) (hb : ∀ nd ∈ L, nd.ps.length ≤ 1000) :
    Calls Try.prog 44 #[.slice A n c] w fun e w' => ∃ v, e = .returned v ∧ OwnP w' w.heap.size v (prsOf L) ∧ Below w.heap.size w w' := by
  have HP := Lib.hid h
  have HL := Lib.hid hl
  have HBd := Lib.hid hb
  clear h hl hb
  go_enter Try.func44, Try.ntmps44
  go_wp2_with fail
  go_loopw [3, 4] (fun x y wr => ∃ (k : Nat) (v : Value), k ≤ n ∧ v = x ∧ y = .int .i64 k ∧ Hid (OwnP wr w.heap.size v (prsOf (L.take k))) ∧ Hid (Below w.heap.size w wr)) (fun _ y _ => n - (intOf y).toNat)
  case atStart => exact ⟨0, .slice none 0 0, Nat.zero_le _, rfl, rfl, World.ownsRow_nil _ _ _ _, Below.refl _ _⟩
  case round =>
    obtain ⟨k, v, hk, rfl, rfl, HO, HB⟩ := hrel
    by_cases hlt : k < n
    · have hlt' : k < L.length := by rw [HL.out]; exact hlt
      obtain ⟨b0, o0, A1, n1, c1, A2, n2, c2, A3, n3, c3, rfl, hb1, z1, z2, z3, hi⟩ := HP.out k hlt'
      have hbw : b0 < wr.heap.size := by have := HB.out.size; omega
      have q1 := (HB.out.cell (p := ⟨b0, o0 + k * 3, none⟩) hb1).trans z1
      have hbd := HBd.out L[k] (List.getElem_mem hlt')
      have hbk := prs_take_bound L k 1000 HBd.out
      obtain ⟨v6, w6, hr6, ho6, hb6⟩ := run_appPs wr w.heap.size w.heap.size v _ HO.out A1 L[k].ps n1 c1 (hi.ps.below HB.out (Nat.le_refl _)) hi.l1 (by have := HL.out; omega) (by have := hi.l1; omega) HB.out.size
      rw [← prs_take_succ L k hlt'] at ho6
      have HR6 := Lib.hid hr6
      have HO6 := Lib.hid ho6
      have HB6 := Lib.hid (HB.out.trans hb6)
      clear z1 z2 z3 hi hbd hbk hr6 ho6 hb6 hlt'
      go_wp2_with (at_builtin; refine Go.Lib.wpList_append_run _ rfl (.tmp 11) (.tmp 16) 22 22 rfl _ _ rfl rfl _ w6 HR6.out ?_)
      clear q1
      go_roundw
      case rel => exact ⟨k + 1, _, by omega, rfl, by go_num, HO6, HB6⟩
      case measure => simp [intOf]; omega
    · obtain rfl : k = n := by omega
      have HX : Hid (prsOf (L.take k) = prsOf L) := by show _ = _; rw [← HL.out, List.take_length]
      rw [HX.out] at HO
      go_wp2_with fail
      go_ret
      exact ⟨_, rfl, HO.out, HB.out⟩
theorem notmay_any (n : Nd) (A1 : Option Addr) (n1 c1 : Nat) (A2 : Option Addr) (n2 c2 : Nat) (A3 : Option Addr) (n3 c3 : Nat) (w : World) (h : IsN w w.heap.size n A1 n1 c1 A2 n2 c2 A3 n3 c3) :
    Calls Try.prog 37 #[nv A1 n1 c1 A2 n2 c2 A3 n3 c3] w fun e w' => e = .returned (.bool (!Nod.mayB n)) ∧ Below w.heap.size w w' := by
  obtain ⟨W0, hW0⟩ : ∃ W0, W0 = w.alloc (.cells #[.slice A1 n1 c1, .slice A2 n2 c2, .slice A3 n3 c3] 55) := ⟨_, rfl⟩
  have HF : Hid (BoxN w.heap.size A1 n1 c1 A2 n2 c2 A3 n3 c3 W0) := by rw [hW0]; exact boxN_new w ..
  have HB0 : Hid (Below w.heap.size w W0) := by rw [hW0]; exact (Below.refl _ _).alloc (Nat.le_refl _) _
  have HM := Lib.hid (may_any n A1 n1 c1 A2 n2 c2 A3 n3 c3 W0 ((h.below HB0.out (Nat.le_refl _)).more HB0.out.size))
  have HW0 := Lib.hid hW0
  clear h hW0
  go_enter Try.func37, Try.ntmps37
  go_upto_region 1 with fail
  rw [← HW0.out]
  obtain ⟨k0, k1, k2, k4⟩ := HF.out.cells
  go_wp2_with fail
  refine HM.out.mono ?_
  rintro e w' ⟨rfl, hb⟩
  have HB := Lib.hid (HB0.out.trans (hb.mono HB0.out.size))
  clear hb
  go_wp2_with fail
  go_ret
  exact ⟨rfl, HB.out⟩
abbrev badN (n : Nd) : Bool := !Nod.mayB n
set_option maxHeartbeats 1600000 in
theorem idxN_any (A : Option Addr) (L : List Nd) (n c : Nat) (w : World) (h : Nds w w.heap.size A L) (hl : L.length = n) (hn : n ≤ 9223372036854775807) :
    Calls Try.prog 58 #[.slice A n c, .func (.func 37) #[] #[]] w (Nod.Found (L.any badN) w.heap.size w) := by
  have HP := Lib.hid h
  have HL := Lib.hid hl
  clear h hl
  go_enter Try.func58, Try.ntmps58
  go_wp2_with fail
  go_loopw [8] (fun i wr => ∃ k : Nat, k ≤ n ∧ i = .int .i64 k ∧ Hid ((L.take k).any badN = false) ∧ Hid (Below w.heap.size w wr)) (fun i _ => n - (intOf i).toNat)
  case atStart => exact ⟨0, Nat.zero_le _, rfl, by show _ = _; simp, Below.refl _ _⟩
  case round =>
    obtain ⟨k, hk, rfl, HR, HB⟩ := hrel
    by_cases hlt : k < n
    · have hlt' : k < L.length := by rw [HL.out]; exact hlt
      obtain ⟨b0, o0, A1, n1, c1, A2, n2, c2, A3, n3, c3, rfl, hb1, z1, z2, z3, hi⟩ := HP.out k hlt'
      have q1 := (HB.out.cell (p := ⟨b0, o0 + k * 3, none⟩) hb1).trans z1
      have q2 := (HB.out.cell (p := ⟨b0, o0 + k * 3 + 1, none⟩) hb1).trans z2
      have q3 := (HB.out.cell (p := ⟨b0, o0 + k * 3 + 2, none⟩) hb1).trans z3
      have HD := Lib.hid (any_take_succ badN L k hlt')
      have HA : Hid (badN L[k] = true → L.any badN = true) := fun h => any_of hlt' h
      have HV := Lib.hid (notmay_any L[k] A1 n1 c1 A2 n2 c2 A3 n3 c3 wr ((hi.below HB.out (Nat.le_refl _)).more HB.out.size))
      obtain ⟨x, hx⟩ : ∃ x, x = badN L[k] := ⟨_, rfl⟩
      rw [show (!Nod.mayB L[k]) = x from hx.symm] at HV
      rw [← hx] at HD HA
      clear hx z1 z2 z3 hi hlt'
      cases x with
      | true =>
        go_wp2_with fail
        refine HV.out.mono ?_
        rintro e w' ⟨rfl, hb2⟩
        have HB2 := Lib.hid (HB.out.trans (hb2.mono HB.out.size))
        clear hb2
        go_wp2_with fail
        go_ret
        exact ⟨k, rfl, by rw [HA.out (by first | trivial | rfl)]; simp, HB2.out⟩
      | false =>
        go_wp2_with fail
        refine HV.out.mono ?_
        rintro e w' ⟨rfl, hb2⟩
        have HB2 := Lib.hid (HB.out.trans (hb2.mono HB.out.size))
        clear hb2
        go_wp2_with fail
        go_roundw
        case rel => exact ⟨k + 1, by omega, by go_num, by
          show _ = _
          rw [HD.out, HR.out]; rfl, HB2⟩
        case measure => simp [intOf]; omega
    · obtain rfl : k = n := by omega
      go_wp2_with fail
      go_ret
      exact ⟨-1, rfl, by
        have h := HR.out
        rw [← HL.out, List.take_length] at h
        rw [h]; rfl, HB.out⟩
theorem hasN_any (A : Option Addr) (L : List Nd) (n c : Nat) (w : World) (h : Nds w w.heap.size A L) (hl : L.length = n) (hn : n ≤ 9223372036854775807) :
    Calls Try.prog 39 #[.slice A n c, .func (.func 37) #[] #[]] w fun e w' => e = .returned (.bool (L.any badN)) ∧ Below w.heap.size w w' := by
  have HX := Lib.hid (idxN_any A L n c w h hl hn)
  clear h hl
  go_enter Try.func39, Try.ntmps39
  go_wp2_with fail
  refine HX.out.mono ?_
  rintro e w' ⟨r, rfl, hr, hb⟩
  have HB := Lib.hid hb
  have HR := Lib.hid hr
  clear hb hr
  go_wp2_with fail
  go_ret
  exact ⟨retb HR.out, HB.out⟩
theorem all_badN {L : List Nd} (h : L.any badN = false) : L.all Nod.mayB = true := by
  rw [List.all_eq_true]
  intro n hn
  cases hm : Nod.mayB n with
  | true => rfl
  | false =>
    have : L.any badN = true := List.any_eq_true.2 ⟨n, hn, by unfold badN; rw [hm]; rfl⟩
    rw [h] at this; cases this
theorem right_bad {L : List Nd} (h : L.any badN = true) : rightB L = false := by
  obtain ⟨n, hn, hb⟩ := List.any_eq_true.1 h
  unfold rightB
  rw [Bool.and_eq_false_iff]
  left
  rw [List.all_eq_false]
  exact ⟨n, hn, by unfold badN at hb; simpa using hb⟩
theorem right_err {L : List Nd} (h : resE (prsOf L) ≠ 0) : rightB L = false := by
  cases hr : rightB L with
  | false => rfl
  | true =>
    obtain ⟨h1, h2, -⟩ := right_tree hr
    exact absurd (res_ok h1 h2).1 h
theorem right_ok {L : List Nd} (hm : L.all Nod.mayB = true) (h : resE (prsOf L) = 0) : rightB L = decide (L = tree (prsOf L)) ∧ resL (prsOf L) = tree (prsOf L) := by
  have h1 : mayP (prsOf L) = true := by
    unfold resE at h
    split at h
    · assumption
    · cases h
  have h2 : pagesN (prsOf L).length ≤ 200 := by
    unfold resE at h
    rw [if_pos h1] at h
    split at h
    · assumption
    · cases h
  refine ⟨?_, (res_ok h1 h2).2⟩
  unfold rightB
  rw [hm, h1, decide_eq_true h2, Bool.true_and, Bool.true_and, Bool.true_and]
  exact decide_eq_decide.2 ⟨Eq.symm, Eq.symm⟩
theorem resE_rng (l : List P) : resE l = 0 ∨ resE l = 1 ∨ resE l = 9 := by unfold resE; split <;> (try split) <;> simp
theorem resL_len (l : List P) : (resL l).length ≤ 200 := by
  unfold resL
  split <;> (try split)
  · rw [tree_len]; assumption
  · simp
  · simp
set_option maxHeartbeats 1600000 in
theorem right_any (A : Option Addr) (L : List Nd) (n c : Nat) (w : World) (h : Nds w w.heap.size A L) (hl : L.length = n) (hn : n ≤ 9223372036854775807) :
    Calls Try.prog 19 #[.slice A n c] w fun e w' => e = .returned (.bool (rightB L)) ∧ Below w.heap.size w w' := by
  have HP := Lib.hid h
  have HL := Lib.hid hl
  have HZ : Hid (rightB L = true → 0 < n ∧ n ≤ 200) := fun h => by have := right_len h; rw [hl] at this; exact ⟨this.2.1, this.2.2⟩
  obtain ⟨x, hx⟩ : ∃ x, x = rightB L := ⟨_, rfl⟩
  rw [← hx] at HZ ⊢
  have HX := Lib.hid hx
  clear h hl hx
  by_cases h0 : n < 1
  · have HF : Hid (x = false) := by
      cases x with
      | false => rfl
      | true => have := HZ.out rfl; omega
    go_enter Try.func19, Try.ntmps19
    go_wp2_with fail
    go_ret
    exact ⟨retb HF.out.symm, Below.refl _ _⟩
  · by_cases h2 : 200 < n
    · have HF : Hid (x = false) := by
        cases x with
        | false => rfl
        | true => have := HZ.out rfl; omega
      go_enter Try.func19, Try.ntmps19
      go_wp2_with fail
      go_ret
      exact ⟨retb HF.out.symm, Below.refl _ _⟩
    · have HC := Lib.hid (hasN_any A L n c w HP.out HL.out hn)
      cases hb : L.any badN with
      | true =>
        have HF : Hid (x = false) := by show _ = _; rw [HX.out]; exact right_bad hb
        rw [hb] at HC
        clear hb
        go_enter Try.func19, Try.ntmps19
        go_wp2_with fail
        refine HC.out.mono ?_
        rintro e w1 ⟨rfl, hb1⟩
        have HB := Lib.hid hb1
        clear hb1
        go_wp2_with fail
        go_ret
        exact ⟨retb HF.out.symm, HB.out⟩
      | false =>
        rw [hb] at HC
        have HA := Lib.hid (all_badN hb)
        have HSm : Hid (∀ nd ∈ L, nd.ps.length ≤ 5) := fun nd hnd => may_few (List.all_eq_true.1 HA.out nd hnd)
        have HLn : Hid ((prsOf L).length ≤ 3000) := by
          have := prs_bound L 5 HSm.out
          show _ ≤ _
          have := HL.out
          omega
        clear hb
        go_enter Try.func19, Try.ntmps19
        go_wp2_with fail
        refine HC.out.mono ?_
        rintro e w1 ⟨rfl, hb1⟩
        have HB := Lib.hid hb1
        have HG := Lib.hid (gather_any A L n c w1 (HP.out.next hb1) HL.out (by omega) (fun nd hnd => Nat.le_trans (HSm.out nd hnd) (by decide)))
        clear hb1
        go_wp2_with fail
        refine HG.out.mono ?_
        rintro e w2 ⟨v, rfl, ho, hb2⟩
        obtain ⟨Ag, cg, rfl, hle⟩ := row_sl ho
        have HB2 := Lib.hid (step' HB.out hb2 HB.out.size)
        have HBu := Lib.hid (build_any Ag (prsOf L) (prsOf L).length cg w2 (prs_of ho rfl) rfl hle HLn.out)
        clear ho hb2 hle HG
        go_wp2_with fail
        refine HBu.out.mono ?_
        rintro e w3 ⟨Ab, cb, rfl, hnd, hlb, hb3⟩
        have HB3 := Lib.hid (step' HB2.out hb3 HB2.out.size)
        have HNd := Lib.hid hnd
        clear hnd hb3
        rcases Classical.em (resE (prsOf L) = 0) with he | he
        · obtain ⟨r1, r2⟩ := right_ok HA.out he
          rw [he, r2]
          rw [r2] at HNd
          have HF : Hid (x = decide (L = tree (prsOf L))) := by show _ = _; rw [HX.out]; exact r1
          have HE := Lib.hid (eqN_any A Ab L (tree (prsOf L)) n (tree (prsOf L)).length c cb w3 (HP.out.below HB3.out (Nat.le_refl _) |>.more HB3.out.size) HNd.out HL.out rfl hn (by
            have := resL_len (prsOf L); rw [r2] at this; omega))
          rw [← HF.out] at HE
          clear r1 r2 he hlb
          go_wp2_with fail
          refine HE.out.mono ?_
          rintro e w4 ⟨rfl, hb4⟩
          have HB4 := Lib.hid (step' HB3.out hb4 HB3.out.size)
          clear hb4
          go_wp2_with fail
          go_ret
          exact ⟨rfl, HB4.out⟩
        · have HF : Hid (x = false) := by show _ = _; rw [HX.out]; exact right_err he
          obtain ⟨ee, hee⟩ : ∃ y, y = resE (prsOf L) := ⟨_, rfl⟩
          rw [← hee] at he ⊢
          clear hee hlb
          go_wp2_with fail
          go_ret
          exact ⟨retb HF.out.symm, HB3.out⟩
set_option maxHeartbeats 1600000 in
theorem rright_any (A : Option Addr) (L : List Nd) (n c : Nat) (w : World) (h : Nds w w.heap.size A L) (hl : L.length = n) (hn : n ≤ 600) :
    Calls Try.prog 20 #[.slice A n c] w fun e w' => e = .returned (.bool (rightB L)) ∧ Below w.heap.size w w' := by
  have HP := Lib.hid h
  have HL := Lib.hid hl
  obtain ⟨x, hx⟩ : ∃ x, x = rightB L := ⟨_, rfl⟩
  rw [← hx]
  have HX := Lib.hid hx
  clear h hl hx
  go_enter Try.func20, Try.ntmps20
  go_wp2_with fail
  go_loopw [3] (fun i wr => ∃ k : Nat, k ≤ n ∧ i = .int .i64 k ∧ Hid ((L.take k).any badN = false) ∧ Hid (Below w.heap.size w wr)) (fun i _ => n - (intOf i).toNat)
  case atStart => exact ⟨0, Nat.zero_le _, rfl, by show _ = _; simp, Below.refl _ _⟩
  case round =>
    obtain ⟨k, hk, rfl, HR, HB⟩ := hrel
    by_cases hlt : k < n
    · have hlt' : k < L.length := by rw [HL.out]; exact hlt
      obtain ⟨b0, o0, A1, n1, c1, A2, n2, c2, A3, n3, c3, rfl, hb1, z1, z2, z3, hi⟩ := HP.out k hlt'
      have q1 := (HB.out.cell (p := ⟨b0, o0 + k * 3, none⟩) hb1).trans z1
      have q2 := (HB.out.cell (p := ⟨b0, o0 + k * 3 + 1, none⟩) hb1).trans z2
      have q3 := (HB.out.cell (p := ⟨b0, o0 + k * 3 + 2, none⟩) hb1).trans z3
      have HD := Lib.hid (any_take_succ badN L k hlt')
      have HA : Hid (badN L[k] = true → L.any badN = true) := fun h => any_of hlt' h
      have HV := Lib.hid (rmay_any L[k] A1 n1 c1 A2 n2 c2 A3 n3 c3 wr ((hi.below HB.out (Nat.le_refl _)).more HB.out.size))
      obtain ⟨y, hy⟩ : ∃ x, x = Nod.mayB L[k] := ⟨_, rfl⟩
      rw [← hy] at HV
      have hbk : badN L[k] = !y := by unfold badN; rw [hy]
      rw [hbk] at HD HA
      clear hy hbk z1 z2 z3 hi hlt'
      cases y with
      | false =>
        have HF : Hid (x = false) := by show _ = _; rw [HX.out]; exact right_bad (HA.out rfl)
        go_wp2_with fail
        refine HV.out.mono ?_
        rintro e w' ⟨rfl, hb2⟩
        have HB2 := Lib.hid (HB.out.trans (hb2.mono HB.out.size))
        clear hb2
        go_wp2_with fail
        go_ret
        exact ⟨retb HF.out.symm, HB2.out⟩
      | true =>
        go_wp2_with fail
        refine HV.out.mono ?_
        rintro e w' ⟨rfl, hb2⟩
        have HB2 := Lib.hid (HB.out.trans (hb2.mono HB.out.size))
        clear hb2
        go_wp2_with fail
        go_roundw
        case rel => exact ⟨k + 1, by omega, by go_num, by
          show _ = _
          rw [HD.out, HR.out]; rfl, HB2⟩
        case measure => simp [intOf]; omega
    · obtain rfl : k = n := by omega
      have hb : L.any badN = false := by have h9 := HR.out; rwa [← HL.out, List.take_length] at h9
      have HA := Lib.hid (all_badN hb)
      have HSm : Hid (∀ nd ∈ L, nd.ps.length ≤ 5) := fun nd hnd => may_few (List.all_eq_true.1 HA.out nd hnd)
      have HLn : Hid ((prsOf L).length ≤ 3000) := by
        have := prs_bound L 5 HSm.out
        show _ ≤ _
        have := HL.out
        omega
      obtain ⟨w1, rfl⟩ : ∃ y, y = wr := ⟨wr, rfl⟩
      have HG := Lib.hid (rpairs_any A L k c w1 ((HP.out.below HB.out (Nat.le_refl _)).more HB.out.size) HL.out (by omega) (fun nd hnd => Nat.le_trans (HSm.out nd hnd) (by decide)))
      clear hb
      go_wp2_with fail
      refine HG.out.mono ?_
      rintro e w2 ⟨v, rfl, ho, hb2⟩
      obtain ⟨Ag, cg, rfl, hle⟩ := row_sl ho
      have HB2 := Lib.hid (step' HB.out hb2 HB.out.size)
      have HBu := Lib.hid (rbuild_any Ag (prsOf L) (prsOf L).length cg w2 (prs_of ho rfl) rfl HLn.out)
      clear ho hb2 hle HG
      go_wp2_with fail
      refine HBu.out.mono ?_
      rintro e w3 ⟨Ab, cb, rfl, hnd, hlb, hb3⟩
      have HB3 := Lib.hid (step' HB2.out hb3 HB2.out.size)
      have HNd := Lib.hid hnd
      clear hnd hb3
      rcases Classical.em (resE (prsOf L) = 0) with he | he
      · obtain ⟨r1, r2⟩ := right_ok HA.out he
        rw [he, r2]
        rw [r2] at HNd
        have HF : Hid (x = decide (tree (prsOf L) = L)) := by show _ = _; rw [HX.out, r1]; exact decide_eq_decide.2 ⟨Eq.symm, Eq.symm⟩
        have HE := Lib.hid (sameN_any Ab A (tree (prsOf L)) L (tree (prsOf L)).length k cb c w3 HNd.out (HP.out.below HB3.out (Nat.le_refl _) |>.more HB3.out.size) rfl HL.out (by
          have := resL_len (prsOf L); rw [r2] at this; omega) (by omega))
        rw [← HF.out] at HE
        clear r1 r2 he hlb
        go_wp2_with fail
        refine HE.out.mono ?_
        rintro e w4 ⟨rfl, hb4⟩
        have HB4 := Lib.hid (step' HB3.out hb4 HB3.out.size)
        clear hb4
        go_wp2_with fail
        go_ret
        exact ⟨rfl, HB4.out⟩
      · have HF : Hid (x = false) := by show _ = _; rw [HX.out]; exact right_err he
        obtain ⟨ee, hee⟩ : ∃ y, y = resE (prsOf L) := ⟨_, rfl⟩
        rw [← hee] at he ⊢
        clear hee hlb
        go_wp2_with fail
        go_ret
        exact ⟨retb HF.out.symm, HB3.out⟩
end Go.Proofs.Yteeeomcdknjolaa.Tre
