import Derived.Test.YteeeomcdknjolaaNA
namespace Go.Proofs.Yteeeomcdknjolaa.Nod
open Go.RowKit Crc Chk Frm Fra

theorem unwanted_undef {ops : Array Oper} {o : Oper} {a : Act} {j t : Nat} {b : Bool} (hg : o.guard = some (j, b)) (hj : ((ops[j]?).bind (·.dst)) = some t) (h : a.eval (.tmp t) = undef) : Region.wanted o (yielded ops a.tmps) = false := by
  unfold Region.wanted
  rw [hg]
  have hy : yielded ops a.tmps j = none := by
    cases ht : a.tmps[t]? with
    | none => simp [yielded, hj, ht]
    | some v =>
      have hv : v = undef := by
        unfold Act.eval at h
        simpa [ht] using h
      subst hv
      simp [yielded, hj, ht, undef]
  simp [hy]
def prAt (l : List (T × T)) (i : Nat) : Bool := keyB (l.getD i ([], [])).1 && (valB (l.getD i ([], [])).2 && (decide (i = 0) || ltB (l.getD (i - 1) ([], [])).1 (l.getD i ([], [])).1))
theorem may_pr {n : Nd} (hm : mayB n = true) (k : Nat) (hk : k < n.ps.length) : prAt n.ps k = true := by
  unfold mayB at hm
  by_cases h : n.cs.length = 0
  · rw [if_pos h] at hm
    obtain ⟨h1, h2, h3, h4⟩ := leaf_iff.1 hm
    have hk' : k < (n.ps.map (·.1)).length := by simpa using hk
    obtain ⟨r1, r2⟩ := rise_at h4 k hk'
    rw [List.getElem_map] at r1 r2
    unfold prAt
    rw [getD_at n.ps _ k hk, r1, h3 _ (List.getElem_mem hk)]
    rcases r2 with rfl | r2
    · simp
    · have : (n.ps.map (·.1)).getD (k - 1) [] = (n.ps.getD (k - 1) ([], [])).1 := by
        rw [getD_at _ _ (k - 1) (by omega), getD_at _ _ (k - 1) (by omega), List.getElem_map]
      rw [this] at r2
      rw [r2]; simp
  · rw [if_neg h] at hm
    have := (inner_iff.1 hm).1.1
    omega
theorem may_ks {n : Nd} (hm : mayB n = true) (k : Nat) (hk : k < n.ks.length) : riseAt n.ks k = true := by
  unfold mayB at hm
  by_cases h : n.cs.length = 0
  · rw [if_pos h] at hm
    have := (leaf_iff.1 hm).1
    omega
  · rw [if_neg h] at hm
    have h1 := (inner_iff.1 hm).2.2
    rw [rise_eq, List.all_eq_true] at h1
    exact h1 k (List.mem_range.2 hk)
theorem may_kd {n : Nd} (hm : mayB n = true) (k : Nat) (hk : k < n.cs.length) : kidAt n.cs k = true := by
  unfold mayB at hm
  rw [if_neg (by omega)] at hm
  have h1 := (inner_iff.1 hm).2.1
  rw [kids_eq, List.all_eq_true] at h1
  exact h1 k (List.mem_range.2 hk)
theorem may_of {n : Nd} (h1 : (List.range n.ps.length).all (prAt n.ps) = true) (h2 : (List.range n.ks.length).all (riseAt n.ks) = true) (h3 : (List.range n.cs.length).all (kidAt n.cs) = true) :
    mayB n = if n.cs.length = 0 then decide (n.ks.length = 0) && decide (n.ps.length ≤ 5) else (decide (n.ps.length = 0) && (decide (2 ≤ n.cs.length) && (decide (n.cs.length ≤ 8) && decide (n.ks.length + 1 = n.cs.length)))) := by
  unfold mayB
  by_cases h : n.cs.length = 0
  · rw [if_pos h, if_pos h]
    have ha : n.ps.all (fun p => valB p.2) = true := by
      rw [List.all_eq_true] at h1 ⊢
      intro p hp
      obtain ⟨i, hi, rfl⟩ := List.mem_iff_getElem.1 hp
      have := h1 i (List.mem_range.2 hi)
      unfold prAt at this
      rw [getD_at _ _ i hi] at this
      simp only [Bool.and_eq_true] at this
      exact this.2.1
    have hr : riseB (n.ps.map (·.1)) = true := by
      rw [rise_eq, List.all_eq_true]
      intro i hi
      have hi' : i < n.ps.length := by simpa using hi
      rw [List.all_eq_true] at h1
      have := h1 i (List.mem_range.2 hi')
      unfold prAt at this
      unfold riseAt
      have g : ∀ j, j < n.ps.length → (n.ps.map (·.1)).getD j [] = (n.ps.getD j ([], [])).1 := fun j hj => by
        rw [getD_at _ _ j (by simpa using hj), getD_at _ _ j hj, List.getElem_map]
      rw [g i hi', g (i - 1) (by omega)]
      simp only [Bool.and_eq_true] at this ⊢
      exact ⟨this.1, this.2.2⟩
    unfold leafB
    rw [ha, hr]
    simp
  · rw [if_neg h, if_neg h]
    unfold innerB
    rw [kids_eq, h3, rise_eq, h2]
    simp
set_option maxRecDepth 20000 in
set_option maxHeartbeats 6400000 in
theorem rmay_any (n : Nd) (A1 : Option Addr) (n1 c1 : Nat) (A2 : Option Addr) (n2 c2 : Nat) (A3 : Option Addr) (n3 c3 : Nat) (w : World) (h : IsN w w.heap.size n A1 n1 c1 A2 n2 c2 A3 n3 c3) :
    Calls Try.prog 43 #[nv A1 n1 c1 A2 n2 c2 A3 n3 c3] w fun e w' => e = .returned (.bool (mayB n)) ∧ Below w.heap.size w w' := by
  obtain ⟨W0, hW0⟩ : ∃ W0, W0 = w.alloc (.cells #[.slice A1 n1 c1, .slice A2 n2 c2, .slice A3 n3 c3] 55) := ⟨_, rfl⟩
  have HF : Hid (BoxN w.heap.size A1 n1 c1 A2 n2 c2 A3 n3 c3 W0) := by rw [hW0]; exact boxN_new w ..
  have HB0 : Hid (Below w.heap.size w W0) := by rw [hW0]; exact (Below.refl _ _).alloc (Nat.le_refl _) _
  have hz0 : w.heap.size < W0.heap.size := by rw [hW0, alloc_size]; omega
  have HN : Hid (IsN W0 W0.heap.size n A1 n1 c1 A2 n2 c2 A3 n3 c3) := (h.below HB0.out (Nat.le_refl _)).more (by omega)
  have m1 := h.m1
  have m2 := h.m2
  have m3 := h.m3
  obtain ⟨ps, hps⟩ : ∃ ps, ps = n.ps := ⟨_, rfl⟩
  obtain ⟨ks, hks⟩ : ∃ ks, ks = n.ks := ⟨_, rfl⟩
  obtain ⟨cs, hcs⟩ : ∃ cs, cs = n.cs := ⟨_, rfl⟩
  have HL1 : Hid (ps.length = n1) := by rw [hps]; exact h.l1
  have HL2 : Hid (ks.length = n2) := by rw [hks]; exact h.l2
  have HL3 : Hid (cs.length = n3) := by rw [hcs]; exact h.l3
  have HP : Hid (Prs W0 W0.heap.size A1 ps) := by rw [hps]; exact HN.out.ps
  have HK0 : Hid (Txs W0 W0.heap.size A2 ks) := by rw [hks]; exact HN.out.ks
  have HC0 : Hid (Kds W0 W0.heap.size A3 cs) := by rw [hcs]; exact HN.out.cs
  obtain ⟨mb, hmb⟩ : ∃ b, b = mayB n := ⟨_, rfl⟩
  have HNoP : Hid (∀ k, k < n1 → prAt ps k = false → mb = false) := fun k hk hp => by
    cases hm : mb with
    | false => rfl
    | true =>
      have := may_pr (n := n) (by rw [← hmb, hm]) k (by rw [h.l1]; exact hk)
      rw [← hps, hp] at this; cases this
  have HNoK : Hid (∀ k, k < n2 → riseAt ks k = false → mb = false) := fun k hk hp => by
    cases hm : mb with
    | false => rfl
    | true =>
      have := may_ks (n := n) (by rw [← hmb, hm]) k (by rw [h.l2]; exact hk)
      rw [← hks, hp] at this; cases this
  have HNoC : Hid (∀ k, k < n3 → kidAt cs k = false → mb = false) := fun k hk hp => by
    cases hm : mb with
    | false => rfl
    | true =>
      have := may_kd (n := n) (by rw [← hmb, hm]) k (by rw [h.l3]; exact hk)
      rw [← hcs, hp] at this; cases this
  have HOf : Hid ((List.range n1).all (prAt ps) = true → (List.range n2).all (riseAt ks) = true → (List.range n3).all (kidAt cs) = true → mb = if n3 = 0 then decide (n2 = 0) && decide (n1 ≤ 5) else (decide (n1 = 0) && (decide (2 ≤ n3) && (decide (n3 ≤ 8) && decide (n2 + 1 = n3))))) := fun h1 h2 h3 => by
    have := may_of (n := n) (by rw [h.l1, ← hps]; exact h1) (by rw [h.l2, ← hks]; exact h2) (by rw [h.l3, ← hcs]; exact h3)
    rw [h.l1, h.l2, h.l3] at this
    rw [hmb]; exact this
  rw [← hmb]
  have HW0 := Lib.hid hW0
  clear h hW0 hps hks hcs hmb HN
  go_enter Try.func43, Try.ntmps43
  go_upto_region 1 with fail
  rw [← HW0.out]
  go_wp2_with fail
  go_loopw [3] (fun i wr => ∃ k : Nat, k ≤ n1 ∧ i = .int .i64 k ∧ Hid ((List.range k).all (prAt ps) = true) ∧ Hid (Below W0.heap.size W0 wr)) (fun i _ => n1 - (intOf i).toNat)
  case atStart => exact ⟨0, Nat.zero_le _, rfl, rfl, Below.refl _ _⟩
  case round =>
    obtain ⟨k, hk, rfl, HR, HB⟩ := hrel
    obtain ⟨k0, k1, k2, -⟩ := (HF.out.below HB.out hz0).cells
    have hwr := HB.out.size
    have hzw : w.heap.size < wr.heap.size := by omega
    by_cases hlt : k < n1
    · have hlt' : k < ps.length := by rw [HL1.out]; exact hlt
      obtain ⟨b0, o0, rfl, hb1, hc0, hd0⟩ := HP.out k hlt'
      have hbw : b0 < wr.heap.size := by omega
      have hc := (HB.out.cell (p := ⟨b0, o0 + k * 2, none⟩) hb1).trans hc0
      have hd := (HB.out.cell (p := ⟨b0, o0 + k * 2 + 1, none⟩) hb1).trans hd0
      have HS : Hid (0 < k → wr.cell? ⟨b0, o0 + (k - 1) * 2, none⟩ = some (.string (text (ps.getD (k - 1) ([], [])).1))) := fun h0 => by
        have hl := HL1.out
        obtain ⟨b', o', e, hb', hc', -⟩ := HP.out (k - 1) (by omega)
        injection e with e
        injection e with e1 e2
        subst e1 e2
        rw [getD_at _ _ (k - 1) (by omega)]
        exact (HB.out.cell (p := ⟨b0, o0 + (k - 1) * 2, none⟩) hb').trans hc'
      have HE : Hid (prAt ps k = (keyB ps[k].1 && (valB ps[k].2 && (decide (k = 0) || Op.bytesLess (text (ps.getD (k - 1) ([], [])).1).toList (text ps[k].1).toList)))) := by
        show _ = _
        unfold prAt
        rw [getD_at ps _ k hlt', text_toList, text_toList]; rfl
      have HK := Lib.hid (rkey_any ps[k].1)
      have HV := Lib.hid (rval_any ps[k].2)
      obtain ⟨t, ht⟩ : ∃ t, t = text ps[k].1 := ⟨_, rfl⟩
      obtain ⟨u, hu⟩ : ∃ t, t = text ps[k].2 := ⟨_, rfl⟩
      obtain ⟨s, hs⟩ : ∃ t, t = text (ps.getD (k - 1) ([], [])).1 := ⟨_, rfl⟩
      obtain ⟨x, hx⟩ : ∃ x, x = keyB ps[k].1 := ⟨_, rfl⟩
      obtain ⟨y, hy⟩ : ∃ x, x = valB ps[k].2 := ⟨_, rfl⟩
      rw [← ht] at hc
      rw [← hu] at hd
      rw [← hs] at HS
      rw [← ht, ← hx] at HK
      rw [← hu, ← hy] at HV
      rw [← ht, ← hs, ← hx, ← hy] at HE
      obtain ⟨bd, hbd⟩ : ∃ b, b = !prAt ps k := ⟨_, rfl⟩
      have HBd : Hid (bd = !(x && (y && (decide (k = 0) || Op.bytesLess s.toList t.toList)))) := by show _ = _; rw [hbd, HE.out]
      have HNx : Hid (bd = true → mb = false) := fun hb => HNoP.out k hlt (by rw [hbd] at hb; simpa using hb)
      have HYx : Hid (bd = false → (List.range (k + 1)).all (prAt ps) = true) := fun hb => by rw [all_range_succ, HR.out]; rw [hbd] at hb; simpa using hb
      have hki : (k : Int) < n1 := by omega
      clear ht hu hs hx hy hbd HE hc0 hd0 hlt'
      go_upto_region 4 with fail
      go_cut [51] from 14 to 51 (fun s51 wx => s51 = .bool bd ∧ Below wr.heap.size wr wx)
      case first =>
        cases x with
        | false =>
          obtain rfl : bd = true := by rw [HBd.out]; rfl
          refine wp_region_by (by kernel_rfl) (Phi [.val (.pointer (some ⟨w.heap.size, 0, none⟩)), .val (.slice (some ⟨b0, o0, none⟩) n1 c1), .val (.int .i64 k), .val (.pointer (some ⟨b0, o0 + k * 2, none⟩)), .val (.pointer (some ⟨b0, o0 + k * 2, none⟩)), .val (.string t), .val (.bool false), .val (.bool true), .val (.bool true), .val (undef), .val (undef), .val (undef), .val (undef), .val (undef), .val (undef), .val (undef), .val (undef), .val (.bool true), .val (.bool true), .val (undef), .val (undef), .val (undef), .val (undef), .val (undef), .val (undef), .val (undef), .val (undef), .val (undef), .val (undef), .val (undef), .val (undef), .val (undef), .val (undef), .val (undef), .val (undef), .val (undef), .val (undef), .val (.bool true)]) (phi_stab _) (by kernel_rfl) ?step4a ?fin4a
          case step4a =>
            intro i o listed a1 w2 ho hk hdep
            have hi : i < 38 := (Array.getElem?_eq_some_iff.1 ho).1
            have e1 := ev (show a1.eval (.tmp 1) = .pointer (some ⟨w.heap.size, 0, none⟩) from hk.frame 1 (frame_of (by kernel_rfl)))
            have e3 := ev (show a1.eval (.tmp 3) = .int .i64 k from hk.frame 3 (frame_of (by kernel_rfl)))
            have q0 := (hk.below.cell (p := ⟨w.heap.size, 0, none⟩) hzw).trans k0
            have qt := (hk.below.cell (p := ⟨b0, o0 + k * 2, none⟩) hbw).trans hc
            have qu := (hk.below.cell (p := ⟨b0, o0 + k * 2 + 1, none⟩) hbw).trans hd
            have hii : i = 0 ∨ i = 1 ∨ i = 2 ∨ i = 3 ∨ i = 4 ∨ i = 5 ∨ i = 6 ∨ i = 7 ∨ i = 8 ∨ i = 9 ∨ i = 10 ∨ i = 11 ∨ i = 12 ∨ i = 13 ∨ i = 14 ∨ i = 15 ∨ i = 16 ∨ i = 17 ∨ i = 18 ∨ i = 19 ∨ i = 20 ∨ i = 21 ∨ i = 22 ∨ i = 23 ∨ i = 24 ∨ i = 25 ∨ i = 26 ∨ i = 27 ∨ i = 28 ∨ i = 29 ∨ i = 30 ∨ i = 31 ∨ i = 32 ∨ i = 33 ∨ i = 34 ∨ i = 35 ∨ i = 36 ∨ i = 37 := by omega
            rcases hii with rfl | rfl | rfl | rfl | rfl | rfl | rfl | rfl | rfl | rfl | rfl | rfl | rfl | rfl | rfl | rfl | rfl | rfl | rfl | rfl | rfl | rfl | rfl | rfl | rfl | rfl | rfl | rfl | rfl | rfl | rfl | rfl | rfl | rfl | rfl | rfl | rfl | rfl
            · cases ho
              refine wpOp_of rfl rfl (wp_value (v := .pointer (some ⟨w.heap.size, 0, none⟩)) ?_ rfl)
              go_simp
            · cases ho
              have d0 := ev (show a1.eval (.tmp 14) = .pointer (some ⟨w.heap.size, 0, none⟩) from hk.done 0 _ 14 rfl rfl (hdep ⟨0, .data⟩ (by simp) rfl))
              refine wpOp_of rfl rfl (wp_value (v := .slice (some ⟨b0, o0, none⟩) n1 c1) ?_ rfl)
              go_simp
            · cases ho
              refine wpOp_of rfl rfl (wp_value (v := .int .i64 k) ?_ rfl)
              simp [execOp, e3, Act.eval]
            · cases ho
              have d1 := ev (show a1.eval (.tmp 15) = .slice (some ⟨b0, o0, none⟩) n1 c1 from hk.done 1 _ 15 rfl rfl (hdep ⟨1, .data⟩ (by simp) rfl))
              have d2 := ev (show a1.eval (.tmp 16) = .int .i64 k from hk.done 2 _ 16 rfl rfl (hdep ⟨2, .data⟩ (by simp) rfl))
              refine wpOp_of rfl rfl (wp_value (v := .pointer (some ⟨b0, o0 + k * 2, none⟩)) ?_ rfl)
              go_simp
            · cases ho
              have d3 := ev (show a1.eval (.tmp 17) = .pointer (some ⟨b0, o0 + k * 2, none⟩) from hk.done 3 _ 17 rfl rfl (hdep ⟨3, .data⟩ (by simp) rfl))
              refine wpOp_of rfl rfl (wp_value (v := .pointer (some ⟨b0, o0 + k * 2, none⟩)) ?_ rfl)
              go_simp
            · cases ho
              have d4 := ev (show a1.eval (.tmp 18) = .pointer (some ⟨b0, o0 + k * 2, none⟩) from hk.done 4 _ 18 rfl rfl (hdep ⟨4, .data⟩ (by simp) rfl))
              refine wpOp_of rfl rfl (wp_value (v := .string t) ?_ rfl)
              go_simp
            · cases ho
              have d5 := ev (show a1.eval (.tmp 19) = .string t from hk.done 5 _ 19 rfl rfl (hdep ⟨5, .data⟩ (by simp) rfl))
              refine wpOp_of rfl rfl ?_
              go_simp
              refine (HK.out w2).mono ?_
              rintro e w3 ⟨rfl, rfl⟩
              exact ⟨_, rfl, rfl, Below.refl _ _⟩
            · cases ho
              have d6 := ev (show a1.eval (.tmp 20) = .bool false from hk.done 6 _ 20 rfl rfl (hdep ⟨6, .data⟩ (by simp) rfl))
              refine wpOp_of rfl rfl (wp_value (v := .bool true) ?_ rfl)
              go_simp
            · cases ho
              have d7 := ev (show a1.eval (.tmp 21) = .bool true from hk.done 7 _ 21 rfl rfl (hdep ⟨7, .data⟩ (by simp) rfl))
              refine wpOp_of rfl rfl (wp_value (v := .bool true) ?_ rfl)
              simp [execOp, d7, Act.eval]
            · cases ho
              exact wpOp_skip rfl (unwanted_of (t := 22) rfl rfl (hk.done 8 _ 22 rfl rfl (hdep ⟨8, .guard⟩ (by simp) rfl)) (by decide)) ⟨undef, rfl, rfl, Below.refl _ _⟩
            · cases ho
              exact wpOp_skip rfl (unwanted_of (t := 22) rfl rfl (hk.done 8 _ 22 rfl rfl (hdep ⟨8, .guard⟩ (by simp) rfl)) (by decide)) ⟨undef, rfl, rfl, Below.refl _ _⟩
            · cases ho
              exact wpOp_skip rfl (unwanted_of (t := 22) rfl rfl (hk.done 8 _ 22 rfl rfl (hdep ⟨8, .guard⟩ (by simp) rfl)) (by decide)) ⟨undef, rfl, rfl, Below.refl _ _⟩
            · cases ho
              exact wpOp_skip rfl (unwanted_of (t := 22) rfl rfl (hk.done 8 _ 22 rfl rfl (hdep ⟨8, .guard⟩ (by simp) rfl)) (by decide)) ⟨undef, rfl, rfl, Below.refl _ _⟩
            · cases ho
              exact wpOp_skip rfl (unwanted_of (t := 22) rfl rfl (hk.done 8 _ 22 rfl rfl (hdep ⟨8, .guard⟩ (by simp) rfl)) (by decide)) ⟨undef, rfl, rfl, Below.refl _ _⟩
            · cases ho
              exact wpOp_skip rfl (unwanted_of (t := 22) rfl rfl (hk.done 8 _ 22 rfl rfl (hdep ⟨8, .guard⟩ (by simp) rfl)) (by decide)) ⟨undef, rfl, rfl, Below.refl _ _⟩
            · cases ho
              exact wpOp_skip rfl (unwanted_of (t := 22) rfl rfl (hk.done 8 _ 22 rfl rfl (hdep ⟨8, .guard⟩ (by simp) rfl)) (by decide)) ⟨undef, rfl, rfl, Below.refl _ _⟩
            · cases ho
              exact wpOp_skip rfl (unwanted_of (t := 22) rfl rfl (hk.done 8 _ 22 rfl rfl (hdep ⟨8, .guard⟩ (by simp) rfl)) (by decide)) ⟨undef, rfl, rfl, Below.refl _ _⟩
            · cases ho
              have d8 := ev (show a1.eval (.tmp 22) = .bool true from hk.done 8 _ 22 rfl rfl (hdep ⟨8, .data⟩ (by simp) rfl))
              have d16 := ev (show a1.eval (.tmp 30) = undef from hk.done 16 _ 30 rfl rfl (hdep ⟨16, .data⟩ (by simp) rfl))
              refine wpOp_of rfl rfl (wp_value (v := .bool true) ?_ rfl)
              go_simp
            · cases ho
              have d17 := ev (show a1.eval (.tmp 31) = .bool true from hk.done 17 _ 31 rfl rfl (hdep ⟨17, .data⟩ (by simp) rfl))
              refine wpOp_of rfl rfl (wp_value (v := .bool true) ?_ rfl)
              simp [execOp, d17, Act.eval]
            · cases ho
              exact wpOp_skip rfl (unwanted_of (t := 32) rfl rfl (hk.done 18 _ 32 rfl rfl (hdep ⟨18, .guard⟩ (by simp) rfl)) (by decide)) ⟨undef, rfl, rfl, Below.refl _ _⟩
            · cases ho
              exact wpOp_skip rfl (unwanted_of (t := 32) rfl rfl (hk.done 18 _ 32 rfl rfl (hdep ⟨18, .guard⟩ (by simp) rfl)) (by decide)) ⟨undef, rfl, rfl, Below.refl _ _⟩
            · cases ho
              exact wpOp_skip rfl (unwanted_of (t := 32) rfl rfl (hk.done 18 _ 32 rfl rfl (hdep ⟨18, .guard⟩ (by simp) rfl)) (by decide)) ⟨undef, rfl, rfl, Below.refl _ _⟩
            · cases ho
              exact wpOp_skip rfl (unwanted_undef (t := 35) rfl rfl (hk.done 21 _ 35 rfl rfl (hdep ⟨21, .guard⟩ (by simp) rfl))) ⟨undef, rfl, rfl, Below.refl _ _⟩
            · cases ho
              exact wpOp_skip rfl (unwanted_undef (t := 35) rfl rfl (hk.done 21 _ 35 rfl rfl (hdep ⟨21, .guard⟩ (by simp) rfl))) ⟨undef, rfl, rfl, Below.refl _ _⟩
            · cases ho
              exact wpOp_skip rfl (unwanted_undef (t := 35) rfl rfl (hk.done 21 _ 35 rfl rfl (hdep ⟨21, .guard⟩ (by simp) rfl))) ⟨undef, rfl, rfl, Below.refl _ _⟩
            · cases ho
              exact wpOp_skip rfl (unwanted_undef (t := 35) rfl rfl (hk.done 21 _ 35 rfl rfl (hdep ⟨21, .guard⟩ (by simp) rfl))) ⟨undef, rfl, rfl, Below.refl _ _⟩
            · cases ho
              exact wpOp_skip rfl (unwanted_undef (t := 35) rfl rfl (hk.done 21 _ 35 rfl rfl (hdep ⟨21, .guard⟩ (by simp) rfl))) ⟨undef, rfl, rfl, Below.refl _ _⟩
            · cases ho
              exact wpOp_skip rfl (unwanted_undef (t := 35) rfl rfl (hk.done 21 _ 35 rfl rfl (hdep ⟨21, .guard⟩ (by simp) rfl))) ⟨undef, rfl, rfl, Below.refl _ _⟩
            · cases ho
              exact wpOp_skip rfl (unwanted_undef (t := 35) rfl rfl (hk.done 21 _ 35 rfl rfl (hdep ⟨21, .guard⟩ (by simp) rfl))) ⟨undef, rfl, rfl, Below.refl _ _⟩
            · cases ho
              exact wpOp_skip rfl (unwanted_undef (t := 35) rfl rfl (hk.done 21 _ 35 rfl rfl (hdep ⟨21, .guard⟩ (by simp) rfl))) ⟨undef, rfl, rfl, Below.refl _ _⟩
            · cases ho
              exact wpOp_skip rfl (unwanted_undef (t := 35) rfl rfl (hk.done 21 _ 35 rfl rfl (hdep ⟨21, .guard⟩ (by simp) rfl))) ⟨undef, rfl, rfl, Below.refl _ _⟩
            · cases ho
              exact wpOp_skip rfl (unwanted_undef (t := 35) rfl rfl (hk.done 21 _ 35 rfl rfl (hdep ⟨21, .guard⟩ (by simp) rfl))) ⟨undef, rfl, rfl, Below.refl _ _⟩
            · cases ho
              exact wpOp_skip rfl (unwanted_undef (t := 35) rfl rfl (hk.done 21 _ 35 rfl rfl (hdep ⟨21, .guard⟩ (by simp) rfl))) ⟨undef, rfl, rfl, Below.refl _ _⟩
            · cases ho
              exact wpOp_skip rfl (unwanted_undef (t := 35) rfl rfl (hk.done 21 _ 35 rfl rfl (hdep ⟨21, .guard⟩ (by simp) rfl))) ⟨undef, rfl, rfl, Below.refl _ _⟩
            · cases ho
              exact wpOp_skip rfl (unwanted_undef (t := 35) rfl rfl (hk.done 21 _ 35 rfl rfl (hdep ⟨21, .guard⟩ (by simp) rfl))) ⟨undef, rfl, rfl, Below.refl _ _⟩
            · cases ho
              exact wpOp_skip rfl (unwanted_undef (t := 35) rfl rfl (hk.done 21 _ 35 rfl rfl (hdep ⟨21, .guard⟩ (by simp) rfl))) ⟨undef, rfl, rfl, Below.refl _ _⟩
            · cases ho
              exact wpOp_skip rfl (unwanted_of (t := 32) rfl rfl (hk.done 18 _ 32 rfl rfl (hdep ⟨18, .guard⟩ (by simp) rfl)) (by decide)) ⟨undef, rfl, rfl, Below.refl _ _⟩
            · cases ho
              have d18 := ev (show a1.eval (.tmp 32) = .bool true from hk.done 18 _ 32 rfl rfl (hdep ⟨18, .data⟩ (by simp) rfl))
              have d36 := ev (show a1.eval (.tmp 50) = undef from hk.done 36 _ 50 rfl rfl (hdep ⟨36, .data⟩ (by simp) rfl))
              refine wpOp_of rfl rfl (wp_value (v := .bool true) ?_ rfl)
              go_simp
          case fin4a =>
            intro listed a2 w2 hk hall
            have h51 : a2.eval (.tmp 51) = .bool true := hk.done 37 _ 51 rfl rfl (hall 37 (by decide))
            have hact := kept_all [14, 15, 16, 17, 18, 19, 20, 21, 22, 23, 24, 25, 26, 27, 28, 29, 30, 31, 32, 33, 34, 35, 36, 37, 38, 39, 40, 41, 42, 43, 44, 45, 46, 47, 48, 49, 50, 51] hk (by kernel_rfl)
            have HB := Lib.hid hk.below
            simp only [List.foldl_cons, List.foldl_nil, List.setIfInBounds_toArray, List.set_cons_succ, List.set_cons_zero] at hact
            generalize a2.eval (.tmp 14) = u14 at hact
            generalize a2.eval (.tmp 15) = u15 at hact
            generalize a2.eval (.tmp 16) = u16 at hact
            generalize a2.eval (.tmp 17) = u17 at hact
            generalize a2.eval (.tmp 18) = u18 at hact
            generalize a2.eval (.tmp 19) = u19 at hact
            generalize a2.eval (.tmp 20) = u20 at hact
            generalize a2.eval (.tmp 21) = u21 at hact
            generalize a2.eval (.tmp 22) = u22 at hact
            generalize a2.eval (.tmp 23) = u23 at hact
            generalize a2.eval (.tmp 24) = u24 at hact
            generalize a2.eval (.tmp 25) = u25 at hact
            generalize a2.eval (.tmp 26) = u26 at hact
            generalize a2.eval (.tmp 27) = u27 at hact
            generalize a2.eval (.tmp 28) = u28 at hact
            generalize a2.eval (.tmp 29) = u29 at hact
            generalize a2.eval (.tmp 30) = u30 at hact
            generalize a2.eval (.tmp 31) = u31 at hact
            generalize a2.eval (.tmp 32) = u32 at hact
            generalize a2.eval (.tmp 33) = u33 at hact
            generalize a2.eval (.tmp 34) = u34 at hact
            generalize a2.eval (.tmp 35) = u35 at hact
            generalize a2.eval (.tmp 36) = u36 at hact
            generalize a2.eval (.tmp 37) = u37 at hact
            generalize a2.eval (.tmp 38) = u38 at hact
            generalize a2.eval (.tmp 39) = u39 at hact
            generalize a2.eval (.tmp 40) = u40 at hact
            generalize a2.eval (.tmp 41) = u41 at hact
            generalize a2.eval (.tmp 42) = u42 at hact
            generalize a2.eval (.tmp 43) = u43 at hact
            generalize a2.eval (.tmp 44) = u44 at hact
            generalize a2.eval (.tmp 45) = u45 at hact
            generalize a2.eval (.tmp 46) = u46 at hact
            generalize a2.eval (.tmp 47) = u47 at hact
            generalize a2.eval (.tmp 48) = u48 at hact
            generalize a2.eval (.tmp 49) = u49 at hact
            generalize a2.eval (.tmp 50) = u50 at hact
            generalize a2.eval (.tmp 51) = u51 at hact h51
            rw [hact]
            clear hact
            go_wp2
            go_meet
            first | exact ⟨h51, HB.out⟩ | exact ⟨rfl, HB.out⟩
        | true =>
          cases y with
          | false =>
            obtain rfl : bd = true := by rw [HBd.out]; rfl
            refine wp_region_by (by kernel_rfl) (Phi [.val (.pointer (some ⟨w.heap.size, 0, none⟩)), .val (.slice (some ⟨b0, o0, none⟩) n1 c1), .val (.int .i64 k), .val (.pointer (some ⟨b0, o0 + k * 2, none⟩)), .val (.pointer (some ⟨b0, o0 + k * 2, none⟩)), .val (.string t), .val (.bool true), .val (.bool false), .val (.bool false), .val (.pointer (some ⟨w.heap.size, 0, none⟩)), .val (.slice (some ⟨b0, o0, none⟩) n1 c1), .val (.int .i64 k), .val (.pointer (some ⟨b0, o0 + k * 2, none⟩)), .val (.pointer (some ⟨b0, o0 + k * 2 + 1, none⟩)), .val (.string u), .val (.bool false), .val (.bool true), .val (.bool true), .val (.bool true), .val (undef), .val (undef), .val (undef), .val (undef), .val (undef), .val (undef), .val (undef), .val (undef), .val (undef), .val (undef), .val (undef), .val (undef), .val (undef), .val (undef), .val (undef), .val (undef), .val (undef), .val (undef), .val (.bool true)]) (phi_stab _) (by kernel_rfl) ?step4b ?fin4b
            case step4b =>
              intro i o listed a1 w2 ho hk hdep
              have hi : i < 38 := (Array.getElem?_eq_some_iff.1 ho).1
              have e1 := ev (show a1.eval (.tmp 1) = .pointer (some ⟨w.heap.size, 0, none⟩) from hk.frame 1 (frame_of (by kernel_rfl)))
              have e3 := ev (show a1.eval (.tmp 3) = .int .i64 k from hk.frame 3 (frame_of (by kernel_rfl)))
              have q0 := (hk.below.cell (p := ⟨w.heap.size, 0, none⟩) hzw).trans k0
              have qt := (hk.below.cell (p := ⟨b0, o0 + k * 2, none⟩) hbw).trans hc
              have qu := (hk.below.cell (p := ⟨b0, o0 + k * 2 + 1, none⟩) hbw).trans hd
              have hii : i = 0 ∨ i = 1 ∨ i = 2 ∨ i = 3 ∨ i = 4 ∨ i = 5 ∨ i = 6 ∨ i = 7 ∨ i = 8 ∨ i = 9 ∨ i = 10 ∨ i = 11 ∨ i = 12 ∨ i = 13 ∨ i = 14 ∨ i = 15 ∨ i = 16 ∨ i = 17 ∨ i = 18 ∨ i = 19 ∨ i = 20 ∨ i = 21 ∨ i = 22 ∨ i = 23 ∨ i = 24 ∨ i = 25 ∨ i = 26 ∨ i = 27 ∨ i = 28 ∨ i = 29 ∨ i = 30 ∨ i = 31 ∨ i = 32 ∨ i = 33 ∨ i = 34 ∨ i = 35 ∨ i = 36 ∨ i = 37 := by omega
              rcases hii with rfl | rfl | rfl | rfl | rfl | rfl | rfl | rfl | rfl | rfl | rfl | rfl | rfl | rfl | rfl | rfl | rfl | rfl | rfl | rfl | rfl | rfl | rfl | rfl | rfl | rfl | rfl | rfl | rfl | rfl | rfl | rfl | rfl | rfl | rfl | rfl | rfl | rfl
              · cases ho
                refine wpOp_of rfl rfl (wp_value (v := .pointer (some ⟨w.heap.size, 0, none⟩)) ?_ rfl)
                go_simp
              · cases ho
                have d0 := ev (show a1.eval (.tmp 14) = .pointer (some ⟨w.heap.size, 0, none⟩) from hk.done 0 _ 14 rfl rfl (hdep ⟨0, .data⟩ (by simp) rfl))
                refine wpOp_of rfl rfl (wp_value (v := .slice (some ⟨b0, o0, none⟩) n1 c1) ?_ rfl)
                go_simp
              · cases ho
                refine wpOp_of rfl rfl (wp_value (v := .int .i64 k) ?_ rfl)
                simp [execOp, e3, Act.eval]
              · cases ho
                have d1 := ev (show a1.eval (.tmp 15) = .slice (some ⟨b0, o0, none⟩) n1 c1 from hk.done 1 _ 15 rfl rfl (hdep ⟨1, .data⟩ (by simp) rfl))
                have d2 := ev (show a1.eval (.tmp 16) = .int .i64 k from hk.done 2 _ 16 rfl rfl (hdep ⟨2, .data⟩ (by simp) rfl))
                refine wpOp_of rfl rfl (wp_value (v := .pointer (some ⟨b0, o0 + k * 2, none⟩)) ?_ rfl)
                go_simp
              · cases ho
                have d3 := ev (show a1.eval (.tmp 17) = .pointer (some ⟨b0, o0 + k * 2, none⟩) from hk.done 3 _ 17 rfl rfl (hdep ⟨3, .data⟩ (by simp) rfl))
                refine wpOp_of rfl rfl (wp_value (v := .pointer (some ⟨b0, o0 + k * 2, none⟩)) ?_ rfl)
                go_simp
              · cases ho
                have d4 := ev (show a1.eval (.tmp 18) = .pointer (some ⟨b0, o0 + k * 2, none⟩) from hk.done 4 _ 18 rfl rfl (hdep ⟨4, .data⟩ (by simp) rfl))
                refine wpOp_of rfl rfl (wp_value (v := .string t) ?_ rfl)
                go_simp
              · cases ho
                have d5 := ev (show a1.eval (.tmp 19) = .string t from hk.done 5 _ 19 rfl rfl (hdep ⟨5, .data⟩ (by simp) rfl))
                refine wpOp_of rfl rfl ?_
                go_simp
                refine (HK.out w2).mono ?_
                rintro e w3 ⟨rfl, rfl⟩
                exact ⟨_, rfl, rfl, Below.refl _ _⟩
              · cases ho
                have d6 := ev (show a1.eval (.tmp 20) = .bool true from hk.done 6 _ 20 rfl rfl (hdep ⟨6, .data⟩ (by simp) rfl))
                refine wpOp_of rfl rfl (wp_value (v := .bool false) ?_ rfl)
                go_simp
              · cases ho
                have d7 := ev (show a1.eval (.tmp 21) = .bool false from hk.done 7 _ 21 rfl rfl (hdep ⟨7, .data⟩ (by simp) rfl))
                refine wpOp_of rfl rfl (wp_value (v := .bool false) ?_ rfl)
                simp [execOp, d7, Act.eval]
              · cases ho
                refine wpOp_of rfl (wanted_of (t := 22) rfl rfl (hk.done 8 _ 22 rfl rfl (hdep ⟨8, .guard⟩ (by simp) rfl))) (wp_value (v := .pointer (some ⟨w.heap.size, 0, none⟩)) ?_ rfl)
                go_simp
              · cases ho
                have d9 := ev (show a1.eval (.tmp 23) = .pointer (some ⟨w.heap.size, 0, none⟩) from hk.done 9 _ 23 rfl rfl (hdep ⟨9, .data⟩ (by simp) rfl))
                refine wpOp_of rfl (wanted_of (t := 22) rfl rfl (hk.done 8 _ 22 rfl rfl (hdep ⟨8, .guard⟩ (by simp) rfl))) (wp_value (v := .slice (some ⟨b0, o0, none⟩) n1 c1) ?_ rfl)
                go_simp
              · cases ho
                refine wpOp_of rfl (wanted_of (t := 22) rfl rfl (hk.done 8 _ 22 rfl rfl (hdep ⟨8, .guard⟩ (by simp) rfl))) (wp_value (v := .int .i64 k) ?_ rfl)
                simp [execOp, e3, Act.eval]
              · cases ho
                have d10 := ev (show a1.eval (.tmp 24) = .slice (some ⟨b0, o0, none⟩) n1 c1 from hk.done 10 _ 24 rfl rfl (hdep ⟨10, .data⟩ (by simp) rfl))
                have d11 := ev (show a1.eval (.tmp 25) = .int .i64 k from hk.done 11 _ 25 rfl rfl (hdep ⟨11, .data⟩ (by simp) rfl))
                refine wpOp_of rfl (wanted_of (t := 22) rfl rfl (hk.done 8 _ 22 rfl rfl (hdep ⟨8, .guard⟩ (by simp) rfl))) (wp_value (v := .pointer (some ⟨b0, o0 + k * 2, none⟩)) ?_ rfl)
                go_simp
              · cases ho
                have d12 := ev (show a1.eval (.tmp 26) = .pointer (some ⟨b0, o0 + k * 2, none⟩) from hk.done 12 _ 26 rfl rfl (hdep ⟨12, .data⟩ (by simp) rfl))
                refine wpOp_of rfl (wanted_of (t := 22) rfl rfl (hk.done 8 _ 22 rfl rfl (hdep ⟨8, .guard⟩ (by simp) rfl))) (wp_value (v := .pointer (some ⟨b0, o0 + k * 2 + 1, none⟩)) ?_ rfl)
                go_simp
              · cases ho
                have d13 := ev (show a1.eval (.tmp 27) = .pointer (some ⟨b0, o0 + k * 2 + 1, none⟩) from hk.done 13 _ 27 rfl rfl (hdep ⟨13, .data⟩ (by simp) rfl))
                refine wpOp_of rfl (wanted_of (t := 22) rfl rfl (hk.done 8 _ 22 rfl rfl (hdep ⟨8, .guard⟩ (by simp) rfl))) (wp_value (v := .string u) ?_ rfl)
                go_simp
              · cases ho
                have d14 := ev (show a1.eval (.tmp 28) = .string u from hk.done 14 _ 28 rfl rfl (hdep ⟨14, .data⟩ (by simp) rfl))
                refine wpOp_of rfl (wanted_of (t := 22) rfl rfl (hk.done 8 _ 22 rfl rfl (hdep ⟨8, .guard⟩ (by simp) rfl))) ?_
                go_simp
                refine (HV.out w2).mono ?_
                rintro e w3 ⟨rfl, rfl⟩
                exact ⟨_, rfl, rfl, Below.refl _ _⟩
              · cases ho
                have d15 := ev (show a1.eval (.tmp 29) = .bool false from hk.done 15 _ 29 rfl rfl (hdep ⟨15, .data⟩ (by simp) rfl))
                refine wpOp_of rfl (wanted_of (t := 22) rfl rfl (hk.done 8 _ 22 rfl rfl (hdep ⟨8, .guard⟩ (by simp) rfl))) (wp_value (v := .bool true) ?_ rfl)
                go_simp
              · cases ho
                have d8 := ev (show a1.eval (.tmp 22) = .bool false from hk.done 8 _ 22 rfl rfl (hdep ⟨8, .data⟩ (by simp) rfl))
                have d16 := ev (show a1.eval (.tmp 30) = .bool true from hk.done 16 _ 30 rfl rfl (hdep ⟨16, .data⟩ (by simp) rfl))
                refine wpOp_of rfl rfl (wp_value (v := .bool true) ?_ rfl)
                go_simp
              · cases ho
                have d17 := ev (show a1.eval (.tmp 31) = .bool true from hk.done 17 _ 31 rfl rfl (hdep ⟨17, .data⟩ (by simp) rfl))
                refine wpOp_of rfl rfl (wp_value (v := .bool true) ?_ rfl)
                simp [execOp, d17, Act.eval]
              · cases ho
                exact wpOp_skip rfl (unwanted_of (t := 32) rfl rfl (hk.done 18 _ 32 rfl rfl (hdep ⟨18, .guard⟩ (by simp) rfl)) (by decide)) ⟨undef, rfl, rfl, Below.refl _ _⟩
              · cases ho
                exact wpOp_skip rfl (unwanted_of (t := 32) rfl rfl (hk.done 18 _ 32 rfl rfl (hdep ⟨18, .guard⟩ (by simp) rfl)) (by decide)) ⟨undef, rfl, rfl, Below.refl _ _⟩
              · cases ho
                exact wpOp_skip rfl (unwanted_of (t := 32) rfl rfl (hk.done 18 _ 32 rfl rfl (hdep ⟨18, .guard⟩ (by simp) rfl)) (by decide)) ⟨undef, rfl, rfl, Below.refl _ _⟩
              · cases ho
                exact wpOp_skip rfl (unwanted_undef (t := 35) rfl rfl (hk.done 21 _ 35 rfl rfl (hdep ⟨21, .guard⟩ (by simp) rfl))) ⟨undef, rfl, rfl, Below.refl _ _⟩
              · cases ho
                exact wpOp_skip rfl (unwanted_undef (t := 35) rfl rfl (hk.done 21 _ 35 rfl rfl (hdep ⟨21, .guard⟩ (by simp) rfl))) ⟨undef, rfl, rfl, Below.refl _ _⟩
              · cases ho
                exact wpOp_skip rfl (unwanted_undef (t := 35) rfl rfl (hk.done 21 _ 35 rfl rfl (hdep ⟨21, .guard⟩ (by simp) rfl))) ⟨undef, rfl, rfl, Below.refl _ _⟩
              · cases ho
                exact wpOp_skip rfl (unwanted_undef (t := 35) rfl rfl (hk.done 21 _ 35 rfl rfl (hdep ⟨21, .guard⟩ (by simp) rfl))) ⟨undef, rfl, rfl, Below.refl _ _⟩
              · cases ho
                exact wpOp_skip rfl (unwanted_undef (t := 35) rfl rfl (hk.done 21 _ 35 rfl rfl (hdep ⟨21, .guard⟩ (by simp) rfl))) ⟨undef, rfl, rfl, Below.refl _ _⟩
              · cases ho
                exact wpOp_skip rfl (unwanted_undef (t := 35) rfl rfl (hk.done 21 _ 35 rfl rfl (hdep ⟨21, .guard⟩ (by simp) rfl))) ⟨undef, rfl, rfl, Below.refl _ _⟩
              · cases ho
                exact wpOp_skip rfl (unwanted_undef (t := 35) rfl rfl (hk.done 21 _ 35 rfl rfl (hdep ⟨21, .guard⟩ (by simp) rfl))) ⟨undef, rfl, rfl, Below.refl _ _⟩
              · cases ho
                exact wpOp_skip rfl (unwanted_undef (t := 35) rfl rfl (hk.done 21 _ 35 rfl rfl (hdep ⟨21, .guard⟩ (by simp) rfl))) ⟨undef, rfl, rfl, Below.refl _ _⟩
              · cases ho
                exact wpOp_skip rfl (unwanted_undef (t := 35) rfl rfl (hk.done 21 _ 35 rfl rfl (hdep ⟨21, .guard⟩ (by simp) rfl))) ⟨undef, rfl, rfl, Below.refl _ _⟩
              · cases ho
                exact wpOp_skip rfl (unwanted_undef (t := 35) rfl rfl (hk.done 21 _ 35 rfl rfl (hdep ⟨21, .guard⟩ (by simp) rfl))) ⟨undef, rfl, rfl, Below.refl _ _⟩
              · cases ho
                exact wpOp_skip rfl (unwanted_undef (t := 35) rfl rfl (hk.done 21 _ 35 rfl rfl (hdep ⟨21, .guard⟩ (by simp) rfl))) ⟨undef, rfl, rfl, Below.refl _ _⟩
              · cases ho
                exact wpOp_skip rfl (unwanted_undef (t := 35) rfl rfl (hk.done 21 _ 35 rfl rfl (hdep ⟨21, .guard⟩ (by simp) rfl))) ⟨undef, rfl, rfl, Below.refl _ _⟩
              · cases ho
                exact wpOp_skip rfl (unwanted_undef (t := 35) rfl rfl (hk.done 21 _ 35 rfl rfl (hdep ⟨21, .guard⟩ (by simp) rfl))) ⟨undef, rfl, rfl, Below.refl _ _⟩
              · cases ho
                exact wpOp_skip rfl (unwanted_undef (t := 35) rfl rfl (hk.done 21 _ 35 rfl rfl (hdep ⟨21, .guard⟩ (by simp) rfl))) ⟨undef, rfl, rfl, Below.refl _ _⟩
              · cases ho
                exact wpOp_skip rfl (unwanted_of (t := 32) rfl rfl (hk.done 18 _ 32 rfl rfl (hdep ⟨18, .guard⟩ (by simp) rfl)) (by decide)) ⟨undef, rfl, rfl, Below.refl _ _⟩
              · cases ho
                have d18 := ev (show a1.eval (.tmp 32) = .bool true from hk.done 18 _ 32 rfl rfl (hdep ⟨18, .data⟩ (by simp) rfl))
                have d36 := ev (show a1.eval (.tmp 50) = undef from hk.done 36 _ 50 rfl rfl (hdep ⟨36, .data⟩ (by simp) rfl))
                refine wpOp_of rfl rfl (wp_value (v := .bool true) ?_ rfl)
                go_simp
            case fin4b =>
              intro listed a2 w2 hk hall
              have h51 : a2.eval (.tmp 51) = .bool true := hk.done 37 _ 51 rfl rfl (hall 37 (by decide))
              have hact := kept_all [14, 15, 16, 17, 18, 19, 20, 21, 22, 23, 24, 25, 26, 27, 28, 29, 30, 31, 32, 33, 34, 35, 36, 37, 38, 39, 40, 41, 42, 43, 44, 45, 46, 47, 48, 49, 50, 51] hk (by kernel_rfl)
              have HB := Lib.hid hk.below
              simp only [List.foldl_cons, List.foldl_nil, List.setIfInBounds_toArray, List.set_cons_succ, List.set_cons_zero] at hact
              generalize a2.eval (.tmp 14) = u14 at hact
              generalize a2.eval (.tmp 15) = u15 at hact
              generalize a2.eval (.tmp 16) = u16 at hact
              generalize a2.eval (.tmp 17) = u17 at hact
              generalize a2.eval (.tmp 18) = u18 at hact
              generalize a2.eval (.tmp 19) = u19 at hact
              generalize a2.eval (.tmp 20) = u20 at hact
              generalize a2.eval (.tmp 21) = u21 at hact
              generalize a2.eval (.tmp 22) = u22 at hact
              generalize a2.eval (.tmp 23) = u23 at hact
              generalize a2.eval (.tmp 24) = u24 at hact
              generalize a2.eval (.tmp 25) = u25 at hact
              generalize a2.eval (.tmp 26) = u26 at hact
              generalize a2.eval (.tmp 27) = u27 at hact
              generalize a2.eval (.tmp 28) = u28 at hact
              generalize a2.eval (.tmp 29) = u29 at hact
              generalize a2.eval (.tmp 30) = u30 at hact
              generalize a2.eval (.tmp 31) = u31 at hact
              generalize a2.eval (.tmp 32) = u32 at hact
              generalize a2.eval (.tmp 33) = u33 at hact
              generalize a2.eval (.tmp 34) = u34 at hact
              generalize a2.eval (.tmp 35) = u35 at hact
              generalize a2.eval (.tmp 36) = u36 at hact
              generalize a2.eval (.tmp 37) = u37 at hact
              generalize a2.eval (.tmp 38) = u38 at hact
              generalize a2.eval (.tmp 39) = u39 at hact
              generalize a2.eval (.tmp 40) = u40 at hact
              generalize a2.eval (.tmp 41) = u41 at hact
              generalize a2.eval (.tmp 42) = u42 at hact
              generalize a2.eval (.tmp 43) = u43 at hact
              generalize a2.eval (.tmp 44) = u44 at hact
              generalize a2.eval (.tmp 45) = u45 at hact
              generalize a2.eval (.tmp 46) = u46 at hact
              generalize a2.eval (.tmp 47) = u47 at hact
              generalize a2.eval (.tmp 48) = u48 at hact
              generalize a2.eval (.tmp 49) = u49 at hact
              generalize a2.eval (.tmp 50) = u50 at hact
              generalize a2.eval (.tmp 51) = u51 at hact h51
              rw [hact]
              clear hact
              go_wp2
              go_meet
              first | exact ⟨h51, HB.out⟩ | exact ⟨rfl, HB.out⟩
          | true =>
            by_cases h0 : k = 0
            · obtain rfl : bd = false := by rw [HBd.out, decide_eq_true h0]; rfl
              have H0 := Lib.hid h0
              clear h0
              refine wp_region_by (by kernel_rfl) (Phi [.val (.pointer (some ⟨w.heap.size, 0, none⟩)), .val (.slice (some ⟨b0, o0, none⟩) n1 c1), .val (.int .i64 k), .val (.pointer (some ⟨b0, o0 + k * 2, none⟩)), .val (.pointer (some ⟨b0, o0 + k * 2, none⟩)), .val (.string t), .val (.bool true), .val (.bool false), .val (.bool false), .val (.pointer (some ⟨w.heap.size, 0, none⟩)), .val (.slice (some ⟨b0, o0, none⟩) n1 c1), .val (.int .i64 k), .val (.pointer (some ⟨b0, o0 + k * 2, none⟩)), .val (.pointer (some ⟨b0, o0 + k * 2 + 1, none⟩)), .val (.string u), .val (.bool true), .val (.bool false), .val (.bool false), .val (.bool false), .val (.int .i64 k), .val (.bool false), .val (.bool false), .val (undef), .val (undef), .val (undef), .val (undef), .val (undef), .val (undef), .val (undef), .val (undef), .val (undef), .val (undef), .val (undef), .val (undef), .val (undef), .val (undef), .val (.bool false), .val (.bool false)]) (phi_stab _) (by kernel_rfl) ?step4c ?fin4c
              case step4c =>
                intro i o listed a1 w2 ho hk hdep
                have hi : i < 38 := (Array.getElem?_eq_some_iff.1 ho).1
                have e1 := ev (show a1.eval (.tmp 1) = .pointer (some ⟨w.heap.size, 0, none⟩) from hk.frame 1 (frame_of (by kernel_rfl)))
                have e3 := ev (show a1.eval (.tmp 3) = .int .i64 k from hk.frame 3 (frame_of (by kernel_rfl)))
                have q0 := (hk.below.cell (p := ⟨w.heap.size, 0, none⟩) hzw).trans k0
                have qt := (hk.below.cell (p := ⟨b0, o0 + k * 2, none⟩) hbw).trans hc
                have qu := (hk.below.cell (p := ⟨b0, o0 + k * 2 + 1, none⟩) hbw).trans hd
                have hii : i = 0 ∨ i = 1 ∨ i = 2 ∨ i = 3 ∨ i = 4 ∨ i = 5 ∨ i = 6 ∨ i = 7 ∨ i = 8 ∨ i = 9 ∨ i = 10 ∨ i = 11 ∨ i = 12 ∨ i = 13 ∨ i = 14 ∨ i = 15 ∨ i = 16 ∨ i = 17 ∨ i = 18 ∨ i = 19 ∨ i = 20 ∨ i = 21 ∨ i = 22 ∨ i = 23 ∨ i = 24 ∨ i = 25 ∨ i = 26 ∨ i = 27 ∨ i = 28 ∨ i = 29 ∨ i = 30 ∨ i = 31 ∨ i = 32 ∨ i = 33 ∨ i = 34 ∨ i = 35 ∨ i = 36 ∨ i = 37 := by omega
                rcases hii with rfl | rfl | rfl | rfl | rfl | rfl | rfl | rfl | rfl | rfl | rfl | rfl | rfl | rfl | rfl | rfl | rfl | rfl | rfl | rfl | rfl | rfl | rfl | rfl | rfl | rfl | rfl | rfl | rfl | rfl | rfl | rfl | rfl | rfl | rfl | rfl | rfl | rfl
                · cases ho
                  refine wpOp_of rfl rfl (wp_value (v := .pointer (some ⟨w.heap.size, 0, none⟩)) ?_ rfl)
                  go_simp
                · cases ho
                  have d0 := ev (show a1.eval (.tmp 14) = .pointer (some ⟨w.heap.size, 0, none⟩) from hk.done 0 _ 14 rfl rfl (hdep ⟨0, .data⟩ (by simp) rfl))
                  refine wpOp_of rfl rfl (wp_value (v := .slice (some ⟨b0, o0, none⟩) n1 c1) ?_ rfl)
                  go_simp
                · cases ho
                  refine wpOp_of rfl rfl (wp_value (v := .int .i64 k) ?_ rfl)
                  simp [execOp, e3, Act.eval]
                · cases ho
                  have d1 := ev (show a1.eval (.tmp 15) = .slice (some ⟨b0, o0, none⟩) n1 c1 from hk.done 1 _ 15 rfl rfl (hdep ⟨1, .data⟩ (by simp) rfl))
                  have d2 := ev (show a1.eval (.tmp 16) = .int .i64 k from hk.done 2 _ 16 rfl rfl (hdep ⟨2, .data⟩ (by simp) rfl))
                  refine wpOp_of rfl rfl (wp_value (v := .pointer (some ⟨b0, o0 + k * 2, none⟩)) ?_ rfl)
                  go_simp
                · cases ho
                  have d3 := ev (show a1.eval (.tmp 17) = .pointer (some ⟨b0, o0 + k * 2, none⟩) from hk.done 3 _ 17 rfl rfl (hdep ⟨3, .data⟩ (by simp) rfl))
                  refine wpOp_of rfl rfl (wp_value (v := .pointer (some ⟨b0, o0 + k * 2, none⟩)) ?_ rfl)
                  go_simp
                · cases ho
                  have d4 := ev (show a1.eval (.tmp 18) = .pointer (some ⟨b0, o0 + k * 2, none⟩) from hk.done 4 _ 18 rfl rfl (hdep ⟨4, .data⟩ (by simp) rfl))
                  refine wpOp_of rfl rfl (wp_value (v := .string t) ?_ rfl)
                  go_simp
                · cases ho
                  have d5 := ev (show a1.eval (.tmp 19) = .string t from hk.done 5 _ 19 rfl rfl (hdep ⟨5, .data⟩ (by simp) rfl))
                  refine wpOp_of rfl rfl ?_
                  go_simp
                  refine (HK.out w2).mono ?_
                  rintro e w3 ⟨rfl, rfl⟩
                  exact ⟨_, rfl, rfl, Below.refl _ _⟩
                · cases ho
                  have d6 := ev (show a1.eval (.tmp 20) = .bool true from hk.done 6 _ 20 rfl rfl (hdep ⟨6, .data⟩ (by simp) rfl))
                  refine wpOp_of rfl rfl (wp_value (v := .bool false) ?_ rfl)
                  go_simp
                · cases ho
                  have d7 := ev (show a1.eval (.tmp 21) = .bool false from hk.done 7 _ 21 rfl rfl (hdep ⟨7, .data⟩ (by simp) rfl))
                  refine wpOp_of rfl rfl (wp_value (v := .bool false) ?_ rfl)
                  simp [execOp, d7, Act.eval]
                · cases ho
                  refine wpOp_of rfl (wanted_of (t := 22) rfl rfl (hk.done 8 _ 22 rfl rfl (hdep ⟨8, .guard⟩ (by simp) rfl))) (wp_value (v := .pointer (some ⟨w.heap.size, 0, none⟩)) ?_ rfl)
                  go_simp
                · cases ho
                  have d9 := ev (show a1.eval (.tmp 23) = .pointer (some ⟨w.heap.size, 0, none⟩) from hk.done 9 _ 23 rfl rfl (hdep ⟨9, .data⟩ (by simp) rfl))
                  refine wpOp_of rfl (wanted_of (t := 22) rfl rfl (hk.done 8 _ 22 rfl rfl (hdep ⟨8, .guard⟩ (by simp) rfl))) (wp_value (v := .slice (some ⟨b0, o0, none⟩) n1 c1) ?_ rfl)
                  go_simp
                · cases ho
                  refine wpOp_of rfl (wanted_of (t := 22) rfl rfl (hk.done 8 _ 22 rfl rfl (hdep ⟨8, .guard⟩ (by simp) rfl))) (wp_value (v := .int .i64 k) ?_ rfl)
                  simp [execOp, e3, Act.eval]
                · cases ho
                  have d10 := ev (show a1.eval (.tmp 24) = .slice (some ⟨b0, o0, none⟩) n1 c1 from hk.done 10 _ 24 rfl rfl (hdep ⟨10, .data⟩ (by simp) rfl))
                  have d11 := ev (show a1.eval (.tmp 25) = .int .i64 k from hk.done 11 _ 25 rfl rfl (hdep ⟨11, .data⟩ (by simp) rfl))
                  refine wpOp_of rfl (wanted_of (t := 22) rfl rfl (hk.done 8 _ 22 rfl rfl (hdep ⟨8, .guard⟩ (by simp) rfl))) (wp_value (v := .pointer (some ⟨b0, o0 + k * 2, none⟩)) ?_ rfl)
                  go_simp
                · cases ho
                  have d12 := ev (show a1.eval (.tmp 26) = .pointer (some ⟨b0, o0 + k * 2, none⟩) from hk.done 12 _ 26 rfl rfl (hdep ⟨12, .data⟩ (by simp) rfl))
                  refine wpOp_of rfl (wanted_of (t := 22) rfl rfl (hk.done 8 _ 22 rfl rfl (hdep ⟨8, .guard⟩ (by simp) rfl))) (wp_value (v := .pointer (some ⟨b0, o0 + k * 2 + 1, none⟩)) ?_ rfl)
                  go_simp
                · cases ho
                  have d13 := ev (show a1.eval (.tmp 27) = .pointer (some ⟨b0, o0 + k * 2 + 1, none⟩) from hk.done 13 _ 27 rfl rfl (hdep ⟨13, .data⟩ (by simp) rfl))
                  refine wpOp_of rfl (wanted_of (t := 22) rfl rfl (hk.done 8 _ 22 rfl rfl (hdep ⟨8, .guard⟩ (by simp) rfl))) (wp_value (v := .string u) ?_ rfl)
                  go_simp
                · cases ho
                  have d14 := ev (show a1.eval (.tmp 28) = .string u from hk.done 14 _ 28 rfl rfl (hdep ⟨14, .data⟩ (by simp) rfl))
                  refine wpOp_of rfl (wanted_of (t := 22) rfl rfl (hk.done 8 _ 22 rfl rfl (hdep ⟨8, .guard⟩ (by simp) rfl))) ?_
                  go_simp
                  refine (HV.out w2).mono ?_
                  rintro e w3 ⟨rfl, rfl⟩
                  exact ⟨_, rfl, rfl, Below.refl _ _⟩
                · cases ho
                  have d15 := ev (show a1.eval (.tmp 29) = .bool true from hk.done 15 _ 29 rfl rfl (hdep ⟨15, .data⟩ (by simp) rfl))
                  refine wpOp_of rfl (wanted_of (t := 22) rfl rfl (hk.done 8 _ 22 rfl rfl (hdep ⟨8, .guard⟩ (by simp) rfl))) (wp_value (v := .bool false) ?_ rfl)
                  go_simp
                · cases ho
                  have d8 := ev (show a1.eval (.tmp 22) = .bool false from hk.done 8 _ 22 rfl rfl (hdep ⟨8, .data⟩ (by simp) rfl))
                  have d16 := ev (show a1.eval (.tmp 30) = .bool false from hk.done 16 _ 30 rfl rfl (hdep ⟨16, .data⟩ (by simp) rfl))
                  refine wpOp_of rfl rfl (wp_value (v := .bool false) ?_ rfl)
                  go_simp
                · cases ho
                  have d17 := ev (show a1.eval (.tmp 31) = .bool false from hk.done 17 _ 31 rfl rfl (hdep ⟨17, .data⟩ (by simp) rfl))
                  refine wpOp_of rfl rfl (wp_value (v := .bool false) ?_ rfl)
                  simp [execOp, d17, Act.eval]
                · cases ho
                  refine wpOp_of rfl (wanted_of (t := 32) rfl rfl (hk.done 18 _ 32 rfl rfl (hdep ⟨18, .guard⟩ (by simp) rfl))) (wp_value (v := .int .i64 k) ?_ rfl)
                  simp [execOp, e3, Act.eval]
                · cases ho
                  have d19 := ev (show a1.eval (.tmp 33) = .int .i64 k from hk.done 19 _ 33 rfl rfl (hdep ⟨19, .data⟩ (by simp) rfl))
                  refine wpOp_of rfl (wanted_of (t := 32) rfl rfl (hk.done 18 _ 32 rfl rfl (hdep ⟨18, .guard⟩ (by simp) rfl))) (wp_value (v := .bool false) ?_ rfl)
                  go_simp
                  have hh := H0.out
                  omega
                · cases ho
                  have d20 := ev (show a1.eval (.tmp 34) = .bool false from hk.done 20 _ 34 rfl rfl (hdep ⟨20, .data⟩ (by simp) rfl))
                  refine wpOp_of rfl (wanted_of (t := 32) rfl rfl (hk.done 18 _ 32 rfl rfl (hdep ⟨18, .guard⟩ (by simp) rfl))) (wp_value (v := .bool false) ?_ rfl)
                  simp [execOp, d20, Act.eval]
                · cases ho
                  exact wpOp_skip rfl (unwanted_of (t := 35) rfl rfl (hk.done 21 _ 35 rfl rfl (hdep ⟨21, .guard⟩ (by simp) rfl)) (by decide)) ⟨undef, rfl, rfl, Below.refl _ _⟩
                · cases ho
                  exact wpOp_skip rfl (unwanted_of (t := 35) rfl rfl (hk.done 21 _ 35 rfl rfl (hdep ⟨21, .guard⟩ (by simp) rfl)) (by decide)) ⟨undef, rfl, rfl, Below.refl _ _⟩
                · cases ho
                  exact wpOp_skip rfl (unwanted_of (t := 35) rfl rfl (hk.done 21 _ 35 rfl rfl (hdep ⟨21, .guard⟩ (by simp) rfl)) (by decide)) ⟨undef, rfl, rfl, Below.refl _ _⟩
                · cases ho
                  exact wpOp_skip rfl (unwanted_of (t := 35) rfl rfl (hk.done 21 _ 35 rfl rfl (hdep ⟨21, .guard⟩ (by simp) rfl)) (by decide)) ⟨undef, rfl, rfl, Below.refl _ _⟩
                · cases ho
                  exact wpOp_skip rfl (unwanted_of (t := 35) rfl rfl (hk.done 21 _ 35 rfl rfl (hdep ⟨21, .guard⟩ (by simp) rfl)) (by decide)) ⟨undef, rfl, rfl, Below.refl _ _⟩
                · cases ho
                  exact wpOp_skip rfl (unwanted_of (t := 35) rfl rfl (hk.done 21 _ 35 rfl rfl (hdep ⟨21, .guard⟩ (by simp) rfl)) (by decide)) ⟨undef, rfl, rfl, Below.refl _ _⟩
                · cases ho
                  exact wpOp_skip rfl (unwanted_of (t := 35) rfl rfl (hk.done 21 _ 35 rfl rfl (hdep ⟨21, .guard⟩ (by simp) rfl)) (by decide)) ⟨undef, rfl, rfl, Below.refl _ _⟩
                · cases ho
                  exact wpOp_skip rfl (unwanted_of (t := 35) rfl rfl (hk.done 21 _ 35 rfl rfl (hdep ⟨21, .guard⟩ (by simp) rfl)) (by decide)) ⟨undef, rfl, rfl, Below.refl _ _⟩
                · cases ho
                  exact wpOp_skip rfl (unwanted_of (t := 35) rfl rfl (hk.done 21 _ 35 rfl rfl (hdep ⟨21, .guard⟩ (by simp) rfl)) (by decide)) ⟨undef, rfl, rfl, Below.refl _ _⟩
                · cases ho
                  exact wpOp_skip rfl (unwanted_of (t := 35) rfl rfl (hk.done 21 _ 35 rfl rfl (hdep ⟨21, .guard⟩ (by simp) rfl)) (by decide)) ⟨undef, rfl, rfl, Below.refl _ _⟩
                · cases ho
                  exact wpOp_skip rfl (unwanted_of (t := 35) rfl rfl (hk.done 21 _ 35 rfl rfl (hdep ⟨21, .guard⟩ (by simp) rfl)) (by decide)) ⟨undef, rfl, rfl, Below.refl _ _⟩
                · cases ho
                  exact wpOp_skip rfl (unwanted_of (t := 35) rfl rfl (hk.done 21 _ 35 rfl rfl (hdep ⟨21, .guard⟩ (by simp) rfl)) (by decide)) ⟨undef, rfl, rfl, Below.refl _ _⟩
                · cases ho
                  exact wpOp_skip rfl (unwanted_of (t := 35) rfl rfl (hk.done 21 _ 35 rfl rfl (hdep ⟨21, .guard⟩ (by simp) rfl)) (by decide)) ⟨undef, rfl, rfl, Below.refl _ _⟩
                · cases ho
                  exact wpOp_skip rfl (unwanted_of (t := 35) rfl rfl (hk.done 21 _ 35 rfl rfl (hdep ⟨21, .guard⟩ (by simp) rfl)) (by decide)) ⟨undef, rfl, rfl, Below.refl _ _⟩
                · cases ho
                  have d21 := ev (show a1.eval (.tmp 35) = .bool false from hk.done 21 _ 35 rfl rfl (hdep ⟨21, .data⟩ (by simp) rfl))
                  have d35 := ev (show a1.eval (.tmp 49) = undef from hk.done 35 _ 49 rfl rfl (hdep ⟨35, .data⟩ (by simp) rfl))
                  refine wpOp_of rfl (wanted_of (t := 32) rfl rfl (hk.done 18 _ 32 rfl rfl (hdep ⟨18, .guard⟩ (by simp) rfl))) (wp_value (v := .bool false) ?_ rfl)
                  go_simp
                · cases ho
                  have d18 := ev (show a1.eval (.tmp 32) = .bool false from hk.done 18 _ 32 rfl rfl (hdep ⟨18, .data⟩ (by simp) rfl))
                  have d36 := ev (show a1.eval (.tmp 50) = .bool false from hk.done 36 _ 50 rfl rfl (hdep ⟨36, .data⟩ (by simp) rfl))
                  refine wpOp_of rfl rfl (wp_value (v := .bool false) ?_ rfl)
                  go_simp
              case fin4c =>
                intro listed a2 w2 hk hall
                have h51 : a2.eval (.tmp 51) = .bool false := hk.done 37 _ 51 rfl rfl (hall 37 (by decide))
                have hact := kept_all [14, 15, 16, 17, 18, 19, 20, 21, 22, 23, 24, 25, 26, 27, 28, 29, 30, 31, 32, 33, 34, 35, 36, 37, 38, 39, 40, 41, 42, 43, 44, 45, 46, 47, 48, 49, 50, 51] hk (by kernel_rfl)
                have HB := Lib.hid hk.below
                simp only [List.foldl_cons, List.foldl_nil, List.setIfInBounds_toArray, List.set_cons_succ, List.set_cons_zero] at hact
                generalize a2.eval (.tmp 14) = u14 at hact
                generalize a2.eval (.tmp 15) = u15 at hact
                generalize a2.eval (.tmp 16) = u16 at hact
                generalize a2.eval (.tmp 17) = u17 at hact
                generalize a2.eval (.tmp 18) = u18 at hact
                generalize a2.eval (.tmp 19) = u19 at hact
                generalize a2.eval (.tmp 20) = u20 at hact
                generalize a2.eval (.tmp 21) = u21 at hact
                generalize a2.eval (.tmp 22) = u22 at hact
                generalize a2.eval (.tmp 23) = u23 at hact
                generalize a2.eval (.tmp 24) = u24 at hact
                generalize a2.eval (.tmp 25) = u25 at hact
                generalize a2.eval (.tmp 26) = u26 at hact
                generalize a2.eval (.tmp 27) = u27 at hact
                generalize a2.eval (.tmp 28) = u28 at hact
                generalize a2.eval (.tmp 29) = u29 at hact
                generalize a2.eval (.tmp 30) = u30 at hact
                generalize a2.eval (.tmp 31) = u31 at hact
                generalize a2.eval (.tmp 32) = u32 at hact
                generalize a2.eval (.tmp 33) = u33 at hact
                generalize a2.eval (.tmp 34) = u34 at hact
                generalize a2.eval (.tmp 35) = u35 at hact
                generalize a2.eval (.tmp 36) = u36 at hact
                generalize a2.eval (.tmp 37) = u37 at hact
                generalize a2.eval (.tmp 38) = u38 at hact
                generalize a2.eval (.tmp 39) = u39 at hact
                generalize a2.eval (.tmp 40) = u40 at hact
                generalize a2.eval (.tmp 41) = u41 at hact
                generalize a2.eval (.tmp 42) = u42 at hact
                generalize a2.eval (.tmp 43) = u43 at hact
                generalize a2.eval (.tmp 44) = u44 at hact
                generalize a2.eval (.tmp 45) = u45 at hact
                generalize a2.eval (.tmp 46) = u46 at hact
                generalize a2.eval (.tmp 47) = u47 at hact
                generalize a2.eval (.tmp 48) = u48 at hact
                generalize a2.eval (.tmp 49) = u49 at hact
                generalize a2.eval (.tmp 50) = u50 at hact
                generalize a2.eval (.tmp 51) = u51 at hact h51
                rw [hact]
                clear hact
                go_wp2
                go_meet
                first | exact ⟨h51, HB.out⟩ | exact ⟨rfl, HB.out⟩
            · have hg0 : (0 : Int) < k := by omega
              have HG := Lib.hid hg0
              have hs := HS.out (by omega)
              rw [decide_eq_false h0] at HBd
              clear hg0 h0
              cases hlt2 : Op.bytesLess s.toList t.toList with
              | false =>
                have hge : ∀ W, (binOp .geq 9 (.string s) (.string t)).run Try.prog W = .ok (.bool true) W := fun W => by simp [binOp, Op.stringOp, hlt2]
                obtain rfl : bd = true := by rw [HBd.out, hlt2]; rfl
                refine wp_region_by (by kernel_rfl) (Phi [.val (.pointer (some ⟨w.heap.size, 0, none⟩)), .val (.slice (some ⟨b0, o0, none⟩) n1 c1), .val (.int .i64 k), .val (.pointer (some ⟨b0, o0 + k * 2, none⟩)), .val (.pointer (some ⟨b0, o0 + k * 2, none⟩)), .val (.string t), .val (.bool true), .val (.bool false), .val (.bool false), .val (.pointer (some ⟨w.heap.size, 0, none⟩)), .val (.slice (some ⟨b0, o0, none⟩) n1 c1), .val (.int .i64 k), .val (.pointer (some ⟨b0, o0 + k * 2, none⟩)), .val (.pointer (some ⟨b0, o0 + k * 2 + 1, none⟩)), .val (.string u), .val (.bool true), .val (.bool false), .val (.bool false), .val (.bool false), .val (.int .i64 k), .val (.bool true), .val (.bool true), .val (.pointer (some ⟨w.heap.size, 0, none⟩)), .val (.slice (some ⟨b0, o0, none⟩) n1 c1), .val (.int .i64 k), .val (.int .i64 ((k : Int) - 1)), .val (.pointer (some ⟨b0, o0 + (k - 1) * 2, none⟩)), .val (.pointer (some ⟨b0, o0 + (k - 1) * 2, none⟩)), .val (.string s), .val (.pointer (some ⟨w.heap.size, 0, none⟩)), .val (.slice (some ⟨b0, o0, none⟩) n1 c1), .val (.int .i64 k), .val (.pointer (some ⟨b0, o0 + k * 2, none⟩)), .val (.pointer (some ⟨b0, o0 + k * 2, none⟩)), .val (.string t), .val (.bool true), .val (.bool true), .val (.bool true)]) (phi_stab _) (by kernel_rfl) ?step4d ?fin4d
                case step4d =>
                  intro i o listed a1 w2 ho hk hdep
                  have hi : i < 38 := (Array.getElem?_eq_some_iff.1 ho).1
                  have e1 := ev (show a1.eval (.tmp 1) = .pointer (some ⟨w.heap.size, 0, none⟩) from hk.frame 1 (frame_of (by kernel_rfl)))
                  have e3 := ev (show a1.eval (.tmp 3) = .int .i64 k from hk.frame 3 (frame_of (by kernel_rfl)))
                  have q0 := (hk.below.cell (p := ⟨w.heap.size, 0, none⟩) hzw).trans k0
                  have qt := (hk.below.cell (p := ⟨b0, o0 + k * 2, none⟩) hbw).trans hc
                  have qu := (hk.below.cell (p := ⟨b0, o0 + k * 2 + 1, none⟩) hbw).trans hd
                  have qs := (hk.below.cell (p := ⟨b0, o0 + (k - 1) * 2, none⟩) hbw).trans hs
                  have hii : i = 0 ∨ i = 1 ∨ i = 2 ∨ i = 3 ∨ i = 4 ∨ i = 5 ∨ i = 6 ∨ i = 7 ∨ i = 8 ∨ i = 9 ∨ i = 10 ∨ i = 11 ∨ i = 12 ∨ i = 13 ∨ i = 14 ∨ i = 15 ∨ i = 16 ∨ i = 17 ∨ i = 18 ∨ i = 19 ∨ i = 20 ∨ i = 21 ∨ i = 22 ∨ i = 23 ∨ i = 24 ∨ i = 25 ∨ i = 26 ∨ i = 27 ∨ i = 28 ∨ i = 29 ∨ i = 30 ∨ i = 31 ∨ i = 32 ∨ i = 33 ∨ i = 34 ∨ i = 35 ∨ i = 36 ∨ i = 37 := by omega
                  rcases hii with rfl | rfl | rfl | rfl | rfl | rfl | rfl | rfl | rfl | rfl | rfl | rfl | rfl | rfl | rfl | rfl | rfl | rfl | rfl | rfl | rfl | rfl | rfl | rfl | rfl | rfl | rfl | rfl | rfl | rfl | rfl | rfl | rfl | rfl | rfl | rfl | rfl | rfl
                  · cases ho
                    refine wpOp_of rfl rfl (wp_value (v := .pointer (some ⟨w.heap.size, 0, none⟩)) ?_ rfl)
                    go_simp
                  · cases ho
                    have d0 := ev (show a1.eval (.tmp 14) = .pointer (some ⟨w.heap.size, 0, none⟩) from hk.done 0 _ 14 rfl rfl (hdep ⟨0, .data⟩ (by simp) rfl))
                    refine wpOp_of rfl rfl (wp_value (v := .slice (some ⟨b0, o0, none⟩) n1 c1) ?_ rfl)
                    go_simp
                  · cases ho
                    refine wpOp_of rfl rfl (wp_value (v := .int .i64 k) ?_ rfl)
                    simp [execOp, e3, Act.eval]
                  · cases ho
                    have d1 := ev (show a1.eval (.tmp 15) = .slice (some ⟨b0, o0, none⟩) n1 c1 from hk.done 1 _ 15 rfl rfl (hdep ⟨1, .data⟩ (by simp) rfl))
                    have d2 := ev (show a1.eval (.tmp 16) = .int .i64 k from hk.done 2 _ 16 rfl rfl (hdep ⟨2, .data⟩ (by simp) rfl))
                    refine wpOp_of rfl rfl (wp_value (v := .pointer (some ⟨b0, o0 + k * 2, none⟩)) ?_ rfl)
                    go_simp
                  · cases ho
                    have d3 := ev (show a1.eval (.tmp 17) = .pointer (some ⟨b0, o0 + k * 2, none⟩) from hk.done 3 _ 17 rfl rfl (hdep ⟨3, .data⟩ (by simp) rfl))
                    refine wpOp_of rfl rfl (wp_value (v := .pointer (some ⟨b0, o0 + k * 2, none⟩)) ?_ rfl)
                    go_simp
                  · cases ho
                    have d4 := ev (show a1.eval (.tmp 18) = .pointer (some ⟨b0, o0 + k * 2, none⟩) from hk.done 4 _ 18 rfl rfl (hdep ⟨4, .data⟩ (by simp) rfl))
                    refine wpOp_of rfl rfl (wp_value (v := .string t) ?_ rfl)
                    go_simp
                  · cases ho
                    have d5 := ev (show a1.eval (.tmp 19) = .string t from hk.done 5 _ 19 rfl rfl (hdep ⟨5, .data⟩ (by simp) rfl))
                    refine wpOp_of rfl rfl ?_
                    go_simp
                    refine (HK.out w2).mono ?_
                    rintro e w3 ⟨rfl, rfl⟩
                    exact ⟨_, rfl, rfl, Below.refl _ _⟩
                  · cases ho
                    have d6 := ev (show a1.eval (.tmp 20) = .bool true from hk.done 6 _ 20 rfl rfl (hdep ⟨6, .data⟩ (by simp) rfl))
                    refine wpOp_of rfl rfl (wp_value (v := .bool false) ?_ rfl)
                    go_simp
                  · cases ho
                    have d7 := ev (show a1.eval (.tmp 21) = .bool false from hk.done 7 _ 21 rfl rfl (hdep ⟨7, .data⟩ (by simp) rfl))
                    refine wpOp_of rfl rfl (wp_value (v := .bool false) ?_ rfl)
                    simp [execOp, d7, Act.eval]
                  · cases ho
                    refine wpOp_of rfl (wanted_of (t := 22) rfl rfl (hk.done 8 _ 22 rfl rfl (hdep ⟨8, .guard⟩ (by simp) rfl))) (wp_value (v := .pointer (some ⟨w.heap.size, 0, none⟩)) ?_ rfl)
                    go_simp
                  · cases ho
                    have d9 := ev (show a1.eval (.tmp 23) = .pointer (some ⟨w.heap.size, 0, none⟩) from hk.done 9 _ 23 rfl rfl (hdep ⟨9, .data⟩ (by simp) rfl))
                    refine wpOp_of rfl (wanted_of (t := 22) rfl rfl (hk.done 8 _ 22 rfl rfl (hdep ⟨8, .guard⟩ (by simp) rfl))) (wp_value (v := .slice (some ⟨b0, o0, none⟩) n1 c1) ?_ rfl)
                    go_simp
                  · cases ho
                    refine wpOp_of rfl (wanted_of (t := 22) rfl rfl (hk.done 8 _ 22 rfl rfl (hdep ⟨8, .guard⟩ (by simp) rfl))) (wp_value (v := .int .i64 k) ?_ rfl)
                    simp [execOp, e3, Act.eval]
                  · cases ho
                    have d10 := ev (show a1.eval (.tmp 24) = .slice (some ⟨b0, o0, none⟩) n1 c1 from hk.done 10 _ 24 rfl rfl (hdep ⟨10, .data⟩ (by simp) rfl))
                    have d11 := ev (show a1.eval (.tmp 25) = .int .i64 k from hk.done 11 _ 25 rfl rfl (hdep ⟨11, .data⟩ (by simp) rfl))
                    refine wpOp_of rfl (wanted_of (t := 22) rfl rfl (hk.done 8 _ 22 rfl rfl (hdep ⟨8, .guard⟩ (by simp) rfl))) (wp_value (v := .pointer (some ⟨b0, o0 + k * 2, none⟩)) ?_ rfl)
                    go_simp
                  · cases ho
                    have d12 := ev (show a1.eval (.tmp 26) = .pointer (some ⟨b0, o0 + k * 2, none⟩) from hk.done 12 _ 26 rfl rfl (hdep ⟨12, .data⟩ (by simp) rfl))
                    refine wpOp_of rfl (wanted_of (t := 22) rfl rfl (hk.done 8 _ 22 rfl rfl (hdep ⟨8, .guard⟩ (by simp) rfl))) (wp_value (v := .pointer (some ⟨b0, o0 + k * 2 + 1, none⟩)) ?_ rfl)
                    go_simp
                  · cases ho
                    have d13 := ev (show a1.eval (.tmp 27) = .pointer (some ⟨b0, o0 + k * 2 + 1, none⟩) from hk.done 13 _ 27 rfl rfl (hdep ⟨13, .data⟩ (by simp) rfl))
                    refine wpOp_of rfl (wanted_of (t := 22) rfl rfl (hk.done 8 _ 22 rfl rfl (hdep ⟨8, .guard⟩ (by simp) rfl))) (wp_value (v := .string u) ?_ rfl)
                    go_simp
                  · cases ho
                    have d14 := ev (show a1.eval (.tmp 28) = .string u from hk.done 14 _ 28 rfl rfl (hdep ⟨14, .data⟩ (by simp) rfl))
                    refine wpOp_of rfl (wanted_of (t := 22) rfl rfl (hk.done 8 _ 22 rfl rfl (hdep ⟨8, .guard⟩ (by simp) rfl))) ?_
                    go_simp
                    refine (HV.out w2).mono ?_
                    rintro e w3 ⟨rfl, rfl⟩
                    exact ⟨_, rfl, rfl, Below.refl _ _⟩
                  · cases ho
                    have d15 := ev (show a1.eval (.tmp 29) = .bool true from hk.done 15 _ 29 rfl rfl (hdep ⟨15, .data⟩ (by simp) rfl))
                    refine wpOp_of rfl (wanted_of (t := 22) rfl rfl (hk.done 8 _ 22 rfl rfl (hdep ⟨8, .guard⟩ (by simp) rfl))) (wp_value (v := .bool false) ?_ rfl)
                    go_simp
                  · cases ho
                    have d8 := ev (show a1.eval (.tmp 22) = .bool false from hk.done 8 _ 22 rfl rfl (hdep ⟨8, .data⟩ (by simp) rfl))
                    have d16 := ev (show a1.eval (.tmp 30) = .bool false from hk.done 16 _ 30 rfl rfl (hdep ⟨16, .data⟩ (by simp) rfl))
                    refine wpOp_of rfl rfl (wp_value (v := .bool false) ?_ rfl)
                    go_simp
                  · cases ho
                    have d17 := ev (show a1.eval (.tmp 31) = .bool false from hk.done 17 _ 31 rfl rfl (hdep ⟨17, .data⟩ (by simp) rfl))
                    refine wpOp_of rfl rfl (wp_value (v := .bool false) ?_ rfl)
                    simp [execOp, d17, Act.eval]
                  · cases ho
                    refine wpOp_of rfl (wanted_of (t := 32) rfl rfl (hk.done 18 _ 32 rfl rfl (hdep ⟨18, .guard⟩ (by simp) rfl))) (wp_value (v := .int .i64 k) ?_ rfl)
                    simp [execOp, e3, Act.eval]
                  · cases ho
                    have d19 := ev (show a1.eval (.tmp 33) = .int .i64 k from hk.done 19 _ 33 rfl rfl (hdep ⟨19, .data⟩ (by simp) rfl))
                    refine wpOp_of rfl (wanted_of (t := 32) rfl rfl (hk.done 18 _ 32 rfl rfl (hdep ⟨18, .guard⟩ (by simp) rfl))) (wp_value (v := .bool true) ?_ rfl)
                    go_simp
                    all_goals (have hh := HG.out; omega)
                  · cases ho
                    have d20 := ev (show a1.eval (.tmp 34) = .bool true from hk.done 20 _ 34 rfl rfl (hdep ⟨20, .data⟩ (by simp) rfl))
                    refine wpOp_of rfl (wanted_of (t := 32) rfl rfl (hk.done 18 _ 32 rfl rfl (hdep ⟨18, .guard⟩ (by simp) rfl))) (wp_value (v := .bool true) ?_ rfl)
                    simp [execOp, d20, Act.eval]
                  · cases ho
                    refine wpOp_of rfl (wanted_of (t := 35) rfl rfl (hk.done 21 _ 35 rfl rfl (hdep ⟨21, .guard⟩ (by simp) rfl))) (wp_value (v := .pointer (some ⟨w.heap.size, 0, none⟩)) ?_ rfl)
                    go_simp
                  · cases ho
                    have d22 := ev (show a1.eval (.tmp 36) = .pointer (some ⟨w.heap.size, 0, none⟩) from hk.done 22 _ 36 rfl rfl (hdep ⟨22, .data⟩ (by simp) rfl))
                    refine wpOp_of rfl (wanted_of (t := 35) rfl rfl (hk.done 21 _ 35 rfl rfl (hdep ⟨21, .guard⟩ (by simp) rfl))) (wp_value (v := .slice (some ⟨b0, o0, none⟩) n1 c1) ?_ rfl)
                    go_simp
                  · cases ho
                    refine wpOp_of rfl (wanted_of (t := 35) rfl rfl (hk.done 21 _ 35 rfl rfl (hdep ⟨21, .guard⟩ (by simp) rfl))) (wp_value (v := .int .i64 k) ?_ rfl)
                    simp [execOp, e3, Act.eval]
                  · cases ho
                    have d24 := ev (show a1.eval (.tmp 38) = .int .i64 k from hk.done 24 _ 38 rfl rfl (hdep ⟨24, .data⟩ (by simp) rfl))
                    refine wpOp_of rfl (wanted_of (t := 35) rfl rfl (hk.done 21 _ 35 rfl rfl (hdep ⟨21, .guard⟩ (by simp) rfl))) (wp_value (v := .int .i64 ((k : Int) - 1)) ?_ rfl)
                    go_simp
                    all_goals (have hh := HG.out; rw [IntKind.wrap_i64]; omega)
                  · cases ho
                    have d23 := ev (show a1.eval (.tmp 37) = .slice (some ⟨b0, o0, none⟩) n1 c1 from hk.done 23 _ 37 rfl rfl (hdep ⟨23, .data⟩ (by simp) rfl))
                    have d25 := ev (show a1.eval (.tmp 39) = .int .i64 ((k : Int) - 1) from hk.done 25 _ 39 rfl rfl (hdep ⟨25, .data⟩ (by simp) rfl))
                    refine wpOp_of rfl (wanted_of (t := 35) rfl rfl (hk.done 21 _ 35 rfl rfl (hdep ⟨21, .guard⟩ (by simp) rfl))) (wp_value (v := .pointer (some ⟨b0, o0 + (k - 1) * 2, none⟩)) ?_ rfl)
                    go_simp
                    all_goals (intro hbad; exfalso; have hh := HG.out; omega)
                  · cases ho
                    have d26 := ev (show a1.eval (.tmp 40) = .pointer (some ⟨b0, o0 + (k - 1) * 2, none⟩) from hk.done 26 _ 40 rfl rfl (hdep ⟨26, .data⟩ (by simp) rfl))
                    refine wpOp_of rfl (wanted_of (t := 35) rfl rfl (hk.done 21 _ 35 rfl rfl (hdep ⟨21, .guard⟩ (by simp) rfl))) (wp_value (v := .pointer (some ⟨b0, o0 + (k - 1) * 2, none⟩)) ?_ rfl)
                    go_simp
                  · cases ho
                    have d27 := ev (show a1.eval (.tmp 41) = .pointer (some ⟨b0, o0 + (k - 1) * 2, none⟩) from hk.done 27 _ 41 rfl rfl (hdep ⟨27, .data⟩ (by simp) rfl))
                    refine wpOp_of rfl (wanted_of (t := 35) rfl rfl (hk.done 21 _ 35 rfl rfl (hdep ⟨21, .guard⟩ (by simp) rfl))) (wp_value (v := .string s) ?_ rfl)
                    go_simp
                  · cases ho
                    refine wpOp_of rfl (wanted_of (t := 35) rfl rfl (hk.done 21 _ 35 rfl rfl (hdep ⟨21, .guard⟩ (by simp) rfl))) (wp_value (v := .pointer (some ⟨w.heap.size, 0, none⟩)) ?_ rfl)
                    go_simp
                  · cases ho
                    have d29 := ev (show a1.eval (.tmp 43) = .pointer (some ⟨w.heap.size, 0, none⟩) from hk.done 29 _ 43 rfl rfl (hdep ⟨29, .data⟩ (by simp) rfl))
                    refine wpOp_of rfl (wanted_of (t := 35) rfl rfl (hk.done 21 _ 35 rfl rfl (hdep ⟨21, .guard⟩ (by simp) rfl))) (wp_value (v := .slice (some ⟨b0, o0, none⟩) n1 c1) ?_ rfl)
                    go_simp
                  · cases ho
                    refine wpOp_of rfl (wanted_of (t := 35) rfl rfl (hk.done 21 _ 35 rfl rfl (hdep ⟨21, .guard⟩ (by simp) rfl))) (wp_value (v := .int .i64 k) ?_ rfl)
                    simp [execOp, e3, Act.eval]
                  · cases ho
                    have d30 := ev (show a1.eval (.tmp 44) = .slice (some ⟨b0, o0, none⟩) n1 c1 from hk.done 30 _ 44 rfl rfl (hdep ⟨30, .data⟩ (by simp) rfl))
                    have d31 := ev (show a1.eval (.tmp 45) = .int .i64 k from hk.done 31 _ 45 rfl rfl (hdep ⟨31, .data⟩ (by simp) rfl))
                    refine wpOp_of rfl (wanted_of (t := 35) rfl rfl (hk.done 21 _ 35 rfl rfl (hdep ⟨21, .guard⟩ (by simp) rfl))) (wp_value (v := .pointer (some ⟨b0, o0 + k * 2, none⟩)) ?_ rfl)
                    go_simp
                  · cases ho
                    have d32 := ev (show a1.eval (.tmp 46) = .pointer (some ⟨b0, o0 + k * 2, none⟩) from hk.done 32 _ 46 rfl rfl (hdep ⟨32, .data⟩ (by simp) rfl))
                    refine wpOp_of rfl (wanted_of (t := 35) rfl rfl (hk.done 21 _ 35 rfl rfl (hdep ⟨21, .guard⟩ (by simp) rfl))) (wp_value (v := .pointer (some ⟨b0, o0 + k * 2, none⟩)) ?_ rfl)
                    go_simp
                  · cases ho
                    have d33 := ev (show a1.eval (.tmp 47) = .pointer (some ⟨b0, o0 + k * 2, none⟩) from hk.done 33 _ 47 rfl rfl (hdep ⟨33, .data⟩ (by simp) rfl))
                    refine wpOp_of rfl (wanted_of (t := 35) rfl rfl (hk.done 21 _ 35 rfl rfl (hdep ⟨21, .guard⟩ (by simp) rfl))) (wp_value (v := .string t) ?_ rfl)
                    go_simp
                  · cases ho
                    have d28 := ev (show a1.eval (.tmp 42) = .string s from hk.done 28 _ 42 rfl rfl (hdep ⟨28, .data⟩ (by simp) rfl))
                    have d34 := ev (show a1.eval (.tmp 48) = .string t from hk.done 34 _ 48 rfl rfl (hdep ⟨34, .data⟩ (by simp) rfl))
                    refine wpOp_of rfl (wanted_of (t := 35) rfl rfl (hk.done 21 _ 35 rfl rfl (hdep ⟨21, .guard⟩ (by simp) rfl))) (wp_value (v := .bool true) ?_ rfl)
                    go_simp
                  · cases ho
                    have d21 := ev (show a1.eval (.tmp 35) = .bool true from hk.done 21 _ 35 rfl rfl (hdep ⟨21, .data⟩ (by simp) rfl))
                    have d35 := ev (show a1.eval (.tmp 49) = .bool true from hk.done 35 _ 49 rfl rfl (hdep ⟨35, .data⟩ (by simp) rfl))
                    refine wpOp_of rfl (wanted_of (t := 32) rfl rfl (hk.done 18 _ 32 rfl rfl (hdep ⟨18, .guard⟩ (by simp) rfl))) (wp_value (v := .bool true) ?_ rfl)
                    go_simp
                  · cases ho
                    have d18 := ev (show a1.eval (.tmp 32) = .bool false from hk.done 18 _ 32 rfl rfl (hdep ⟨18, .data⟩ (by simp) rfl))
                    have d36 := ev (show a1.eval (.tmp 50) = .bool true from hk.done 36 _ 50 rfl rfl (hdep ⟨36, .data⟩ (by simp) rfl))
                    refine wpOp_of rfl rfl (wp_value (v := .bool true) ?_ rfl)
                    go_simp
                case fin4d =>
                  intro listed a2 w2 hk hall
                  have h51 : a2.eval (.tmp 51) = .bool true := hk.done 37 _ 51 rfl rfl (hall 37 (by decide))
                  have hact := kept_all [14, 15, 16, 17, 18, 19, 20, 21, 22, 23, 24, 25, 26, 27, 28, 29, 30, 31, 32, 33, 34, 35, 36, 37, 38, 39, 40, 41, 42, 43, 44, 45, 46, 47, 48, 49, 50, 51] hk (by kernel_rfl)
                  have HB := Lib.hid hk.below
                  simp only [List.foldl_cons, List.foldl_nil, List.setIfInBounds_toArray, List.set_cons_succ, List.set_cons_zero] at hact
                  generalize a2.eval (.tmp 14) = u14 at hact
                  generalize a2.eval (.tmp 15) = u15 at hact
                  generalize a2.eval (.tmp 16) = u16 at hact
                  generalize a2.eval (.tmp 17) = u17 at hact
                  generalize a2.eval (.tmp 18) = u18 at hact
                  generalize a2.eval (.tmp 19) = u19 at hact
                  generalize a2.eval (.tmp 20) = u20 at hact
                  generalize a2.eval (.tmp 21) = u21 at hact
                  generalize a2.eval (.tmp 22) = u22 at hact
                  generalize a2.eval (.tmp 23) = u23 at hact
                  generalize a2.eval (.tmp 24) = u24 at hact
                  generalize a2.eval (.tmp 25) = u25 at hact
                  generalize a2.eval (.tmp 26) = u26 at hact
                  generalize a2.eval (.tmp 27) = u27 at hact
                  generalize a2.eval (.tmp 28) = u28 at hact
                  generalize a2.eval (.tmp 29) = u29 at hact
                  generalize a2.eval (.tmp 30) = u30 at hact
                  generalize a2.eval (.tmp 31) = u31 at hact
                  generalize a2.eval (.tmp 32) = u32 at hact
                  generalize a2.eval (.tmp 33) = u33 at hact
                  generalize a2.eval (.tmp 34) = u34 at hact
                  generalize a2.eval (.tmp 35) = u35 at hact
                  generalize a2.eval (.tmp 36) = u36 at hact
                  generalize a2.eval (.tmp 37) = u37 at hact
                  generalize a2.eval (.tmp 38) = u38 at hact
                  generalize a2.eval (.tmp 39) = u39 at hact
                  generalize a2.eval (.tmp 40) = u40 at hact
                  generalize a2.eval (.tmp 41) = u41 at hact
                  generalize a2.eval (.tmp 42) = u42 at hact
                  generalize a2.eval (.tmp 43) = u43 at hact
                  generalize a2.eval (.tmp 44) = u44 at hact
                  generalize a2.eval (.tmp 45) = u45 at hact
                  generalize a2.eval (.tmp 46) = u46 at hact
                  generalize a2.eval (.tmp 47) = u47 at hact
                  generalize a2.eval (.tmp 48) = u48 at hact
                  generalize a2.eval (.tmp 49) = u49 at hact
                  generalize a2.eval (.tmp 50) = u50 at hact
                  generalize a2.eval (.tmp 51) = u51 at hact h51
                  rw [hact]
                  clear hact
                  go_wp2
                  go_meet
                  first | exact ⟨h51, HB.out⟩ | exact ⟨rfl, HB.out⟩
              | true =>
                have hge : ∀ W, (binOp .geq 9 (.string s) (.string t)).run Try.prog W = .ok (.bool false) W := fun W => by simp [binOp, Op.stringOp, hlt2]
                obtain rfl : bd = false := by rw [HBd.out, hlt2]; rfl
                refine wp_region_by (by kernel_rfl) (Phi [.val (.pointer (some ⟨w.heap.size, 0, none⟩)), .val (.slice (some ⟨b0, o0, none⟩) n1 c1), .val (.int .i64 k), .val (.pointer (some ⟨b0, o0 + k * 2, none⟩)), .val (.pointer (some ⟨b0, o0 + k * 2, none⟩)), .val (.string t), .val (.bool true), .val (.bool false), .val (.bool false), .val (.pointer (some ⟨w.heap.size, 0, none⟩)), .val (.slice (some ⟨b0, o0, none⟩) n1 c1), .val (.int .i64 k), .val (.pointer (some ⟨b0, o0 + k * 2, none⟩)), .val (.pointer (some ⟨b0, o0 + k * 2 + 1, none⟩)), .val (.string u), .val (.bool true), .val (.bool false), .val (.bool false), .val (.bool false), .val (.int .i64 k), .val (.bool true), .val (.bool true), .val (.pointer (some ⟨w.heap.size, 0, none⟩)), .val (.slice (some ⟨b0, o0, none⟩) n1 c1), .val (.int .i64 k), .val (.int .i64 ((k : Int) - 1)), .val (.pointer (some ⟨b0, o0 + (k - 1) * 2, none⟩)), .val (.pointer (some ⟨b0, o0 + (k - 1) * 2, none⟩)), .val (.string s), .val (.pointer (some ⟨w.heap.size, 0, none⟩)), .val (.slice (some ⟨b0, o0, none⟩) n1 c1), .val (.int .i64 k), .val (.pointer (some ⟨b0, o0 + k * 2, none⟩)), .val (.pointer (some ⟨b0, o0 + k * 2, none⟩)), .val (.string t), .val (.bool false), .val (.bool false), .val (.bool false)]) (phi_stab _) (by kernel_rfl) ?step4e ?fin4e
                case step4e =>
                  intro i o listed a1 w2 ho hk hdep
                  have hi : i < 38 := (Array.getElem?_eq_some_iff.1 ho).1
                  have e1 := ev (show a1.eval (.tmp 1) = .pointer (some ⟨w.heap.size, 0, none⟩) from hk.frame 1 (frame_of (by kernel_rfl)))
                  have e3 := ev (show a1.eval (.tmp 3) = .int .i64 k from hk.frame 3 (frame_of (by kernel_rfl)))
                  have q0 := (hk.below.cell (p := ⟨w.heap.size, 0, none⟩) hzw).trans k0
                  have qt := (hk.below.cell (p := ⟨b0, o0 + k * 2, none⟩) hbw).trans hc
                  have qu := (hk.below.cell (p := ⟨b0, o0 + k * 2 + 1, none⟩) hbw).trans hd
                  have qs := (hk.below.cell (p := ⟨b0, o0 + (k - 1) * 2, none⟩) hbw).trans hs
                  have hii : i = 0 ∨ i = 1 ∨ i = 2 ∨ i = 3 ∨ i = 4 ∨ i = 5 ∨ i = 6 ∨ i = 7 ∨ i = 8 ∨ i = 9 ∨ i = 10 ∨ i = 11 ∨ i = 12 ∨ i = 13 ∨ i = 14 ∨ i = 15 ∨ i = 16 ∨ i = 17 ∨ i = 18 ∨ i = 19 ∨ i = 20 ∨ i = 21 ∨ i = 22 ∨ i = 23 ∨ i = 24 ∨ i = 25 ∨ i = 26 ∨ i = 27 ∨ i = 28 ∨ i = 29 ∨ i = 30 ∨ i = 31 ∨ i = 32 ∨ i = 33 ∨ i = 34 ∨ i = 35 ∨ i = 36 ∨ i = 37 := by omega
                  rcases hii with rfl | rfl | rfl | rfl | rfl | rfl | rfl | rfl | rfl | rfl | rfl | rfl | rfl | rfl | rfl | rfl | rfl | rfl | rfl | rfl | rfl | rfl | rfl | rfl | rfl | rfl | rfl | rfl | rfl | rfl | rfl | rfl | rfl | rfl | rfl | rfl | rfl | rfl
                  · cases ho
                    refine wpOp_of rfl rfl (wp_value (v := .pointer (some ⟨w.heap.size, 0, none⟩)) ?_ rfl)
                    go_simp
                  · cases ho
                    have d0 := ev (show a1.eval (.tmp 14) = .pointer (some ⟨w.heap.size, 0, none⟩) from hk.done 0 _ 14 rfl rfl (hdep ⟨0, .data⟩ (by simp) rfl))
                    refine wpOp_of rfl rfl (wp_value (v := .slice (some ⟨b0, o0, none⟩) n1 c1) ?_ rfl)
                    go_simp
                  · cases ho
                    refine wpOp_of rfl rfl (wp_value (v := .int .i64 k) ?_ rfl)
                    simp [execOp, e3, Act.eval]
                  · cases ho
                    have d1 := ev (show a1.eval (.tmp 15) = .slice (some ⟨b0, o0, none⟩) n1 c1 from hk.done 1 _ 15 rfl rfl (hdep ⟨1, .data⟩ (by simp) rfl))
                    have d2 := ev (show a1.eval (.tmp 16) = .int .i64 k from hk.done 2 _ 16 rfl rfl (hdep ⟨2, .data⟩ (by simp) rfl))
                    refine wpOp_of rfl rfl (wp_value (v := .pointer (some ⟨b0, o0 + k * 2, none⟩)) ?_ rfl)
                    go_simp
                  · cases ho
                    have d3 := ev (show a1.eval (.tmp 17) = .pointer (some ⟨b0, o0 + k * 2, none⟩) from hk.done 3 _ 17 rfl rfl (hdep ⟨3, .data⟩ (by simp) rfl))
                    refine wpOp_of rfl rfl (wp_value (v := .pointer (some ⟨b0, o0 + k * 2, none⟩)) ?_ rfl)
                    go_simp
                  · cases ho
                    have d4 := ev (show a1.eval (.tmp 18) = .pointer (some ⟨b0, o0 + k * 2, none⟩) from hk.done 4 _ 18 rfl rfl (hdep ⟨4, .data⟩ (by simp) rfl))
                    refine wpOp_of rfl rfl (wp_value (v := .string t) ?_ rfl)
                    go_simp
                  · cases ho
                    have d5 := ev (show a1.eval (.tmp 19) = .string t from hk.done 5 _ 19 rfl rfl (hdep ⟨5, .data⟩ (by simp) rfl))
                    refine wpOp_of rfl rfl ?_
                    go_simp
                    refine (HK.out w2).mono ?_
                    rintro e w3 ⟨rfl, rfl⟩
                    exact ⟨_, rfl, rfl, Below.refl _ _⟩
                  · cases ho
                    have d6 := ev (show a1.eval (.tmp 20) = .bool true from hk.done 6 _ 20 rfl rfl (hdep ⟨6, .data⟩ (by simp) rfl))
                    refine wpOp_of rfl rfl (wp_value (v := .bool false) ?_ rfl)
                    go_simp
                  · cases ho
                    have d7 := ev (show a1.eval (.tmp 21) = .bool false from hk.done 7 _ 21 rfl rfl (hdep ⟨7, .data⟩ (by simp) rfl))
                    refine wpOp_of rfl rfl (wp_value (v := .bool false) ?_ rfl)
                    simp [execOp, d7, Act.eval]
                  · cases ho
                    refine wpOp_of rfl (wanted_of (t := 22) rfl rfl (hk.done 8 _ 22 rfl rfl (hdep ⟨8, .guard⟩ (by simp) rfl))) (wp_value (v := .pointer (some ⟨w.heap.size, 0, none⟩)) ?_ rfl)
                    go_simp
                  · cases ho
                    have d9 := ev (show a1.eval (.tmp 23) = .pointer (some ⟨w.heap.size, 0, none⟩) from hk.done 9 _ 23 rfl rfl (hdep ⟨9, .data⟩ (by simp) rfl))
                    refine wpOp_of rfl (wanted_of (t := 22) rfl rfl (hk.done 8 _ 22 rfl rfl (hdep ⟨8, .guard⟩ (by simp) rfl))) (wp_value (v := .slice (some ⟨b0, o0, none⟩) n1 c1) ?_ rfl)
                    go_simp
                  · cases ho
                    refine wpOp_of rfl (wanted_of (t := 22) rfl rfl (hk.done 8 _ 22 rfl rfl (hdep ⟨8, .guard⟩ (by simp) rfl))) (wp_value (v := .int .i64 k) ?_ rfl)
                    simp [execOp, e3, Act.eval]
                  · cases ho
                    have d10 := ev (show a1.eval (.tmp 24) = .slice (some ⟨b0, o0, none⟩) n1 c1 from hk.done 10 _ 24 rfl rfl (hdep ⟨10, .data⟩ (by simp) rfl))
                    have d11 := ev (show a1.eval (.tmp 25) = .int .i64 k from hk.done 11 _ 25 rfl rfl (hdep ⟨11, .data⟩ (by simp) rfl))
                    refine wpOp_of rfl (wanted_of (t := 22) rfl rfl (hk.done 8 _ 22 rfl rfl (hdep ⟨8, .guard⟩ (by simp) rfl))) (wp_value (v := .pointer (some ⟨b0, o0 + k * 2, none⟩)) ?_ rfl)
                    go_simp
                  · cases ho
                    have d12 := ev (show a1.eval (.tmp 26) = .pointer (some ⟨b0, o0 + k * 2, none⟩) from hk.done 12 _ 26 rfl rfl (hdep ⟨12, .data⟩ (by simp) rfl))
                    refine wpOp_of rfl (wanted_of (t := 22) rfl rfl (hk.done 8 _ 22 rfl rfl (hdep ⟨8, .guard⟩ (by simp) rfl))) (wp_value (v := .pointer (some ⟨b0, o0 + k * 2 + 1, none⟩)) ?_ rfl)
                    go_simp
                  · cases ho
                    have d13 := ev (show a1.eval (.tmp 27) = .pointer (some ⟨b0, o0 + k * 2 + 1, none⟩) from hk.done 13 _ 27 rfl rfl (hdep ⟨13, .data⟩ (by simp) rfl))
                    refine wpOp_of rfl (wanted_of (t := 22) rfl rfl (hk.done 8 _ 22 rfl rfl (hdep ⟨8, .guard⟩ (by simp) rfl))) (wp_value (v := .string u) ?_ rfl)
                    go_simp
                  · cases ho
                    have d14 := ev (show a1.eval (.tmp 28) = .string u from hk.done 14 _ 28 rfl rfl (hdep ⟨14, .data⟩ (by simp) rfl))
                    refine wpOp_of rfl (wanted_of (t := 22) rfl rfl (hk.done 8 _ 22 rfl rfl (hdep ⟨8, .guard⟩ (by simp) rfl))) ?_
                    go_simp
                    refine (HV.out w2).mono ?_
                    rintro e w3 ⟨rfl, rfl⟩
                    exact ⟨_, rfl, rfl, Below.refl _ _⟩
                  · cases ho
                    have d15 := ev (show a1.eval (.tmp 29) = .bool true from hk.done 15 _ 29 rfl rfl (hdep ⟨15, .data⟩ (by simp) rfl))
                    refine wpOp_of rfl (wanted_of (t := 22) rfl rfl (hk.done 8 _ 22 rfl rfl (hdep ⟨8, .guard⟩ (by simp) rfl))) (wp_value (v := .bool false) ?_ rfl)
                    go_simp
                  · cases ho
                    have d8 := ev (show a1.eval (.tmp 22) = .bool false from hk.done 8 _ 22 rfl rfl (hdep ⟨8, .data⟩ (by simp) rfl))
                    have d16 := ev (show a1.eval (.tmp 30) = .bool false from hk.done 16 _ 30 rfl rfl (hdep ⟨16, .data⟩ (by simp) rfl))
                    refine wpOp_of rfl rfl (wp_value (v := .bool false) ?_ rfl)
                    go_simp
                  · cases ho
                    have d17 := ev (show a1.eval (.tmp 31) = .bool false from hk.done 17 _ 31 rfl rfl (hdep ⟨17, .data⟩ (by simp) rfl))
                    refine wpOp_of rfl rfl (wp_value (v := .bool false) ?_ rfl)
                    simp [execOp, d17, Act.eval]
                  · cases ho
                    refine wpOp_of rfl (wanted_of (t := 32) rfl rfl (hk.done 18 _ 32 rfl rfl (hdep ⟨18, .guard⟩ (by simp) rfl))) (wp_value (v := .int .i64 k) ?_ rfl)
                    simp [execOp, e3, Act.eval]
                  · cases ho
                    have d19 := ev (show a1.eval (.tmp 33) = .int .i64 k from hk.done 19 _ 33 rfl rfl (hdep ⟨19, .data⟩ (by simp) rfl))
                    refine wpOp_of rfl (wanted_of (t := 32) rfl rfl (hk.done 18 _ 32 rfl rfl (hdep ⟨18, .guard⟩ (by simp) rfl))) (wp_value (v := .bool true) ?_ rfl)
                    go_simp
                    all_goals (have hh := HG.out; omega)
                  · cases ho
                    have d20 := ev (show a1.eval (.tmp 34) = .bool true from hk.done 20 _ 34 rfl rfl (hdep ⟨20, .data⟩ (by simp) rfl))
                    refine wpOp_of rfl (wanted_of (t := 32) rfl rfl (hk.done 18 _ 32 rfl rfl (hdep ⟨18, .guard⟩ (by simp) rfl))) (wp_value (v := .bool true) ?_ rfl)
                    simp [execOp, d20, Act.eval]
                  · cases ho
                    refine wpOp_of rfl (wanted_of (t := 35) rfl rfl (hk.done 21 _ 35 rfl rfl (hdep ⟨21, .guard⟩ (by simp) rfl))) (wp_value (v := .pointer (some ⟨w.heap.size, 0, none⟩)) ?_ rfl)
                    go_simp
                  · cases ho
                    have d22 := ev (show a1.eval (.tmp 36) = .pointer (some ⟨w.heap.size, 0, none⟩) from hk.done 22 _ 36 rfl rfl (hdep ⟨22, .data⟩ (by simp) rfl))
                    refine wpOp_of rfl (wanted_of (t := 35) rfl rfl (hk.done 21 _ 35 rfl rfl (hdep ⟨21, .guard⟩ (by simp) rfl))) (wp_value (v := .slice (some ⟨b0, o0, none⟩) n1 c1) ?_ rfl)
                    go_simp
                  · cases ho
                    refine wpOp_of rfl (wanted_of (t := 35) rfl rfl (hk.done 21 _ 35 rfl rfl (hdep ⟨21, .guard⟩ (by simp) rfl))) (wp_value (v := .int .i64 k) ?_ rfl)
                    simp [execOp, e3, Act.eval]
                  · cases ho
                    have d24 := ev (show a1.eval (.tmp 38) = .int .i64 k from hk.done 24 _ 38 rfl rfl (hdep ⟨24, .data⟩ (by simp) rfl))
                    refine wpOp_of rfl (wanted_of (t := 35) rfl rfl (hk.done 21 _ 35 rfl rfl (hdep ⟨21, .guard⟩ (by simp) rfl))) (wp_value (v := .int .i64 ((k : Int) - 1)) ?_ rfl)
                    go_simp
                    all_goals (have hh := HG.out; rw [IntKind.wrap_i64]; omega)
                  · cases ho
                    have d23 := ev (show a1.eval (.tmp 37) = .slice (some ⟨b0, o0, none⟩) n1 c1 from hk.done 23 _ 37 rfl rfl (hdep ⟨23, .data⟩ (by simp) rfl))
                    have d25 := ev (show a1.eval (.tmp 39) = .int .i64 ((k : Int) - 1) from hk.done 25 _ 39 rfl rfl (hdep ⟨25, .data⟩ (by simp) rfl))
                    refine wpOp_of rfl (wanted_of (t := 35) rfl rfl (hk.done 21 _ 35 rfl rfl (hdep ⟨21, .guard⟩ (by simp) rfl))) (wp_value (v := .pointer (some ⟨b0, o0 + (k - 1) * 2, none⟩)) ?_ rfl)
                    go_simp
                    all_goals (intro hbad; exfalso; have hh := HG.out; omega)
                  · cases ho
                    have d26 := ev (show a1.eval (.tmp 40) = .pointer (some ⟨b0, o0 + (k - 1) * 2, none⟩) from hk.done 26 _ 40 rfl rfl (hdep ⟨26, .data⟩ (by simp) rfl))
                    refine wpOp_of rfl (wanted_of (t := 35) rfl rfl (hk.done 21 _ 35 rfl rfl (hdep ⟨21, .guard⟩ (by simp) rfl))) (wp_value (v := .pointer (some ⟨b0, o0 + (k - 1) * 2, none⟩)) ?_ rfl)
                    go_simp
                  · cases ho
                    have d27 := ev (show a1.eval (.tmp 41) = .pointer (some ⟨b0, o0 + (k - 1) * 2, none⟩) from hk.done 27 _ 41 rfl rfl (hdep ⟨27, .data⟩ (by simp) rfl))
                    refine wpOp_of rfl (wanted_of (t := 35) rfl rfl (hk.done 21 _ 35 rfl rfl (hdep ⟨21, .guard⟩ (by simp) rfl))) (wp_value (v := .string s) ?_ rfl)
                    go_simp
                  · cases ho
                    refine wpOp_of rfl (wanted_of (t := 35) rfl rfl (hk.done 21 _ 35 rfl rfl (hdep ⟨21, .guard⟩ (by simp) rfl))) (wp_value (v := .pointer (some ⟨w.heap.size, 0, none⟩)) ?_ rfl)
                    go_simp
                  · cases ho
                    have d29 := ev (show a1.eval (.tmp 43) = .pointer (some ⟨w.heap.size, 0, none⟩) from hk.done 29 _ 43 rfl rfl (hdep ⟨29, .data⟩ (by simp) rfl))
                    refine wpOp_of rfl (wanted_of (t := 35) rfl rfl (hk.done 21 _ 35 rfl rfl (hdep ⟨21, .guard⟩ (by simp) rfl))) (wp_value (v := .slice (some ⟨b0, o0, none⟩) n1 c1) ?_ rfl)
                    go_simp
                  · cases ho
                    refine wpOp_of rfl (wanted_of (t := 35) rfl rfl (hk.done 21 _ 35 rfl rfl (hdep ⟨21, .guard⟩ (by simp) rfl))) (wp_value (v := .int .i64 k) ?_ rfl)
                    simp [execOp, e3, Act.eval]
                  · cases ho
                    have d30 := ev (show a1.eval (.tmp 44) = .slice (some ⟨b0, o0, none⟩) n1 c1 from hk.done 30 _ 44 rfl rfl (hdep ⟨30, .data⟩ (by simp) rfl))
                    have d31 := ev (show a1.eval (.tmp 45) = .int .i64 k from hk.done 31 _ 45 rfl rfl (hdep ⟨31, .data⟩ (by simp) rfl))
                    refine wpOp_of rfl (wanted_of (t := 35) rfl rfl (hk.done 21 _ 35 rfl rfl (hdep ⟨21, .guard⟩ (by simp) rfl))) (wp_value (v := .pointer (some ⟨b0, o0 + k * 2, none⟩)) ?_ rfl)
                    go_simp
                  · cases ho
                    have d32 := ev (show a1.eval (.tmp 46) = .pointer (some ⟨b0, o0 + k * 2, none⟩) from hk.done 32 _ 46 rfl rfl (hdep ⟨32, .data⟩ (by simp) rfl))
                    refine wpOp_of rfl (wanted_of (t := 35) rfl rfl (hk.done 21 _ 35 rfl rfl (hdep ⟨21, .guard⟩ (by simp) rfl))) (wp_value (v := .pointer (some ⟨b0, o0 + k * 2, none⟩)) ?_ rfl)
                    go_simp
                  · cases ho
                    have d33 := ev (show a1.eval (.tmp 47) = .pointer (some ⟨b0, o0 + k * 2, none⟩) from hk.done 33 _ 47 rfl rfl (hdep ⟨33, .data⟩ (by simp) rfl))
                    refine wpOp_of rfl (wanted_of (t := 35) rfl rfl (hk.done 21 _ 35 rfl rfl (hdep ⟨21, .guard⟩ (by simp) rfl))) (wp_value (v := .string t) ?_ rfl)
                    go_simp
                  · cases ho
                    have d28 := ev (show a1.eval (.tmp 42) = .string s from hk.done 28 _ 42 rfl rfl (hdep ⟨28, .data⟩ (by simp) rfl))
                    have d34 := ev (show a1.eval (.tmp 48) = .string t from hk.done 34 _ 48 rfl rfl (hdep ⟨34, .data⟩ (by simp) rfl))
                    refine wpOp_of rfl (wanted_of (t := 35) rfl rfl (hk.done 21 _ 35 rfl rfl (hdep ⟨21, .guard⟩ (by simp) rfl))) (wp_value (v := .bool false) ?_ rfl)
                    go_simp
                  · cases ho
                    have d21 := ev (show a1.eval (.tmp 35) = .bool true from hk.done 21 _ 35 rfl rfl (hdep ⟨21, .data⟩ (by simp) rfl))
                    have d35 := ev (show a1.eval (.tmp 49) = .bool false from hk.done 35 _ 49 rfl rfl (hdep ⟨35, .data⟩ (by simp) rfl))
                    refine wpOp_of rfl (wanted_of (t := 32) rfl rfl (hk.done 18 _ 32 rfl rfl (hdep ⟨18, .guard⟩ (by simp) rfl))) (wp_value (v := .bool false) ?_ rfl)
                    go_simp
                  · cases ho
                    have d18 := ev (show a1.eval (.tmp 32) = .bool false from hk.done 18 _ 32 rfl rfl (hdep ⟨18, .data⟩ (by simp) rfl))
                    have d36 := ev (show a1.eval (.tmp 50) = .bool false from hk.done 36 _ 50 rfl rfl (hdep ⟨36, .data⟩ (by simp) rfl))
                    refine wpOp_of rfl rfl (wp_value (v := .bool false) ?_ rfl)
                    go_simp
                case fin4e =>
                  intro listed a2 w2 hk hall
                  have h51 : a2.eval (.tmp 51) = .bool false := hk.done 37 _ 51 rfl rfl (hall 37 (by decide))
                  have hact := kept_all [14, 15, 16, 17, 18, 19, 20, 21, 22, 23, 24, 25, 26, 27, 28, 29, 30, 31, 32, 33, 34, 35, 36, 37, 38, 39, 40, 41, 42, 43, 44, 45, 46, 47, 48, 49, 50, 51] hk (by kernel_rfl)
                  have HB := Lib.hid hk.below
                  simp only [List.foldl_cons, List.foldl_nil, List.setIfInBounds_toArray, List.set_cons_succ, List.set_cons_zero] at hact
                  generalize a2.eval (.tmp 14) = u14 at hact
                  generalize a2.eval (.tmp 15) = u15 at hact
                  generalize a2.eval (.tmp 16) = u16 at hact
                  generalize a2.eval (.tmp 17) = u17 at hact
                  generalize a2.eval (.tmp 18) = u18 at hact
                  generalize a2.eval (.tmp 19) = u19 at hact
                  generalize a2.eval (.tmp 20) = u20 at hact
                  generalize a2.eval (.tmp 21) = u21 at hact
                  generalize a2.eval (.tmp 22) = u22 at hact
                  generalize a2.eval (.tmp 23) = u23 at hact
                  generalize a2.eval (.tmp 24) = u24 at hact
                  generalize a2.eval (.tmp 25) = u25 at hact
                  generalize a2.eval (.tmp 26) = u26 at hact
                  generalize a2.eval (.tmp 27) = u27 at hact
                  generalize a2.eval (.tmp 28) = u28 at hact
                  generalize a2.eval (.tmp 29) = u29 at hact
                  generalize a2.eval (.tmp 30) = u30 at hact
                  generalize a2.eval (.tmp 31) = u31 at hact
                  generalize a2.eval (.tmp 32) = u32 at hact
                  generalize a2.eval (.tmp 33) = u33 at hact
                  generalize a2.eval (.tmp 34) = u34 at hact
                  generalize a2.eval (.tmp 35) = u35 at hact
                  generalize a2.eval (.tmp 36) = u36 at hact
                  generalize a2.eval (.tmp 37) = u37 at hact
                  generalize a2.eval (.tmp 38) = u38 at hact
                  generalize a2.eval (.tmp 39) = u39 at hact
                  generalize a2.eval (.tmp 40) = u40 at hact
                  generalize a2.eval (.tmp 41) = u41 at hact
                  generalize a2.eval (.tmp 42) = u42 at hact
                  generalize a2.eval (.tmp 43) = u43 at hact
                  generalize a2.eval (.tmp 44) = u44 at hact
                  generalize a2.eval (.tmp 45) = u45 at hact
                  generalize a2.eval (.tmp 46) = u46 at hact
                  generalize a2.eval (.tmp 47) = u47 at hact
                  generalize a2.eval (.tmp 48) = u48 at hact
                  generalize a2.eval (.tmp 49) = u49 at hact
                  generalize a2.eval (.tmp 50) = u50 at hact
                  generalize a2.eval (.tmp 51) = u51 at hact h51
                  rw [hact]
                  clear hact
                  go_wp2
                  go_meet
                  first | exact ⟨h51, HB.out⟩ | exact ⟨rfl, HB.out⟩
      case rest =>
      obtain ⟨rfl, hbx⟩ := hcut
      have HB2 := Lib.hid (step' HB.out hbx HB.out.size)
      clear hbx k0 k1 k2 hc hd
      cases bd with
      | true =>
        go_wp2_with fail
        go_ret
        exact ⟨retb (HNx.out (by first | trivial | rfl)).symm, HB0.out.trans (HB2.out.mono (by omega))⟩
      | false =>
        go_wp2_with fail
        go_roundw
        case rel => exact ⟨k + 1, by omega, by go_num, HYx.out (by first | trivial | rfl), HB2.out⟩
        case measure => simp [intOf]; omega
    · obtain rfl : k = n1 := by omega
      obtain ⟨N1, rfl⟩ : ∃ y, y = k := ⟨k, rfl⟩
      have HRP : Hid ((List.range N1).all (prAt ps) = true) := HR.out
      obtain ⟨wl, rfl⟩ : ∃ y, y = wr := ⟨wr, rfl⟩
      have HBl : Hid (Below W0.heap.size W0 wl) := HB.out
      clear HR HB hzw hwr
      go_wp2_with fail
      clear k0 k1 k2
      go_loopw [4] (fun i wr => ∃ k : Nat, k ≤ n2 ∧ i = .int .i64 k ∧ Hid ((List.range k).all (riseAt ks) = true) ∧ Hid (Below W0.heap.size W0 wr)) (fun i _ => n2 - (intOf i).toNat)
      case atStart => exact ⟨0, Nat.zero_le _, rfl, rfl, HBl.out⟩
      case round =>
        obtain ⟨k, hk, rfl, HR, HB⟩ := hrel
        obtain ⟨k0, k1, k2, -⟩ := (HF.out.below HB.out hz0).cells
        have hwr := HB.out.size
        have hzw : w.heap.size < wr.heap.size := by omega
        by_cases hlt : k < n2
        · have hlt' : k < ks.length := by rw [HL2.out]; exact hlt
          obtain ⟨b0, o0, rfl, hb1, hc0⟩ := HK0.out k hlt'
          have hbw : b0 < wr.heap.size := by omega
          have hc := (HB.out.cell (p := ⟨b0, o0 + k, none⟩) hb1).trans hc0
          have HS : Hid (0 < k → wr.cell? ⟨b0, o0 + (k - 1), none⟩ = some (.string (text (ks.getD (k - 1) [])))) := fun h0 => by
            have hl := HL2.out
            obtain ⟨b', o', e, hb', hc'⟩ := HK0.out (k - 1) (by omega)
            injection e with e
            injection e with e1 e2
            subst e1 e2
            rw [getD_at _ _ (k - 1) (by omega)]
            exact (HB.out.cell (p := ⟨b0, o0 + (k - 1), none⟩) hb').trans hc'
          have HE : Hid (riseAt ks k = (keyB ks[k] && (decide (k = 0) || Op.bytesLess (text (ks.getD (k - 1) [])).toList (text ks[k]).toList))) := by
            show _ = _
            unfold riseAt
            rw [getD_at ks _ k hlt', text_toList, text_toList]; rfl
          have HK := Lib.hid (rkey_any ks[k])
          obtain ⟨t, ht⟩ : ∃ t, t = text ks[k] := ⟨_, rfl⟩
          obtain ⟨s, hs⟩ : ∃ t, t = text (ks.getD (k - 1) []) := ⟨_, rfl⟩
          obtain ⟨x, hx⟩ : ∃ x, x = keyB ks[k] := ⟨_, rfl⟩
          rw [← ht] at hc
          rw [← hs] at HS
          rw [← ht, ← hx] at HK
          rw [← ht, ← hs, ← hx] at HE
          obtain ⟨bd, hbd⟩ : ∃ b, b = !riseAt ks k := ⟨_, rfl⟩
          have HBd : Hid (bd = !(x && (decide (k = 0) || Op.bytesLess s.toList t.toList))) := by show _ = _; rw [hbd, HE.out]
          have HNx : Hid (bd = true → mb = false) := fun hb => HNoK.out k hlt (by rw [hbd] at hb; simpa using hb)
          have HYx : Hid (bd = false → (List.range (k + 1)).all (riseAt ks) = true) := fun hb => by rw [all_range_succ, HR.out]; rw [hbd] at hb; simpa using hb
          have hki : (k : Int) < n2 := by omega
          clear ht hs hx hbd HE hc0 hlt'
          go_upto_region 9 with fail
          go_cut [83] from 59 to 83 (fun s83 wx => s83 = .bool bd ∧ Below wr.heap.size wr wx)
          case first =>
            cases x with
            | false =>
              obtain rfl : bd = true := by rw [HBd.out]; rfl
              refine wp_region_by (by kernel_rfl) (Phi [.val (.pointer (some ⟨w.heap.size, 1, none⟩)), .val (.slice (some ⟨b0, o0, none⟩) n2 c2), .val (.int .i64 k), .val (.pointer (some ⟨b0, o0 + k, none⟩)), .val (.string t), .val (.bool false), .val (.bool true), .val (.bool true), .val (undef), .val (undef), .val (undef), .val (undef), .val (undef), .val (undef), .val (undef), .val (undef), .val (undef), .val (undef), .val (undef), .val (undef), .val (undef), .val (undef), .val (undef), .val (undef), .val (.bool true)]) (phi_stab _) (by kernel_rfl) ?step9a ?fin9a
              case step9a =>
                intro i o listed a1 w2 ho hk hdep
                have hi : i < 25 := (Array.getElem?_eq_some_iff.1 ho).1
                have e1 := ev (show a1.eval (.tmp 1) = .pointer (some ⟨w.heap.size, 0, none⟩) from hk.frame 1 (frame_of (by kernel_rfl)))
                have e4 := ev (show a1.eval (.tmp 4) = .int .i64 k from hk.frame 4 (frame_of (by kernel_rfl)))
                have q0 := (hk.below.cell (p := ⟨w.heap.size, 1, none⟩) hzw).trans k1
                have qt := (hk.below.cell (p := ⟨b0, o0 + k, none⟩) hbw).trans hc
                have hii : i = 0 ∨ i = 1 ∨ i = 2 ∨ i = 3 ∨ i = 4 ∨ i = 5 ∨ i = 6 ∨ i = 7 ∨ i = 8 ∨ i = 9 ∨ i = 10 ∨ i = 11 ∨ i = 12 ∨ i = 13 ∨ i = 14 ∨ i = 15 ∨ i = 16 ∨ i = 17 ∨ i = 18 ∨ i = 19 ∨ i = 20 ∨ i = 21 ∨ i = 22 ∨ i = 23 ∨ i = 24 := by omega
                rcases hii with rfl | rfl | rfl | rfl | rfl | rfl | rfl | rfl | rfl | rfl | rfl | rfl | rfl | rfl | rfl | rfl | rfl | rfl | rfl | rfl | rfl | rfl | rfl | rfl | rfl
                · cases ho
                  refine wpOp_of rfl rfl (wp_value (v := .pointer (some ⟨w.heap.size, 1, none⟩)) ?_ rfl)
                  go_simp
                · cases ho
                  have d0 := ev (show a1.eval (.tmp 59) = .pointer (some ⟨w.heap.size, 1, none⟩) from hk.done 0 _ 59 rfl rfl (hdep ⟨0, .data⟩ (by simp) rfl))
                  refine wpOp_of rfl rfl (wp_value (v := .slice (some ⟨b0, o0, none⟩) n2 c2) ?_ rfl)
                  go_simp
                · cases ho
                  refine wpOp_of rfl rfl (wp_value (v := .int .i64 k) ?_ rfl)
                  simp [execOp, e4, Act.eval]
                · cases ho
                  have d1 := ev (show a1.eval (.tmp 60) = .slice (some ⟨b0, o0, none⟩) n2 c2 from hk.done 1 _ 60 rfl rfl (hdep ⟨1, .data⟩ (by simp) rfl))
                  have d2 := ev (show a1.eval (.tmp 61) = .int .i64 k from hk.done 2 _ 61 rfl rfl (hdep ⟨2, .data⟩ (by simp) rfl))
                  refine wpOp_of rfl rfl (wp_value (v := .pointer (some ⟨b0, o0 + k, none⟩)) ?_ rfl)
                  go_simp
                · cases ho
                  have d3 := ev (show a1.eval (.tmp 62) = .pointer (some ⟨b0, o0 + k, none⟩) from hk.done 3 _ 62 rfl rfl (hdep ⟨3, .data⟩ (by simp) rfl))
                  refine wpOp_of rfl rfl (wp_value (v := .string t) ?_ rfl)
                  go_simp
                · cases ho
                  have d4 := ev (show a1.eval (.tmp 63) = .string t from hk.done 4 _ 63 rfl rfl (hdep ⟨4, .data⟩ (by simp) rfl))
                  refine wpOp_of rfl rfl ?_
                  go_simp
                  refine (HK.out w2).mono ?_
                  rintro e w3 ⟨rfl, rfl⟩
                  exact ⟨_, rfl, rfl, Below.refl _ _⟩
                · cases ho
                  have d5 := ev (show a1.eval (.tmp 64) = .bool false from hk.done 5 _ 64 rfl rfl (hdep ⟨5, .data⟩ (by simp) rfl))
                  refine wpOp_of rfl rfl (wp_value (v := .bool true) ?_ rfl)
                  go_simp
                · cases ho
                  have d6 := ev (show a1.eval (.tmp 65) = .bool true from hk.done 6 _ 65 rfl rfl (hdep ⟨6, .data⟩ (by simp) rfl))
                  refine wpOp_of rfl rfl (wp_value (v := .bool true) ?_ rfl)
                  simp [execOp, d6, Act.eval]
                · cases ho
                  exact wpOp_skip rfl (unwanted_of (t := 66) rfl rfl (hk.done 7 _ 66 rfl rfl (hdep ⟨7, .guard⟩ (by simp) rfl)) (by decide)) ⟨undef, rfl, rfl, Below.refl _ _⟩
                · cases ho
                  exact wpOp_skip rfl (unwanted_of (t := 66) rfl rfl (hk.done 7 _ 66 rfl rfl (hdep ⟨7, .guard⟩ (by simp) rfl)) (by decide)) ⟨undef, rfl, rfl, Below.refl _ _⟩
                · cases ho
                  exact wpOp_skip rfl (unwanted_of (t := 66) rfl rfl (hk.done 7 _ 66 rfl rfl (hdep ⟨7, .guard⟩ (by simp) rfl)) (by decide)) ⟨undef, rfl, rfl, Below.refl _ _⟩
                · cases ho
                  exact wpOp_skip rfl (unwanted_undef (t := 69) rfl rfl (hk.done 10 _ 69 rfl rfl (hdep ⟨10, .guard⟩ (by simp) rfl))) ⟨undef, rfl, rfl, Below.refl _ _⟩
                · cases ho
                  exact wpOp_skip rfl (unwanted_undef (t := 69) rfl rfl (hk.done 10 _ 69 rfl rfl (hdep ⟨10, .guard⟩ (by simp) rfl))) ⟨undef, rfl, rfl, Below.refl _ _⟩
                · cases ho
                  exact wpOp_skip rfl (unwanted_undef (t := 69) rfl rfl (hk.done 10 _ 69 rfl rfl (hdep ⟨10, .guard⟩ (by simp) rfl))) ⟨undef, rfl, rfl, Below.refl _ _⟩
                · cases ho
                  exact wpOp_skip rfl (unwanted_undef (t := 69) rfl rfl (hk.done 10 _ 69 rfl rfl (hdep ⟨10, .guard⟩ (by simp) rfl))) ⟨undef, rfl, rfl, Below.refl _ _⟩
                · cases ho
                  exact wpOp_skip rfl (unwanted_undef (t := 69) rfl rfl (hk.done 10 _ 69 rfl rfl (hdep ⟨10, .guard⟩ (by simp) rfl))) ⟨undef, rfl, rfl, Below.refl _ _⟩
                · cases ho
                  exact wpOp_skip rfl (unwanted_undef (t := 69) rfl rfl (hk.done 10 _ 69 rfl rfl (hdep ⟨10, .guard⟩ (by simp) rfl))) ⟨undef, rfl, rfl, Below.refl _ _⟩
                · cases ho
                  exact wpOp_skip rfl (unwanted_undef (t := 69) rfl rfl (hk.done 10 _ 69 rfl rfl (hdep ⟨10, .guard⟩ (by simp) rfl))) ⟨undef, rfl, rfl, Below.refl _ _⟩
                · cases ho
                  exact wpOp_skip rfl (unwanted_undef (t := 69) rfl rfl (hk.done 10 _ 69 rfl rfl (hdep ⟨10, .guard⟩ (by simp) rfl))) ⟨undef, rfl, rfl, Below.refl _ _⟩
                · cases ho
                  exact wpOp_skip rfl (unwanted_undef (t := 69) rfl rfl (hk.done 10 _ 69 rfl rfl (hdep ⟨10, .guard⟩ (by simp) rfl))) ⟨undef, rfl, rfl, Below.refl _ _⟩
                · cases ho
                  exact wpOp_skip rfl (unwanted_undef (t := 69) rfl rfl (hk.done 10 _ 69 rfl rfl (hdep ⟨10, .guard⟩ (by simp) rfl))) ⟨undef, rfl, rfl, Below.refl _ _⟩
                · cases ho
                  exact wpOp_skip rfl (unwanted_undef (t := 69) rfl rfl (hk.done 10 _ 69 rfl rfl (hdep ⟨10, .guard⟩ (by simp) rfl))) ⟨undef, rfl, rfl, Below.refl _ _⟩
                · cases ho
                  exact wpOp_skip rfl (unwanted_undef (t := 69) rfl rfl (hk.done 10 _ 69 rfl rfl (hdep ⟨10, .guard⟩ (by simp) rfl))) ⟨undef, rfl, rfl, Below.refl _ _⟩
                · cases ho
                  exact wpOp_skip rfl (unwanted_of (t := 66) rfl rfl (hk.done 7 _ 66 rfl rfl (hdep ⟨7, .guard⟩ (by simp) rfl)) (by decide)) ⟨undef, rfl, rfl, Below.refl _ _⟩
                · cases ho
                  have d7 := ev (show a1.eval (.tmp 66) = .bool true from hk.done 7 _ 66 rfl rfl (hdep ⟨7, .data⟩ (by simp) rfl))
                  have d23 := ev (show a1.eval (.tmp 82) = undef from hk.done 23 _ 82 rfl rfl (hdep ⟨23, .data⟩ (by simp) rfl))
                  refine wpOp_of rfl rfl (wp_value (v := .bool true) ?_ rfl)
                  go_simp
              case fin9a =>
                intro listed a2 w2 hk hall
                have h83 : a2.eval (.tmp 83) = .bool true := hk.done 24 _ 83 rfl rfl (hall 24 (by decide))
                have hact := kept_all [59, 60, 61, 62, 63, 64, 65, 66, 67, 68, 69, 70, 71, 72, 73, 74, 75, 76, 77, 78, 79, 80, 81, 82, 83] hk (by kernel_rfl)
                have HB := Lib.hid hk.below
                simp only [List.foldl_cons, List.foldl_nil, List.setIfInBounds_toArray, List.set_cons_succ, List.set_cons_zero] at hact
                generalize a2.eval (.tmp 59) = u59 at hact
                generalize a2.eval (.tmp 60) = u60 at hact
                generalize a2.eval (.tmp 61) = u61 at hact
                generalize a2.eval (.tmp 62) = u62 at hact
                generalize a2.eval (.tmp 63) = u63 at hact
                generalize a2.eval (.tmp 64) = u64 at hact
                generalize a2.eval (.tmp 65) = u65 at hact
                generalize a2.eval (.tmp 66) = u66 at hact
                generalize a2.eval (.tmp 67) = u67 at hact
                generalize a2.eval (.tmp 68) = u68 at hact
                generalize a2.eval (.tmp 69) = u69 at hact
                generalize a2.eval (.tmp 70) = u70 at hact
                generalize a2.eval (.tmp 71) = u71 at hact
                generalize a2.eval (.tmp 72) = u72 at hact
                generalize a2.eval (.tmp 73) = u73 at hact
                generalize a2.eval (.tmp 74) = u74 at hact
                generalize a2.eval (.tmp 75) = u75 at hact
                generalize a2.eval (.tmp 76) = u76 at hact
                generalize a2.eval (.tmp 77) = u77 at hact
                generalize a2.eval (.tmp 78) = u78 at hact
                generalize a2.eval (.tmp 79) = u79 at hact
                generalize a2.eval (.tmp 80) = u80 at hact
                generalize a2.eval (.tmp 81) = u81 at hact
                generalize a2.eval (.tmp 82) = u82 at hact
                generalize a2.eval (.tmp 83) = u83 at hact h83
                rw [hact]
                clear hact
                go_wp2
                go_meet
                first | exact ⟨h83, HB.out⟩ | exact ⟨rfl, HB.out⟩
            | true =>
              by_cases h0 : k = 0
              · obtain rfl : bd = false := by rw [HBd.out, decide_eq_true h0]; rfl
                have H0 := Lib.hid h0
                clear h0
                refine wp_region_by (by kernel_rfl) (Phi [.val (.pointer (some ⟨w.heap.size, 1, none⟩)), .val (.slice (some ⟨b0, o0, none⟩) n2 c2), .val (.int .i64 k), .val (.pointer (some ⟨b0, o0 + k, none⟩)), .val (.string t), .val (.bool true), .val (.bool false), .val (.bool false), .val (.int .i64 k), .val (.bool false), .val (.bool false), .val (undef), .val (undef), .val (undef), .val (undef), .val (undef), .val (undef), .val (undef), .val (undef), .val (undef), .val (undef), .val (undef), .val (undef), .val (.bool false), .val (.bool false)]) (phi_stab _) (by kernel_rfl) ?step9b ?fin9b
                case step9b =>
                  intro i o listed a1 w2 ho hk hdep
                  have hi : i < 25 := (Array.getElem?_eq_some_iff.1 ho).1
                  have e1 := ev (show a1.eval (.tmp 1) = .pointer (some ⟨w.heap.size, 0, none⟩) from hk.frame 1 (frame_of (by kernel_rfl)))
                  have e4 := ev (show a1.eval (.tmp 4) = .int .i64 k from hk.frame 4 (frame_of (by kernel_rfl)))
                  have q0 := (hk.below.cell (p := ⟨w.heap.size, 1, none⟩) hzw).trans k1
                  have qt := (hk.below.cell (p := ⟨b0, o0 + k, none⟩) hbw).trans hc
                  have hii : i = 0 ∨ i = 1 ∨ i = 2 ∨ i = 3 ∨ i = 4 ∨ i = 5 ∨ i = 6 ∨ i = 7 ∨ i = 8 ∨ i = 9 ∨ i = 10 ∨ i = 11 ∨ i = 12 ∨ i = 13 ∨ i = 14 ∨ i = 15 ∨ i = 16 ∨ i = 17 ∨ i = 18 ∨ i = 19 ∨ i = 20 ∨ i = 21 ∨ i = 22 ∨ i = 23 ∨ i = 24 := by omega
                  rcases hii with rfl | rfl | rfl | rfl | rfl | rfl | rfl | rfl | rfl | rfl | rfl | rfl | rfl | rfl | rfl | rfl | rfl | rfl | rfl | rfl | rfl | rfl | rfl | rfl | rfl
                  · cases ho
                    refine wpOp_of rfl rfl (wp_value (v := .pointer (some ⟨w.heap.size, 1, none⟩)) ?_ rfl)
                    go_simp
                  · cases ho
                    have d0 := ev (show a1.eval (.tmp 59) = .pointer (some ⟨w.heap.size, 1, none⟩) from hk.done 0 _ 59 rfl rfl (hdep ⟨0, .data⟩ (by simp) rfl))
                    refine wpOp_of rfl rfl (wp_value (v := .slice (some ⟨b0, o0, none⟩) n2 c2) ?_ rfl)
                    go_simp
                  · cases ho
                    refine wpOp_of rfl rfl (wp_value (v := .int .i64 k) ?_ rfl)
                    simp [execOp, e4, Act.eval]
                  · cases ho
                    have d1 := ev (show a1.eval (.tmp 60) = .slice (some ⟨b0, o0, none⟩) n2 c2 from hk.done 1 _ 60 rfl rfl (hdep ⟨1, .data⟩ (by simp) rfl))
                    have d2 := ev (show a1.eval (.tmp 61) = .int .i64 k from hk.done 2 _ 61 rfl rfl (hdep ⟨2, .data⟩ (by simp) rfl))
                    refine wpOp_of rfl rfl (wp_value (v := .pointer (some ⟨b0, o0 + k, none⟩)) ?_ rfl)
                    go_simp
                  · cases ho
                    have d3 := ev (show a1.eval (.tmp 62) = .pointer (some ⟨b0, o0 + k, none⟩) from hk.done 3 _ 62 rfl rfl (hdep ⟨3, .data⟩ (by simp) rfl))
                    refine wpOp_of rfl rfl (wp_value (v := .string t) ?_ rfl)
                    go_simp
                  · cases ho
                    have d4 := ev (show a1.eval (.tmp 63) = .string t from hk.done 4 _ 63 rfl rfl (hdep ⟨4, .data⟩ (by simp) rfl))
                    refine wpOp_of rfl rfl ?_
                    go_simp
                    refine (HK.out w2).mono ?_
                    rintro e w3 ⟨rfl, rfl⟩
                    exact ⟨_, rfl, rfl, Below.refl _ _⟩
                  · cases ho
                    have d5 := ev (show a1.eval (.tmp 64) = .bool true from hk.done 5 _ 64 rfl rfl (hdep ⟨5, .data⟩ (by simp) rfl))
                    refine wpOp_of rfl rfl (wp_value (v := .bool false) ?_ rfl)
                    go_simp
                  · cases ho
                    have d6 := ev (show a1.eval (.tmp 65) = .bool false from hk.done 6 _ 65 rfl rfl (hdep ⟨6, .data⟩ (by simp) rfl))
                    refine wpOp_of rfl rfl (wp_value (v := .bool false) ?_ rfl)
                    simp [execOp, d6, Act.eval]
                  · cases ho
                    refine wpOp_of rfl (wanted_of (t := 66) rfl rfl (hk.done 7 _ 66 rfl rfl (hdep ⟨7, .guard⟩ (by simp) rfl))) (wp_value (v := .int .i64 k) ?_ rfl)
                    simp [execOp, e4, Act.eval]
                  · cases ho
                    have d8 := ev (show a1.eval (.tmp 67) = .int .i64 k from hk.done 8 _ 67 rfl rfl (hdep ⟨8, .data⟩ (by simp) rfl))
                    refine wpOp_of rfl (wanted_of (t := 66) rfl rfl (hk.done 7 _ 66 rfl rfl (hdep ⟨7, .guard⟩ (by simp) rfl))) (wp_value (v := .bool false) ?_ rfl)
                    go_simp
                    have hh := H0.out
                    omega
                  · cases ho
                    have d9 := ev (show a1.eval (.tmp 68) = .bool false from hk.done 9 _ 68 rfl rfl (hdep ⟨9, .data⟩ (by simp) rfl))
                    refine wpOp_of rfl (wanted_of (t := 66) rfl rfl (hk.done 7 _ 66 rfl rfl (hdep ⟨7, .guard⟩ (by simp) rfl))) (wp_value (v := .bool false) ?_ rfl)
                    simp [execOp, d9, Act.eval]
                  · cases ho
                    exact wpOp_skip rfl (unwanted_of (t := 69) rfl rfl (hk.done 10 _ 69 rfl rfl (hdep ⟨10, .guard⟩ (by simp) rfl)) (by decide)) ⟨undef, rfl, rfl, Below.refl _ _⟩
                  · cases ho
                    exact wpOp_skip rfl (unwanted_of (t := 69) rfl rfl (hk.done 10 _ 69 rfl rfl (hdep ⟨10, .guard⟩ (by simp) rfl)) (by decide)) ⟨undef, rfl, rfl, Below.refl _ _⟩
                  · cases ho
                    exact wpOp_skip rfl (unwanted_of (t := 69) rfl rfl (hk.done 10 _ 69 rfl rfl (hdep ⟨10, .guard⟩ (by simp) rfl)) (by decide)) ⟨undef, rfl, rfl, Below.refl _ _⟩
                  · cases ho
                    exact wpOp_skip rfl (unwanted_of (t := 69) rfl rfl (hk.done 10 _ 69 rfl rfl (hdep ⟨10, .guard⟩ (by simp) rfl)) (by decide)) ⟨undef, rfl, rfl, Below.refl _ _⟩
                  · cases ho
                    exact wpOp_skip rfl (unwanted_of (t := 69) rfl rfl (hk.done 10 _ 69 rfl rfl (hdep ⟨10, .guard⟩ (by simp) rfl)) (by decide)) ⟨undef, rfl, rfl, Below.refl _ _⟩
                  · cases ho
                    exact wpOp_skip rfl (unwanted_of (t := 69) rfl rfl (hk.done 10 _ 69 rfl rfl (hdep ⟨10, .guard⟩ (by simp) rfl)) (by decide)) ⟨undef, rfl, rfl, Below.refl _ _⟩
                  · cases ho
                    exact wpOp_skip rfl (unwanted_of (t := 69) rfl rfl (hk.done 10 _ 69 rfl rfl (hdep ⟨10, .guard⟩ (by simp) rfl)) (by decide)) ⟨undef, rfl, rfl, Below.refl _ _⟩
                  · cases ho
                    exact wpOp_skip rfl (unwanted_of (t := 69) rfl rfl (hk.done 10 _ 69 rfl rfl (hdep ⟨10, .guard⟩ (by simp) rfl)) (by decide)) ⟨undef, rfl, rfl, Below.refl _ _⟩
                  · cases ho
                    exact wpOp_skip rfl (unwanted_of (t := 69) rfl rfl (hk.done 10 _ 69 rfl rfl (hdep ⟨10, .guard⟩ (by simp) rfl)) (by decide)) ⟨undef, rfl, rfl, Below.refl _ _⟩
                  · cases ho
                    exact wpOp_skip rfl (unwanted_of (t := 69) rfl rfl (hk.done 10 _ 69 rfl rfl (hdep ⟨10, .guard⟩ (by simp) rfl)) (by decide)) ⟨undef, rfl, rfl, Below.refl _ _⟩
                  · cases ho
                    exact wpOp_skip rfl (unwanted_of (t := 69) rfl rfl (hk.done 10 _ 69 rfl rfl (hdep ⟨10, .guard⟩ (by simp) rfl)) (by decide)) ⟨undef, rfl, rfl, Below.refl _ _⟩
                  · cases ho
                    exact wpOp_skip rfl (unwanted_of (t := 69) rfl rfl (hk.done 10 _ 69 rfl rfl (hdep ⟨10, .guard⟩ (by simp) rfl)) (by decide)) ⟨undef, rfl, rfl, Below.refl _ _⟩
                  · cases ho
                    have d10 := ev (show a1.eval (.tmp 69) = .bool false from hk.done 10 _ 69 rfl rfl (hdep ⟨10, .data⟩ (by simp) rfl))
                    have d22 := ev (show a1.eval (.tmp 81) = undef from hk.done 22 _ 81 rfl rfl (hdep ⟨22, .data⟩ (by simp) rfl))
                    refine wpOp_of rfl (wanted_of (t := 66) rfl rfl (hk.done 7 _ 66 rfl rfl (hdep ⟨7, .guard⟩ (by simp) rfl))) (wp_value (v := .bool false) ?_ rfl)
                    go_simp
                  · cases ho
                    have d7 := ev (show a1.eval (.tmp 66) = .bool false from hk.done 7 _ 66 rfl rfl (hdep ⟨7, .data⟩ (by simp) rfl))
                    have d23 := ev (show a1.eval (.tmp 82) = .bool false from hk.done 23 _ 82 rfl rfl (hdep ⟨23, .data⟩ (by simp) rfl))
                    refine wpOp_of rfl rfl (wp_value (v := .bool false) ?_ rfl)
                    go_simp
                case fin9b =>
                  intro listed a2 w2 hk hall
                  have h83 : a2.eval (.tmp 83) = .bool false := hk.done 24 _ 83 rfl rfl (hall 24 (by decide))
                  have hact := kept_all [59, 60, 61, 62, 63, 64, 65, 66, 67, 68, 69, 70, 71, 72, 73, 74, 75, 76, 77, 78, 79, 80, 81, 82, 83] hk (by kernel_rfl)
                  have HB := Lib.hid hk.below
                  simp only [List.foldl_cons, List.foldl_nil, List.setIfInBounds_toArray, List.set_cons_succ, List.set_cons_zero] at hact
                  generalize a2.eval (.tmp 59) = u59 at hact
                  generalize a2.eval (.tmp 60) = u60 at hact
                  generalize a2.eval (.tmp 61) = u61 at hact
                  generalize a2.eval (.tmp 62) = u62 at hact
                  generalize a2.eval (.tmp 63) = u63 at hact
                  generalize a2.eval (.tmp 64) = u64 at hact
                  generalize a2.eval (.tmp 65) = u65 at hact
                  generalize a2.eval (.tmp 66) = u66 at hact
                  generalize a2.eval (.tmp 67) = u67 at hact
                  generalize a2.eval (.tmp 68) = u68 at hact
                  generalize a2.eval (.tmp 69) = u69 at hact
                  generalize a2.eval (.tmp 70) = u70 at hact
                  generalize a2.eval (.tmp 71) = u71 at hact
                  generalize a2.eval (.tmp 72) = u72 at hact
                  generalize a2.eval (.tmp 73) = u73 at hact
                  generalize a2.eval (.tmp 74) = u74 at hact
                  generalize a2.eval (.tmp 75) = u75 at hact
                  generalize a2.eval (.tmp 76) = u76 at hact
                  generalize a2.eval (.tmp 77) = u77 at hact
                  generalize a2.eval (.tmp 78) = u78 at hact
                  generalize a2.eval (.tmp 79) = u79 at hact
                  generalize a2.eval (.tmp 80) = u80 at hact
                  generalize a2.eval (.tmp 81) = u81 at hact
                  generalize a2.eval (.tmp 82) = u82 at hact
                  generalize a2.eval (.tmp 83) = u83 at hact h83
                  rw [hact]
                  clear hact
                  go_wp2
                  go_meet
                  first | exact ⟨h83, HB.out⟩ | exact ⟨rfl, HB.out⟩
              · have hg0 : (0 : Int) < k := by omega
                have HG := Lib.hid hg0
                have hs := HS.out (by omega)
                rw [decide_eq_false h0] at HBd
                clear hg0 h0
                cases hlt2 : Op.bytesLess s.toList t.toList with
                | false =>
                  have hge : ∀ W, (binOp .geq 9 (.string s) (.string t)).run Try.prog W = .ok (.bool true) W := fun W => by simp [binOp, Op.stringOp, hlt2]
                  obtain rfl : bd = true := by rw [HBd.out, hlt2]; rfl
                  refine wp_region_by (by kernel_rfl) (Phi [.val (.pointer (some ⟨w.heap.size, 1, none⟩)), .val (.slice (some ⟨b0, o0, none⟩) n2 c2), .val (.int .i64 k), .val (.pointer (some ⟨b0, o0 + k, none⟩)), .val (.string t), .val (.bool true), .val (.bool false), .val (.bool false), .val (.int .i64 k), .val (.bool true), .val (.bool true), .val (.pointer (some ⟨w.heap.size, 1, none⟩)), .val (.slice (some ⟨b0, o0, none⟩) n2 c2), .val (.int .i64 k), .val (.int .i64 ((k : Int) - 1)), .val (.pointer (some ⟨b0, o0 + (k - 1), none⟩)), .val (.string s), .val (.pointer (some ⟨w.heap.size, 1, none⟩)), .val (.slice (some ⟨b0, o0, none⟩) n2 c2), .val (.int .i64 k), .val (.pointer (some ⟨b0, o0 + k, none⟩)), .val (.string t), .val (.bool true), .val (.bool true), .val (.bool true)]) (phi_stab _) (by kernel_rfl) ?step9c ?fin9c
                  case step9c =>
                    intro i o listed a1 w2 ho hk hdep
                    have hi : i < 25 := (Array.getElem?_eq_some_iff.1 ho).1
                    have e1 := ev (show a1.eval (.tmp 1) = .pointer (some ⟨w.heap.size, 0, none⟩) from hk.frame 1 (frame_of (by kernel_rfl)))
                    have e4 := ev (show a1.eval (.tmp 4) = .int .i64 k from hk.frame 4 (frame_of (by kernel_rfl)))
                    have q0 := (hk.below.cell (p := ⟨w.heap.size, 1, none⟩) hzw).trans k1
                    have qt := (hk.below.cell (p := ⟨b0, o0 + k, none⟩) hbw).trans hc
                    have qs := (hk.below.cell (p := ⟨b0, o0 + (k - 1), none⟩) hbw).trans hs
                    have hii : i = 0 ∨ i = 1 ∨ i = 2 ∨ i = 3 ∨ i = 4 ∨ i = 5 ∨ i = 6 ∨ i = 7 ∨ i = 8 ∨ i = 9 ∨ i = 10 ∨ i = 11 ∨ i = 12 ∨ i = 13 ∨ i = 14 ∨ i = 15 ∨ i = 16 ∨ i = 17 ∨ i = 18 ∨ i = 19 ∨ i = 20 ∨ i = 21 ∨ i = 22 ∨ i = 23 ∨ i = 24 := by omega
                    rcases hii with rfl | rfl | rfl | rfl | rfl | rfl | rfl | rfl | rfl | rfl | rfl | rfl | rfl | rfl | rfl | rfl | rfl | rfl | rfl | rfl | rfl | rfl | rfl | rfl | rfl
                    · cases ho
                      refine wpOp_of rfl rfl (wp_value (v := .pointer (some ⟨w.heap.size, 1, none⟩)) ?_ rfl)
                      go_simp
                    · cases ho
                      have d0 := ev (show a1.eval (.tmp 59) = .pointer (some ⟨w.heap.size, 1, none⟩) from hk.done 0 _ 59 rfl rfl (hdep ⟨0, .data⟩ (by simp) rfl))
                      refine wpOp_of rfl rfl (wp_value (v := .slice (some ⟨b0, o0, none⟩) n2 c2) ?_ rfl)
                      go_simp
                    · cases ho
                      refine wpOp_of rfl rfl (wp_value (v := .int .i64 k) ?_ rfl)
                      simp [execOp, e4, Act.eval]
                    · cases ho
                      have d1 := ev (show a1.eval (.tmp 60) = .slice (some ⟨b0, o0, none⟩) n2 c2 from hk.done 1 _ 60 rfl rfl (hdep ⟨1, .data⟩ (by simp) rfl))
                      have d2 := ev (show a1.eval (.tmp 61) = .int .i64 k from hk.done 2 _ 61 rfl rfl (hdep ⟨2, .data⟩ (by simp) rfl))
                      refine wpOp_of rfl rfl (wp_value (v := .pointer (some ⟨b0, o0 + k, none⟩)) ?_ rfl)
                      go_simp
                    · cases ho
                      have d3 := ev (show a1.eval (.tmp 62) = .pointer (some ⟨b0, o0 + k, none⟩) from hk.done 3 _ 62 rfl rfl (hdep ⟨3, .data⟩ (by simp) rfl))
                      refine wpOp_of rfl rfl (wp_value (v := .string t) ?_ rfl)
                      go_simp
                    · cases ho
                      have d4 := ev (show a1.eval (.tmp 63) = .string t from hk.done 4 _ 63 rfl rfl (hdep ⟨4, .data⟩ (by simp) rfl))
                      refine wpOp_of rfl rfl ?_
                      go_simp
                      refine (HK.out w2).mono ?_
                      rintro e w3 ⟨rfl, rfl⟩
                      exact ⟨_, rfl, rfl, Below.refl _ _⟩
                    · cases ho
                      have d5 := ev (show a1.eval (.tmp 64) = .bool true from hk.done 5 _ 64 rfl rfl (hdep ⟨5, .data⟩ (by simp) rfl))
                      refine wpOp_of rfl rfl (wp_value (v := .bool false) ?_ rfl)
                      go_simp
                    · cases ho
                      have d6 := ev (show a1.eval (.tmp 65) = .bool false from hk.done 6 _ 65 rfl rfl (hdep ⟨6, .data⟩ (by simp) rfl))
                      refine wpOp_of rfl rfl (wp_value (v := .bool false) ?_ rfl)
                      simp [execOp, d6, Act.eval]
                    · cases ho
                      refine wpOp_of rfl (wanted_of (t := 66) rfl rfl (hk.done 7 _ 66 rfl rfl (hdep ⟨7, .guard⟩ (by simp) rfl))) (wp_value (v := .int .i64 k) ?_ rfl)
                      simp [execOp, e4, Act.eval]
                    · cases ho
                      have d8 := ev (show a1.eval (.tmp 67) = .int .i64 k from hk.done 8 _ 67 rfl rfl (hdep ⟨8, .data⟩ (by simp) rfl))
                      refine wpOp_of rfl (wanted_of (t := 66) rfl rfl (hk.done 7 _ 66 rfl rfl (hdep ⟨7, .guard⟩ (by simp) rfl))) (wp_value (v := .bool true) ?_ rfl)
                      go_simp
                      all_goals (have hh := HG.out; omega)
                    · cases ho
                      have d9 := ev (show a1.eval (.tmp 68) = .bool true from hk.done 9 _ 68 rfl rfl (hdep ⟨9, .data⟩ (by simp) rfl))
                      refine wpOp_of rfl (wanted_of (t := 66) rfl rfl (hk.done 7 _ 66 rfl rfl (hdep ⟨7, .guard⟩ (by simp) rfl))) (wp_value (v := .bool true) ?_ rfl)
                      simp [execOp, d9, Act.eval]
                    · cases ho
                      refine wpOp_of rfl (wanted_of (t := 69) rfl rfl (hk.done 10 _ 69 rfl rfl (hdep ⟨10, .guard⟩ (by simp) rfl))) (wp_value (v := .pointer (some ⟨w.heap.size, 1, none⟩)) ?_ rfl)
                      go_simp
                    · cases ho
                      have d11 := ev (show a1.eval (.tmp 70) = .pointer (some ⟨w.heap.size, 1, none⟩) from hk.done 11 _ 70 rfl rfl (hdep ⟨11, .data⟩ (by simp) rfl))
                      refine wpOp_of rfl (wanted_of (t := 69) rfl rfl (hk.done 10 _ 69 rfl rfl (hdep ⟨10, .guard⟩ (by simp) rfl))) (wp_value (v := .slice (some ⟨b0, o0, none⟩) n2 c2) ?_ rfl)
                      go_simp
                    · cases ho
                      refine wpOp_of rfl (wanted_of (t := 69) rfl rfl (hk.done 10 _ 69 rfl rfl (hdep ⟨10, .guard⟩ (by simp) rfl))) (wp_value (v := .int .i64 k) ?_ rfl)
                      simp [execOp, e4, Act.eval]
                    · cases ho
                      have d13 := ev (show a1.eval (.tmp 72) = .int .i64 k from hk.done 13 _ 72 rfl rfl (hdep ⟨13, .data⟩ (by simp) rfl))
                      refine wpOp_of rfl (wanted_of (t := 69) rfl rfl (hk.done 10 _ 69 rfl rfl (hdep ⟨10, .guard⟩ (by simp) rfl))) (wp_value (v := .int .i64 ((k : Int) - 1)) ?_ rfl)
                      go_simp
                      all_goals (have hh := HG.out; rw [IntKind.wrap_i64]; omega)
                    · cases ho
                      have d12 := ev (show a1.eval (.tmp 71) = .slice (some ⟨b0, o0, none⟩) n2 c2 from hk.done 12 _ 71 rfl rfl (hdep ⟨12, .data⟩ (by simp) rfl))
                      have d14 := ev (show a1.eval (.tmp 73) = .int .i64 ((k : Int) - 1) from hk.done 14 _ 73 rfl rfl (hdep ⟨14, .data⟩ (by simp) rfl))
                      refine wpOp_of rfl (wanted_of (t := 69) rfl rfl (hk.done 10 _ 69 rfl rfl (hdep ⟨10, .guard⟩ (by simp) rfl))) (wp_value (v := .pointer (some ⟨b0, o0 + (k - 1), none⟩)) ?_ rfl)
                      go_simp
                      all_goals (intro hbad; exfalso; have hh := HG.out; omega)
                    · cases ho
                      have d15 := ev (show a1.eval (.tmp 74) = .pointer (some ⟨b0, o0 + (k - 1), none⟩) from hk.done 15 _ 74 rfl rfl (hdep ⟨15, .data⟩ (by simp) rfl))
                      refine wpOp_of rfl (wanted_of (t := 69) rfl rfl (hk.done 10 _ 69 rfl rfl (hdep ⟨10, .guard⟩ (by simp) rfl))) (wp_value (v := .string s) ?_ rfl)
                      go_simp
                    · cases ho
                      refine wpOp_of rfl (wanted_of (t := 69) rfl rfl (hk.done 10 _ 69 rfl rfl (hdep ⟨10, .guard⟩ (by simp) rfl))) (wp_value (v := .pointer (some ⟨w.heap.size, 1, none⟩)) ?_ rfl)
                      go_simp
                    · cases ho
                      have d17 := ev (show a1.eval (.tmp 76) = .pointer (some ⟨w.heap.size, 1, none⟩) from hk.done 17 _ 76 rfl rfl (hdep ⟨17, .data⟩ (by simp) rfl))
                      refine wpOp_of rfl (wanted_of (t := 69) rfl rfl (hk.done 10 _ 69 rfl rfl (hdep ⟨10, .guard⟩ (by simp) rfl))) (wp_value (v := .slice (some ⟨b0, o0, none⟩) n2 c2) ?_ rfl)
                      go_simp
                    · cases ho
                      refine wpOp_of rfl (wanted_of (t := 69) rfl rfl (hk.done 10 _ 69 rfl rfl (hdep ⟨10, .guard⟩ (by simp) rfl))) (wp_value (v := .int .i64 k) ?_ rfl)
                      simp [execOp, e4, Act.eval]
                    · cases ho
                      have d18 := ev (show a1.eval (.tmp 77) = .slice (some ⟨b0, o0, none⟩) n2 c2 from hk.done 18 _ 77 rfl rfl (hdep ⟨18, .data⟩ (by simp) rfl))
                      have d19 := ev (show a1.eval (.tmp 78) = .int .i64 k from hk.done 19 _ 78 rfl rfl (hdep ⟨19, .data⟩ (by simp) rfl))
                      refine wpOp_of rfl (wanted_of (t := 69) rfl rfl (hk.done 10 _ 69 rfl rfl (hdep ⟨10, .guard⟩ (by simp) rfl))) (wp_value (v := .pointer (some ⟨b0, o0 + k, none⟩)) ?_ rfl)
                      go_simp
                    · cases ho
                      have d20 := ev (show a1.eval (.tmp 79) = .pointer (some ⟨b0, o0 + k, none⟩) from hk.done 20 _ 79 rfl rfl (hdep ⟨20, .data⟩ (by simp) rfl))
                      refine wpOp_of rfl (wanted_of (t := 69) rfl rfl (hk.done 10 _ 69 rfl rfl (hdep ⟨10, .guard⟩ (by simp) rfl))) (wp_value (v := .string t) ?_ rfl)
                      go_simp
                    · cases ho
                      have d16 := ev (show a1.eval (.tmp 75) = .string s from hk.done 16 _ 75 rfl rfl (hdep ⟨16, .data⟩ (by simp) rfl))
                      have d21 := ev (show a1.eval (.tmp 80) = .string t from hk.done 21 _ 80 rfl rfl (hdep ⟨21, .data⟩ (by simp) rfl))
                      refine wpOp_of rfl (wanted_of (t := 69) rfl rfl (hk.done 10 _ 69 rfl rfl (hdep ⟨10, .guard⟩ (by simp) rfl))) (wp_value (v := .bool true) ?_ rfl)
                      go_simp
                    · cases ho
                      have d10 := ev (show a1.eval (.tmp 69) = .bool true from hk.done 10 _ 69 rfl rfl (hdep ⟨10, .data⟩ (by simp) rfl))
                      have d22 := ev (show a1.eval (.tmp 81) = .bool true from hk.done 22 _ 81 rfl rfl (hdep ⟨22, .data⟩ (by simp) rfl))
                      refine wpOp_of rfl (wanted_of (t := 66) rfl rfl (hk.done 7 _ 66 rfl rfl (hdep ⟨7, .guard⟩ (by simp) rfl))) (wp_value (v := .bool true) ?_ rfl)
                      go_simp
                    · cases ho
                      have d7 := ev (show a1.eval (.tmp 66) = .bool false from hk.done 7 _ 66 rfl rfl (hdep ⟨7, .data⟩ (by simp) rfl))
                      have d23 := ev (show a1.eval (.tmp 82) = .bool true from hk.done 23 _ 82 rfl rfl (hdep ⟨23, .data⟩ (by simp) rfl))
                      refine wpOp_of rfl rfl (wp_value (v := .bool true) ?_ rfl)
                      go_simp
                  case fin9c =>
                    intro listed a2 w2 hk hall
                    have h83 : a2.eval (.tmp 83) = .bool true := hk.done 24 _ 83 rfl rfl (hall 24 (by decide))
                    have hact := kept_all [59, 60, 61, 62, 63, 64, 65, 66, 67, 68, 69, 70, 71, 72, 73, 74, 75, 76, 77, 78, 79, 80, 81, 82, 83] hk (by kernel_rfl)
                    have HB := Lib.hid hk.below
                    simp only [List.foldl_cons, List.foldl_nil, List.setIfInBounds_toArray, List.set_cons_succ, List.set_cons_zero] at hact
                    generalize a2.eval (.tmp 59) = u59 at hact
                    generalize a2.eval (.tmp 60) = u60 at hact
                    generalize a2.eval (.tmp 61) = u61 at hact
                    generalize a2.eval (.tmp 62) = u62 at hact
                    generalize a2.eval (.tmp 63) = u63 at hact
                    generalize a2.eval (.tmp 64) = u64 at hact
                    generalize a2.eval (.tmp 65) = u65 at hact
                    generalize a2.eval (.tmp 66) = u66 at hact
                    generalize a2.eval (.tmp 67) = u67 at hact
                    generalize a2.eval (.tmp 68) = u68 at hact
                    generalize a2.eval (.tmp 69) = u69 at hact
                    generalize a2.eval (.tmp 70) = u70 at hact
                    generalize a2.eval (.tmp 71) = u71 at hact
                    generalize a2.eval (.tmp 72) = u72 at hact
                    generalize a2.eval (.tmp 73) = u73 at hact
                    generalize a2.eval (.tmp 74) = u74 at hact
                    generalize a2.eval (.tmp 75) = u75 at hact
                    generalize a2.eval (.tmp 76) = u76 at hact
                    generalize a2.eval (.tmp 77) = u77 at hact
                    generalize a2.eval (.tmp 78) = u78 at hact
                    generalize a2.eval (.tmp 79) = u79 at hact
                    generalize a2.eval (.tmp 80) = u80 at hact
                    generalize a2.eval (.tmp 81) = u81 at hact
                    generalize a2.eval (.tmp 82) = u82 at hact
                    generalize a2.eval (.tmp 83) = u83 at hact h83
                    rw [hact]
                    clear hact
                    go_wp2
                    go_meet
                    first | exact ⟨h83, HB.out⟩ | exact ⟨rfl, HB.out⟩
                | true =>
                  have hge : ∀ W, (binOp .geq 9 (.string s) (.string t)).run Try.prog W = .ok (.bool false) W := fun W => by simp [binOp, Op.stringOp, hlt2]
                  obtain rfl : bd = false := by rw [HBd.out, hlt2]; rfl
                  refine wp_region_by (by kernel_rfl) (Phi [.val (.pointer (some ⟨w.heap.size, 1, none⟩)), .val (.slice (some ⟨b0, o0, none⟩) n2 c2), .val (.int .i64 k), .val (.pointer (some ⟨b0, o0 + k, none⟩)), .val (.string t), .val (.bool true), .val (.bool false), .val (.bool false), .val (.int .i64 k), .val (.bool true), .val (.bool true), .val (.pointer (some ⟨w.heap.size, 1, none⟩)), .val (.slice (some ⟨b0, o0, none⟩) n2 c2), .val (.int .i64 k), .val (.int .i64 ((k : Int) - 1)), .val (.pointer (some ⟨b0, o0 + (k - 1), none⟩)), .val (.string s), .val (.pointer (some ⟨w.heap.size, 1, none⟩)), .val (.slice (some ⟨b0, o0, none⟩) n2 c2), .val (.int .i64 k), .val (.pointer (some ⟨b0, o0 + k, none⟩)), .val (.string t), .val (.bool false), .val (.bool false), .val (.bool false)]) (phi_stab _) (by kernel_rfl) ?step9d ?fin9d
                  case step9d =>
                    intro i o listed a1 w2 ho hk hdep
                    have hi : i < 25 := (Array.getElem?_eq_some_iff.1 ho).1
                    have e1 := ev (show a1.eval (.tmp 1) = .pointer (some ⟨w.heap.size, 0, none⟩) from hk.frame 1 (frame_of (by kernel_rfl)))
                    have e4 := ev (show a1.eval (.tmp 4) = .int .i64 k from hk.frame 4 (frame_of (by kernel_rfl)))
                    have q0 := (hk.below.cell (p := ⟨w.heap.size, 1, none⟩) hzw).trans k1
                    have qt := (hk.below.cell (p := ⟨b0, o0 + k, none⟩) hbw).trans hc
                    have qs := (hk.below.cell (p := ⟨b0, o0 + (k - 1), none⟩) hbw).trans hs
                    have hii : i = 0 ∨ i = 1 ∨ i = 2 ∨ i = 3 ∨ i = 4 ∨ i = 5 ∨ i = 6 ∨ i = 7 ∨ i = 8 ∨ i = 9 ∨ i = 10 ∨ i = 11 ∨ i = 12 ∨ i = 13 ∨ i = 14 ∨ i = 15 ∨ i = 16 ∨ i = 17 ∨ i = 18 ∨ i = 19 ∨ i = 20 ∨ i = 21 ∨ i = 22 ∨ i = 23 ∨ i = 24 := by omega
                    rcases hii with rfl | rfl | rfl | rfl | rfl | rfl | rfl | rfl | rfl | rfl | rfl | rfl | rfl | rfl | rfl | rfl | rfl | rfl | rfl | rfl | rfl | rfl | rfl | rfl | rfl
                    · cases ho
                      refine wpOp_of rfl rfl (wp_value (v := .pointer (some ⟨w.heap.size, 1, none⟩)) ?_ rfl)
                      go_simp
                    · cases ho
                      have d0 := ev (show a1.eval (.tmp 59) = .pointer (some ⟨w.heap.size, 1, none⟩) from hk.done 0 _ 59 rfl rfl (hdep ⟨0, .data⟩ (by simp) rfl))
                      refine wpOp_of rfl rfl (wp_value (v := .slice (some ⟨b0, o0, none⟩) n2 c2) ?_ rfl)
                      go_simp
                    · cases ho
                      refine wpOp_of rfl rfl (wp_value (v := .int .i64 k) ?_ rfl)
                      simp [execOp, e4, Act.eval]
                    · cases ho
                      have d1 := ev (show a1.eval (.tmp 60) = .slice (some ⟨b0, o0, none⟩) n2 c2 from hk.done 1 _ 60 rfl rfl (hdep ⟨1, .data⟩ (by simp) rfl))
                      have d2 := ev (show a1.eval (.tmp 61) = .int .i64 k from hk.done 2 _ 61 rfl rfl (hdep ⟨2, .data⟩ (by simp) rfl))
                      refine wpOp_of rfl rfl (wp_value (v := .pointer (some ⟨b0, o0 + k, none⟩)) ?_ rfl)
                      go_simp
                    · cases ho
                      have d3 := ev (show a1.eval (.tmp 62) = .pointer (some ⟨b0, o0 + k, none⟩) from hk.done 3 _ 62 rfl rfl (hdep ⟨3, .data⟩ (by simp) rfl))
                      refine wpOp_of rfl rfl (wp_value (v := .string t) ?_ rfl)
                      go_simp
                    · cases ho
                      have d4 := ev (show a1.eval (.tmp 63) = .string t from hk.done 4 _ 63 rfl rfl (hdep ⟨4, .data⟩ (by simp) rfl))
                      refine wpOp_of rfl rfl ?_
                      go_simp
                      refine (HK.out w2).mono ?_
                      rintro e w3 ⟨rfl, rfl⟩
                      exact ⟨_, rfl, rfl, Below.refl _ _⟩
                    · cases ho
                      have d5 := ev (show a1.eval (.tmp 64) = .bool true from hk.done 5 _ 64 rfl rfl (hdep ⟨5, .data⟩ (by simp) rfl))
                      refine wpOp_of rfl rfl (wp_value (v := .bool false) ?_ rfl)
                      go_simp
                    · cases ho
                      have d6 := ev (show a1.eval (.tmp 65) = .bool false from hk.done 6 _ 65 rfl rfl (hdep ⟨6, .data⟩ (by simp) rfl))
                      refine wpOp_of rfl rfl (wp_value (v := .bool false) ?_ rfl)
                      simp [execOp, d6, Act.eval]
                    · cases ho
                      refine wpOp_of rfl (wanted_of (t := 66) rfl rfl (hk.done 7 _ 66 rfl rfl (hdep ⟨7, .guard⟩ (by simp) rfl))) (wp_value (v := .int .i64 k) ?_ rfl)
                      simp [execOp, e4, Act.eval]
                    · cases ho
                      have d8 := ev (show a1.eval (.tmp 67) = .int .i64 k from hk.done 8 _ 67 rfl rfl (hdep ⟨8, .data⟩ (by simp) rfl))
                      refine wpOp_of rfl (wanted_of (t := 66) rfl rfl (hk.done 7 _ 66 rfl rfl (hdep ⟨7, .guard⟩ (by simp) rfl))) (wp_value (v := .bool true) ?_ rfl)
                      go_simp
                      all_goals (have hh := HG.out; omega)
                    · cases ho
                      have d9 := ev (show a1.eval (.tmp 68) = .bool true from hk.done 9 _ 68 rfl rfl (hdep ⟨9, .data⟩ (by simp) rfl))
                      refine wpOp_of rfl (wanted_of (t := 66) rfl rfl (hk.done 7 _ 66 rfl rfl (hdep ⟨7, .guard⟩ (by simp) rfl))) (wp_value (v := .bool true) ?_ rfl)
                      simp [execOp, d9, Act.eval]
                    · cases ho
                      refine wpOp_of rfl (wanted_of (t := 69) rfl rfl (hk.done 10 _ 69 rfl rfl (hdep ⟨10, .guard⟩ (by simp) rfl))) (wp_value (v := .pointer (some ⟨w.heap.size, 1, none⟩)) ?_ rfl)
                      go_simp
                    · cases ho
                      have d11 := ev (show a1.eval (.tmp 70) = .pointer (some ⟨w.heap.size, 1, none⟩) from hk.done 11 _ 70 rfl rfl (hdep ⟨11, .data⟩ (by simp) rfl))
                      refine wpOp_of rfl (wanted_of (t := 69) rfl rfl (hk.done 10 _ 69 rfl rfl (hdep ⟨10, .guard⟩ (by simp) rfl))) (wp_value (v := .slice (some ⟨b0, o0, none⟩) n2 c2) ?_ rfl)
                      go_simp
                    · cases ho
                      refine wpOp_of rfl (wanted_of (t := 69) rfl rfl (hk.done 10 _ 69 rfl rfl (hdep ⟨10, .guard⟩ (by simp) rfl))) (wp_value (v := .int .i64 k) ?_ rfl)
                      simp [execOp, e4, Act.eval]
                    · cases ho
                      have d13 := ev (show a1.eval (.tmp 72) = .int .i64 k from hk.done 13 _ 72 rfl rfl (hdep ⟨13, .data⟩ (by simp) rfl))
                      refine wpOp_of rfl (wanted_of (t := 69) rfl rfl (hk.done 10 _ 69 rfl rfl (hdep ⟨10, .guard⟩ (by simp) rfl))) (wp_value (v := .int .i64 ((k : Int) - 1)) ?_ rfl)
                      go_simp
                      all_goals (have hh := HG.out; rw [IntKind.wrap_i64]; omega)
                    · cases ho
                      have d12 := ev (show a1.eval (.tmp 71) = .slice (some ⟨b0, o0, none⟩) n2 c2 from hk.done 12 _ 71 rfl rfl (hdep ⟨12, .data⟩ (by simp) rfl))
                      have d14 := ev (show a1.eval (.tmp 73) = .int .i64 ((k : Int) - 1) from hk.done 14 _ 73 rfl rfl (hdep ⟨14, .data⟩ (by simp) rfl))
                      refine wpOp_of rfl (wanted_of (t := 69) rfl rfl (hk.done 10 _ 69 rfl rfl (hdep ⟨10, .guard⟩ (by simp) rfl))) (wp_value (v := .pointer (some ⟨b0, o0 + (k - 1), none⟩)) ?_ rfl)
                      go_simp
                      all_goals (intro hbad; exfalso; have hh := HG.out; omega)
                    · cases ho
                      have d15 := ev (show a1.eval (.tmp 74) = .pointer (some ⟨b0, o0 + (k - 1), none⟩) from hk.done 15 _ 74 rfl rfl (hdep ⟨15, .data⟩ (by simp) rfl))
                      refine wpOp_of rfl (wanted_of (t := 69) rfl rfl (hk.done 10 _ 69 rfl rfl (hdep ⟨10, .guard⟩ (by simp) rfl))) (wp_value (v := .string s) ?_ rfl)
                      go_simp
                    · cases ho
                      refine wpOp_of rfl (wanted_of (t := 69) rfl rfl (hk.done 10 _ 69 rfl rfl (hdep ⟨10, .guard⟩ (by simp) rfl))) (wp_value (v := .pointer (some ⟨w.heap.size, 1, none⟩)) ?_ rfl)
                      go_simp
                    · cases ho
                      have d17 := ev (show a1.eval (.tmp 76) = .pointer (some ⟨w.heap.size, 1, none⟩) from hk.done 17 _ 76 rfl rfl (hdep ⟨17, .data⟩ (by simp) rfl))
                      refine wpOp_of rfl (wanted_of (t := 69) rfl rfl (hk.done 10 _ 69 rfl rfl (hdep ⟨10, .guard⟩ (by simp) rfl))) (wp_value (v := .slice (some ⟨b0, o0, none⟩) n2 c2) ?_ rfl)
                      go_simp
                    · cases ho
                      refine wpOp_of rfl (wanted_of (t := 69) rfl rfl (hk.done 10 _ 69 rfl rfl (hdep ⟨10, .guard⟩ (by simp) rfl))) (wp_value (v := .int .i64 k) ?_ rfl)
                      simp [execOp, e4, Act.eval]
                    · cases ho
                      have d18 := ev (show a1.eval (.tmp 77) = .slice (some ⟨b0, o0, none⟩) n2 c2 from hk.done 18 _ 77 rfl rfl (hdep ⟨18, .data⟩ (by simp) rfl))
                      have d19 := ev (show a1.eval (.tmp 78) = .int .i64 k from hk.done 19 _ 78 rfl rfl (hdep ⟨19, .data⟩ (by simp) rfl))
                      refine wpOp_of rfl (wanted_of (t := 69) rfl rfl (hk.done 10 _ 69 rfl rfl (hdep ⟨10, .guard⟩ (by simp) rfl))) (wp_value (v := .pointer (some ⟨b0, o0 + k, none⟩)) ?_ rfl)
                      go_simp
                    · cases ho
                      have d20 := ev (show a1.eval (.tmp 79) = .pointer (some ⟨b0, o0 + k, none⟩) from hk.done 20 _ 79 rfl rfl (hdep ⟨20, .data⟩ (by simp) rfl))
                      refine wpOp_of rfl (wanted_of (t := 69) rfl rfl (hk.done 10 _ 69 rfl rfl (hdep ⟨10, .guard⟩ (by simp) rfl))) (wp_value (v := .string t) ?_ rfl)
                      go_simp
                    · cases ho
                      have d16 := ev (show a1.eval (.tmp 75) = .string s from hk.done 16 _ 75 rfl rfl (hdep ⟨16, .data⟩ (by simp) rfl))
                      have d21 := ev (show a1.eval (.tmp 80) = .string t from hk.done 21 _ 80 rfl rfl (hdep ⟨21, .data⟩ (by simp) rfl))
                      refine wpOp_of rfl (wanted_of (t := 69) rfl rfl (hk.done 10 _ 69 rfl rfl (hdep ⟨10, .guard⟩ (by simp) rfl))) (wp_value (v := .bool false) ?_ rfl)
                      go_simp
                    · cases ho
                      have d10 := ev (show a1.eval (.tmp 69) = .bool true from hk.done 10 _ 69 rfl rfl (hdep ⟨10, .data⟩ (by simp) rfl))
                      have d22 := ev (show a1.eval (.tmp 81) = .bool false from hk.done 22 _ 81 rfl rfl (hdep ⟨22, .data⟩ (by simp) rfl))
                      refine wpOp_of rfl (wanted_of (t := 66) rfl rfl (hk.done 7 _ 66 rfl rfl (hdep ⟨7, .guard⟩ (by simp) rfl))) (wp_value (v := .bool false) ?_ rfl)
                      go_simp
                    · cases ho
                      have d7 := ev (show a1.eval (.tmp 66) = .bool false from hk.done 7 _ 66 rfl rfl (hdep ⟨7, .data⟩ (by simp) rfl))
                      have d23 := ev (show a1.eval (.tmp 82) = .bool false from hk.done 23 _ 82 rfl rfl (hdep ⟨23, .data⟩ (by simp) rfl))
                      refine wpOp_of rfl rfl (wp_value (v := .bool false) ?_ rfl)
                      go_simp
                  case fin9d =>
                    intro listed a2 w2 hk hall
                    have h83 : a2.eval (.tmp 83) = .bool false := hk.done 24 _ 83 rfl rfl (hall 24 (by decide))
                    have hact := kept_all [59, 60, 61, 62, 63, 64, 65, 66, 67, 68, 69, 70, 71, 72, 73, 74, 75, 76, 77, 78, 79, 80, 81, 82, 83] hk (by kernel_rfl)
                    have HB := Lib.hid hk.below
                    simp only [List.foldl_cons, List.foldl_nil, List.setIfInBounds_toArray, List.set_cons_succ, List.set_cons_zero] at hact
                    generalize a2.eval (.tmp 59) = u59 at hact
                    generalize a2.eval (.tmp 60) = u60 at hact
                    generalize a2.eval (.tmp 61) = u61 at hact
                    generalize a2.eval (.tmp 62) = u62 at hact
                    generalize a2.eval (.tmp 63) = u63 at hact
                    generalize a2.eval (.tmp 64) = u64 at hact
                    generalize a2.eval (.tmp 65) = u65 at hact
                    generalize a2.eval (.tmp 66) = u66 at hact
                    generalize a2.eval (.tmp 67) = u67 at hact
                    generalize a2.eval (.tmp 68) = u68 at hact
                    generalize a2.eval (.tmp 69) = u69 at hact
                    generalize a2.eval (.tmp 70) = u70 at hact
                    generalize a2.eval (.tmp 71) = u71 at hact
                    generalize a2.eval (.tmp 72) = u72 at hact
                    generalize a2.eval (.tmp 73) = u73 at hact
                    generalize a2.eval (.tmp 74) = u74 at hact
                    generalize a2.eval (.tmp 75) = u75 at hact
                    generalize a2.eval (.tmp 76) = u76 at hact
                    generalize a2.eval (.tmp 77) = u77 at hact
                    generalize a2.eval (.tmp 78) = u78 at hact
                    generalize a2.eval (.tmp 79) = u79 at hact
                    generalize a2.eval (.tmp 80) = u80 at hact
                    generalize a2.eval (.tmp 81) = u81 at hact
                    generalize a2.eval (.tmp 82) = u82 at hact
                    generalize a2.eval (.tmp 83) = u83 at hact h83
                    rw [hact]
                    clear hact
                    go_wp2
                    go_meet
                    first | exact ⟨h83, HB.out⟩ | exact ⟨rfl, HB.out⟩
          case rest =>
          obtain ⟨rfl, hbx⟩ := hcut
          have HB2 := Lib.hid (step' HB.out hbx HB.out.size)
          clear hbx k0 k1 k2 hc
          cases bd with
          | true =>
            go_wp2_with fail
            go_ret
            exact ⟨retb (HNx.out (by first | trivial | rfl)).symm, HB0.out.trans (HB2.out.mono (by omega))⟩
          | false =>
            go_wp2_with fail
            go_roundw
            case rel => exact ⟨k + 1, by omega, by go_num, HYx.out (by first | trivial | rfl), HB2.out⟩
            case measure => simp [intOf]; omega
        · obtain rfl : k = n2 := by omega
          obtain ⟨N2, rfl⟩ : ∃ y, y = k := ⟨k, rfl⟩
          have HRK : Hid ((List.range N2).all (riseAt ks) = true) := HR.out
          obtain ⟨wm, rfl⟩ : ∃ y, y = wr := ⟨wr, rfl⟩
          have HBm : Hid (Below W0.heap.size W0 wm) := HB.out
          clear HR HB hzw hwr
          go_wp2_with fail
          clear k0 k1 k2
          go_loopw [5] (fun i wr => ∃ k : Nat, k ≤ n3 ∧ i = .int .i64 k ∧ Hid ((List.range k).all (kidAt cs) = true) ∧ Hid (Below W0.heap.size W0 wr)) (fun i _ => n3 - (intOf i).toNat)
          case atStart => exact ⟨0, Nat.zero_le _, rfl, rfl, HBm.out⟩
          case round =>
            obtain ⟨k, hk, rfl, HR, HB⟩ := hrel
            obtain ⟨k0, k1, k2, -⟩ := (HF.out.below HB.out hz0).cells
            have hwr := HB.out.size
            have hzw : w.heap.size < wr.heap.size := by omega
            by_cases hlt : k < n3
            · have hlt' : k < cs.length := by rw [HL3.out]; exact hlt
              obtain ⟨b0, o0, rfl, hb1, hc0, hr1, hr2⟩ := HC0.out k hlt'
              have hc := (HB.out.cell (p := ⟨b0, o0 + k, none⟩) hb1).trans hc0
              have HE : Hid (kidAt cs k = ((decide (0 ≤ cs[k]) && decide (cs[k] < 200)) && !(cs.take k).contains cs[k])) := by
                show _ = _
                unfold kidAt
                rw [getD_at cs 0 k hlt']
              have HNx : Hid (kidAt cs k = false → mb = false) := fun hb => HNoC.out k hlt hb
              have HYx : Hid (kidAt cs k = true → (List.range (k + 1)).all (kidAt cs) = true) := fun hb => by rw [all_range_succ, HR.out, hb]; rfl
              obtain ⟨b, hb⟩ : ∃ b, b = cs[k] := ⟨_, rfl⟩
              rw [← hb] at hc hc0 hr1 hr2 HE
              have hki : (k : Int) < n3 := by omega
              clear hb hlt'
              by_cases q1 : 0 ≤ b
              · by_cases q2 : b < 200
                · rw [decide_eq_true q1, decide_eq_true q2] at HE
                  obtain ⟨wo, rfl⟩ : ∃ y, y = wr := ⟨wr, rfl⟩
                  have HBo : Hid (Below W0.heap.size W0 wo) := HB.out
                  have HRo : Hid ((List.range k).all (kidAt cs) = true) := HR.out
                  clear HB HR hzw hwr
                  go_wp2_with fail
                  clear k0 k1 k2 hc
                  go_loopw [6] (fun i wr => ∃ q : Nat, q ≤ k ∧ i = .int .i64 q ∧ Hid ((cs.take q).any (fun z => b == z) = false) ∧ Hid (Below W0.heap.size W0 wr)) (fun i _ => k - (intOf i).toNat)
                  case atStart => exact ⟨0, Nat.zero_le _, rfl, by show _ = _; simp, HBo.out⟩
                  case round =>
                    obtain ⟨q, hq, rfl, HRq, HB⟩ := hrel
                    obtain ⟨k0, k1, k2, -⟩ := (HF.out.below HB.out hz0).cells
                    have hwr := HB.out.size
                    have hzw : w.heap.size < wr.heap.size := by omega
                    have hbw : b0 < wr.heap.size := by omega
                    have hc := (HB.out.cell (p := ⟨b0, o0 + k, none⟩) hb1).trans hc0
                    by_cases hltq : q < k
                    · have hltq' : q < cs.length := by have := HL3.out; omega
                      obtain ⟨b', o', e, hb', hca0, -, -⟩ := HC0.out q hltq'
                      injection e with e
                      injection e with e1 e2
                      subst e1 e2
                      have hca := (HB.out.cell (p := ⟨b0, o0 + q, none⟩) hb').trans hca0
                      have HD := Lib.hid (any_take_succ (fun z => b == z) cs q hltq')
                      have HA : Hid ((b == cs[q]) = true → (cs.take k).contains b = true) := fun h => by
                        rw [List.contains_eq_any_beq, List.any_eq_true]
                        exact ⟨cs[q], List.mem_take_iff_getElem.2 ⟨q, by omega, rfl⟩, h⟩
                      obtain ⟨a, ha⟩ : ∃ a, a = cs[q] := ⟨_, rfl⟩
                      rw [← ha] at hca HD HA
                      have hqi : (q : Int) < n3 := by omega
                      clear ha hca0 hltq'
                      go_upto_region 19 with fail
                      cases heq : (a == b) with
                      | true =>
                        obtain rfl : a = b := by simpa using heq
                        clear heq
                        go_cut [120] from 110 to 120 (fun s120 wx => s120 = .bool true ∧ Below wr.heap.size wr wx)
                        case first =>
                          refine wp_region_by (by kernel_rfl) (Phi [.val (.pointer (some ⟨w.heap.size, 2, none⟩)), .val (.slice (some ⟨b0, o0, none⟩) n3 c3), .val (.int .i64 q), .val (.pointer (some ⟨b0, o0 + q, none⟩)), .val (.int .i64 a), .val (.pointer (some ⟨w.heap.size, 2, none⟩)), .val (.slice (some ⟨b0, o0, none⟩) n3 c3), .val (.int .i64 k), .val (.pointer (some ⟨b0, o0 + k, none⟩)), .val (.int .i64 a), .val (.bool true)]) (phi_stab _) (by kernel_rfl) ?step19a ?fin19a
                          case step19a =>
                            intro i o listed a1 w2 ho hk hdep
                            have hi : i < 11 := (Array.getElem?_eq_some_iff.1 ho).1
                            have e1 := ev (show a1.eval (.tmp 1) = .pointer (some ⟨w.heap.size, 0, none⟩) from hk.frame 1 (frame_of (by kernel_rfl)))
                            have e5 := ev (show a1.eval (.tmp 5) = .int .i64 k from hk.frame 5 (frame_of (by kernel_rfl)))
                            have e6 := ev (show a1.eval (.tmp 6) = .int .i64 q from hk.frame 6 (frame_of (by kernel_rfl)))
                            have q0 := (hk.below.cell (p := ⟨w.heap.size, 2, none⟩) hzw).trans k2
                            have qt := (hk.below.cell (p := ⟨b0, o0 + q, none⟩) hbw).trans hca
                            have qs := (hk.below.cell (p := ⟨b0, o0 + k, none⟩) hbw).trans hc
                            have hii : i = 0 ∨ i = 1 ∨ i = 2 ∨ i = 3 ∨ i = 4 ∨ i = 5 ∨ i = 6 ∨ i = 7 ∨ i = 8 ∨ i = 9 ∨ i = 10 := by omega
                            rcases hii with rfl | rfl | rfl | rfl | rfl | rfl | rfl | rfl | rfl | rfl | rfl
                            · cases ho
                              refine wpOp_of rfl rfl (wp_value (v := .pointer (some ⟨w.heap.size, 2, none⟩)) ?_ rfl)
                              go_simp
                            · cases ho
                              have d0 := ev (show a1.eval (.tmp 110) = .pointer (some ⟨w.heap.size, 2, none⟩) from hk.done 0 _ 110 rfl rfl (hdep ⟨0, .data⟩ (by simp) rfl))
                              refine wpOp_of rfl rfl (wp_value (v := .slice (some ⟨b0, o0, none⟩) n3 c3) ?_ rfl)
                              go_simp
                            · cases ho
                              refine wpOp_of rfl rfl (wp_value (v := .int .i64 q) ?_ rfl)
                              simp [execOp, e6, Act.eval]
                            · cases ho
                              have d1 := ev (show a1.eval (.tmp 111) = .slice (some ⟨b0, o0, none⟩) n3 c3 from hk.done 1 _ 111 rfl rfl (hdep ⟨1, .data⟩ (by simp) rfl))
                              have d2 := ev (show a1.eval (.tmp 112) = .int .i64 q from hk.done 2 _ 112 rfl rfl (hdep ⟨2, .data⟩ (by simp) rfl))
                              refine wpOp_of rfl rfl (wp_value (v := .pointer (some ⟨b0, o0 + q, none⟩)) ?_ rfl)
                              go_simp
                            · cases ho
                              have d3 := ev (show a1.eval (.tmp 113) = .pointer (some ⟨b0, o0 + q, none⟩) from hk.done 3 _ 113 rfl rfl (hdep ⟨3, .data⟩ (by simp) rfl))
                              refine wpOp_of rfl rfl (wp_value (v := .int .i64 a) ?_ rfl)
                              go_simp
                            · cases ho
                              refine wpOp_of rfl rfl (wp_value (v := .pointer (some ⟨w.heap.size, 2, none⟩)) ?_ rfl)
                              go_simp
                            · cases ho
                              have d5 := ev (show a1.eval (.tmp 115) = .pointer (some ⟨w.heap.size, 2, none⟩) from hk.done 5 _ 115 rfl rfl (hdep ⟨5, .data⟩ (by simp) rfl))
                              refine wpOp_of rfl rfl (wp_value (v := .slice (some ⟨b0, o0, none⟩) n3 c3) ?_ rfl)
                              go_simp
                            · cases ho
                              refine wpOp_of rfl rfl (wp_value (v := .int .i64 k) ?_ rfl)
                              simp [execOp, e5, Act.eval]
                            · cases ho
                              have d6 := ev (show a1.eval (.tmp 116) = .slice (some ⟨b0, o0, none⟩) n3 c3 from hk.done 6 _ 116 rfl rfl (hdep ⟨6, .data⟩ (by simp) rfl))
                              have d7 := ev (show a1.eval (.tmp 117) = .int .i64 k from hk.done 7 _ 117 rfl rfl (hdep ⟨7, .data⟩ (by simp) rfl))
                              refine wpOp_of rfl rfl (wp_value (v := .pointer (some ⟨b0, o0 + k, none⟩)) ?_ rfl)
                              go_simp
                            · cases ho
                              have d8 := ev (show a1.eval (.tmp 118) = .pointer (some ⟨b0, o0 + k, none⟩) from hk.done 8 _ 118 rfl rfl (hdep ⟨8, .data⟩ (by simp) rfl))
                              refine wpOp_of rfl rfl (wp_value (v := .int .i64 a) ?_ rfl)
                              go_simp
                            · cases ho
                              have d4 := ev (show a1.eval (.tmp 114) = .int .i64 a from hk.done 4 _ 114 rfl rfl (hdep ⟨4, .data⟩ (by simp) rfl))
                              have d9 := ev (show a1.eval (.tmp 119) = .int .i64 a from hk.done 9 _ 119 rfl rfl (hdep ⟨9, .data⟩ (by simp) rfl))
                              refine wpOp_of rfl rfl (wp_value (v := .bool true) ?_ rfl)
                              go_simp
                          case fin19a =>
                            intro listed a2 w2 hk hall
                            have h120 : a2.eval (.tmp 120) = .bool true := hk.done 10 _ 120 rfl rfl (hall 10 (by decide))
                            have hact := kept_all [110, 111, 112, 113, 114, 115, 116, 117, 118, 119, 120] hk (by kernel_rfl)
                            have HB := Lib.hid hk.below
                            simp only [List.foldl_cons, List.foldl_nil, List.setIfInBounds_toArray, List.set_cons_succ, List.set_cons_zero] at hact
                            generalize a2.eval (.tmp 110) = u110 at hact
                            generalize a2.eval (.tmp 111) = u111 at hact
                            generalize a2.eval (.tmp 112) = u112 at hact
                            generalize a2.eval (.tmp 113) = u113 at hact
                            generalize a2.eval (.tmp 114) = u114 at hact
                            generalize a2.eval (.tmp 115) = u115 at hact
                            generalize a2.eval (.tmp 116) = u116 at hact
                            generalize a2.eval (.tmp 117) = u117 at hact
                            generalize a2.eval (.tmp 118) = u118 at hact
                            generalize a2.eval (.tmp 119) = u119 at hact
                            generalize a2.eval (.tmp 120) = u120 at hact h120
                            rw [hact]
                            clear hact
                            go_wp2
                            go_meet
                            first | exact ⟨h120, HB.out⟩ | exact ⟨rfl, HB.out⟩
                        case rest =>
                        obtain ⟨rfl, hbx⟩ := hcut
                        have HB2 := Lib.hid (step' HB.out hbx HB.out.size)
                        have HNo : Hid (mb = false) := HNx.out (by rw [HE.out, HA.out (by simp)]; rfl)
                        clear hbx k0 k1 k2 hc hca
                        go_wp2_with fail
                        go_ret
                        exact ⟨retb HNo.out.symm, HB0.out.trans (HB2.out.mono (by omega))⟩
                      | false =>
                        have heq2 : ¬ a = b := by simpa using heq
                        have heq3 : (b == a) = false := by simpa using fun e => heq2 e.symm
                        have H3 := Lib.hid heq3
                        clear heq2 heq3
                        go_cut [120] from 110 to 120 (fun s120 wx => s120 = .bool false ∧ Below wr.heap.size wr wx)
                        case first =>
                          refine wp_region_by (by kernel_rfl) (Phi [.val (.pointer (some ⟨w.heap.size, 2, none⟩)), .val (.slice (some ⟨b0, o0, none⟩) n3 c3), .val (.int .i64 q), .val (.pointer (some ⟨b0, o0 + q, none⟩)), .val (.int .i64 a), .val (.pointer (some ⟨w.heap.size, 2, none⟩)), .val (.slice (some ⟨b0, o0, none⟩) n3 c3), .val (.int .i64 k), .val (.pointer (some ⟨b0, o0 + k, none⟩)), .val (.int .i64 b), .val (.bool false)]) (phi_stab _) (by kernel_rfl) ?step19b ?fin19b
                          case step19b =>
                            intro i o listed a1 w2 ho hk hdep
                            have hi : i < 11 := (Array.getElem?_eq_some_iff.1 ho).1
                            have e1 := ev (show a1.eval (.tmp 1) = .pointer (some ⟨w.heap.size, 0, none⟩) from hk.frame 1 (frame_of (by kernel_rfl)))
                            have e5 := ev (show a1.eval (.tmp 5) = .int .i64 k from hk.frame 5 (frame_of (by kernel_rfl)))
                            have e6 := ev (show a1.eval (.tmp 6) = .int .i64 q from hk.frame 6 (frame_of (by kernel_rfl)))
                            have q0 := (hk.below.cell (p := ⟨w.heap.size, 2, none⟩) hzw).trans k2
                            have qt := (hk.below.cell (p := ⟨b0, o0 + q, none⟩) hbw).trans hca
                            have qs := (hk.below.cell (p := ⟨b0, o0 + k, none⟩) hbw).trans hc
                            have hii : i = 0 ∨ i = 1 ∨ i = 2 ∨ i = 3 ∨ i = 4 ∨ i = 5 ∨ i = 6 ∨ i = 7 ∨ i = 8 ∨ i = 9 ∨ i = 10 := by omega
                            rcases hii with rfl | rfl | rfl | rfl | rfl | rfl | rfl | rfl | rfl | rfl | rfl
                            · cases ho
                              refine wpOp_of rfl rfl (wp_value (v := .pointer (some ⟨w.heap.size, 2, none⟩)) ?_ rfl)
                              go_simp
                            · cases ho
                              have d0 := ev (show a1.eval (.tmp 110) = .pointer (some ⟨w.heap.size, 2, none⟩) from hk.done 0 _ 110 rfl rfl (hdep ⟨0, .data⟩ (by simp) rfl))
                              refine wpOp_of rfl rfl (wp_value (v := .slice (some ⟨b0, o0, none⟩) n3 c3) ?_ rfl)
                              go_simp
                            · cases ho
                              refine wpOp_of rfl rfl (wp_value (v := .int .i64 q) ?_ rfl)
                              simp [execOp, e6, Act.eval]
                            · cases ho
                              have d1 := ev (show a1.eval (.tmp 111) = .slice (some ⟨b0, o0, none⟩) n3 c3 from hk.done 1 _ 111 rfl rfl (hdep ⟨1, .data⟩ (by simp) rfl))
                              have d2 := ev (show a1.eval (.tmp 112) = .int .i64 q from hk.done 2 _ 112 rfl rfl (hdep ⟨2, .data⟩ (by simp) rfl))
                              refine wpOp_of rfl rfl (wp_value (v := .pointer (some ⟨b0, o0 + q, none⟩)) ?_ rfl)
                              go_simp
                            · cases ho
                              have d3 := ev (show a1.eval (.tmp 113) = .pointer (some ⟨b0, o0 + q, none⟩) from hk.done 3 _ 113 rfl rfl (hdep ⟨3, .data⟩ (by simp) rfl))
                              refine wpOp_of rfl rfl (wp_value (v := .int .i64 a) ?_ rfl)
                              go_simp
                            · cases ho
                              refine wpOp_of rfl rfl (wp_value (v := .pointer (some ⟨w.heap.size, 2, none⟩)) ?_ rfl)
                              go_simp
                            · cases ho
                              have d5 := ev (show a1.eval (.tmp 115) = .pointer (some ⟨w.heap.size, 2, none⟩) from hk.done 5 _ 115 rfl rfl (hdep ⟨5, .data⟩ (by simp) rfl))
                              refine wpOp_of rfl rfl (wp_value (v := .slice (some ⟨b0, o0, none⟩) n3 c3) ?_ rfl)
                              go_simp
                            · cases ho
                              refine wpOp_of rfl rfl (wp_value (v := .int .i64 k) ?_ rfl)
                              simp [execOp, e5, Act.eval]
                            · cases ho
                              have d6 := ev (show a1.eval (.tmp 116) = .slice (some ⟨b0, o0, none⟩) n3 c3 from hk.done 6 _ 116 rfl rfl (hdep ⟨6, .data⟩ (by simp) rfl))
                              have d7 := ev (show a1.eval (.tmp 117) = .int .i64 k from hk.done 7 _ 117 rfl rfl (hdep ⟨7, .data⟩ (by simp) rfl))
                              refine wpOp_of rfl rfl (wp_value (v := .pointer (some ⟨b0, o0 + k, none⟩)) ?_ rfl)
                              go_simp
                            · cases ho
                              have d8 := ev (show a1.eval (.tmp 118) = .pointer (some ⟨b0, o0 + k, none⟩) from hk.done 8 _ 118 rfl rfl (hdep ⟨8, .data⟩ (by simp) rfl))
                              refine wpOp_of rfl rfl (wp_value (v := .int .i64 b) ?_ rfl)
                              go_simp
                            · cases ho
                              have d4 := ev (show a1.eval (.tmp 114) = .int .i64 a from hk.done 4 _ 114 rfl rfl (hdep ⟨4, .data⟩ (by simp) rfl))
                              have d9 := ev (show a1.eval (.tmp 119) = .int .i64 b from hk.done 9 _ 119 rfl rfl (hdep ⟨9, .data⟩ (by simp) rfl))
                              refine wpOp_of rfl rfl (wp_value (v := .bool false) ?_ rfl)
                              go_simp
                          case fin19b =>
                            intro listed a2 w2 hk hall
                            have h120 : a2.eval (.tmp 120) = .bool false := hk.done 10 _ 120 rfl rfl (hall 10 (by decide))
                            have hact := kept_all [110, 111, 112, 113, 114, 115, 116, 117, 118, 119, 120] hk (by kernel_rfl)
                            have HB := Lib.hid hk.below
                            simp only [List.foldl_cons, List.foldl_nil, List.setIfInBounds_toArray, List.set_cons_succ, List.set_cons_zero] at hact
                            generalize a2.eval (.tmp 110) = u110 at hact
                            generalize a2.eval (.tmp 111) = u111 at hact
                            generalize a2.eval (.tmp 112) = u112 at hact
                            generalize a2.eval (.tmp 113) = u113 at hact
                            generalize a2.eval (.tmp 114) = u114 at hact
                            generalize a2.eval (.tmp 115) = u115 at hact
                            generalize a2.eval (.tmp 116) = u116 at hact
                            generalize a2.eval (.tmp 117) = u117 at hact
                            generalize a2.eval (.tmp 118) = u118 at hact
                            generalize a2.eval (.tmp 119) = u119 at hact
                            generalize a2.eval (.tmp 120) = u120 at hact h120
                            rw [hact]
                            clear hact
                            go_wp2
                            go_meet
                            first | exact ⟨h120, HB.out⟩ | exact ⟨rfl, HB.out⟩
                        case rest =>
                        obtain ⟨rfl, hbx⟩ := hcut
                        have HB2 := Lib.hid (step' HB.out hbx HB.out.size)
                        clear hbx k0 k1 k2 hc hca heq
                        go_wp2_with fail
                        go_roundw
                        case rel => exact ⟨q + 1, by omega, by go_num, by
                          show _ = _
                          rw [HD.out, HRq.out, H3.out]; rfl, HB2.out⟩
                        case measure => simp [intOf]; omega
                    · obtain rfl : q = k := by omega
                      have HOk : Hid (kidAt cs q = true) := by
                        show _ = _
                        rw [HE.out, List.contains_eq_any_beq, HRq.out]; rfl
                      have HYz : Hid ((List.range (q + 1)).all (kidAt cs) = true) := HYx.out HOk.out
                      clear HE HNx HYx HOk
                      go_wp2_with fail
                      go_roundw
                      case rel => exact ⟨q + 1, by omega, by go_num, HYz.out, HB.out⟩
                      case measure => simp [intOf]; omega
                · rw [decide_eq_true q1, decide_eq_false q2] at HE
                  go_wp2_with fail
                  go_ret
                  exact ⟨retb (HNx.out HE.out).symm, HB0.out.trans (HB.out.mono (by omega))⟩
              · rw [decide_eq_false q1] at HE
                go_wp2_with fail
                go_ret
                exact ⟨retb (HNx.out HE.out).symm, HB0.out.trans (HB.out.mono (by omega))⟩
            · obtain rfl : k = n3 := by omega
              have HFin := Lib.hid (HOf.out HRP.out HRK.out HR.out)
              have HBf : Hid (Below w.heap.size w wr) := HB0.out.trans (HB.out.mono (by omega))
              clear HOf HNoP HNoK HNoC HR
              by_cases g0 : k = 0
              · rw [if_pos g0] at HFin
                subst g0
                by_cases f1 : N2 = 0
                · by_cases f2 : N1 ≤ 5
                  all_goals
                    go_wp2_with fail
                    go_ret
                    exact ⟨retb (by rw [HFin.out]; simp [f1, f2]; omega), HBf.out⟩
                · go_wp2_with fail
                  go_ret
                  exact ⟨retb (by rw [HFin.out]; simp [f1]), HBf.out⟩
              · rw [if_neg g0] at HFin
                have hsub : ((k : Int) - 1) = ((k - 1 : Nat) : Int) := by omega
                by_cases f1 : N1 = 0
                · by_cases f2 : 2 ≤ k
                  · by_cases f3 : k ≤ 8
                    · by_cases f4 : N2 + 1 = k
                      · have f5 : N2 = k - 1 := by omega
                        go_wp2_with fail
                        go_ret
                        exact ⟨retb (by rw [HFin.out, decide_eq_true f1, decide_eq_true f2, decide_eq_true f3, decide_eq_true f4]; rfl), HBf.out⟩
                      · have f5 : ¬ N2 = k - 1 := by omega
                        go_wp2_with fail
                        go_ret
                        exact ⟨retb (by rw [HFin.out, decide_eq_true f1, decide_eq_true f2, decide_eq_true f3, decide_eq_false f4]; simp; omega), HBf.out⟩
                    · go_wp2_with fail
                      go_ret
                      exact ⟨retb (by rw [HFin.out, decide_eq_true f1, decide_eq_true f2, decide_eq_false f3]; rfl), HBf.out⟩
                  · go_wp2_with fail
                    go_ret
                    exact ⟨retb (by rw [HFin.out, decide_eq_true f1, decide_eq_false f2]; rfl), HBf.out⟩
                · go_wp2_with fail
                  go_ret
                  exact ⟨retb (by rw [HFin.out, decide_eq_false f1]; rfl), HBf.out⟩
end Go.Proofs.Yteeeomcdknjolaa.Nod

namespace Go.Proofs.Yteeeomcdknjolaa.Nod
open Go.RowKit Crc Chk Frm Fra

theorem take_next {α : Type} {l m : List α} {k : Nat} (h : l.take k = m.take k) (h1 : k < l.length) (h2 : k < m.length) (e : l[k] = m[k]) : l.take (k + 1) = m.take (k + 1) := by
  rw [List.take_succ_eq_append_getElem h1, List.take_succ_eq_append_getElem h2, h, e]
theorem take_all {α : Type} {l m : List α} {k : Nat} (h : l.take k = m.take k) (h1 : l.length = k) (h2 : m.length = k) : l = m := by
  rwa [List.take_of_length_le (by omega), List.take_of_length_le (by omega)] at h
theorem nd_ext {n m : Nd} (h1 : n.ps = m.ps) (h2 : n.ks = m.ks) (h3 : n.cs = m.cs) : n = m := by
  obtain ⟨a, b, c⟩ := n
  obtain ⟨d, e, f⟩ := m
  simp only at h1 h2 h3
  rw [h1, h2, h3]
theorem two_boxes (w : World) (A1 : Option Addr) (n1 c1 : Nat) (A2 : Option Addr) (n2 c2 : Nat) (A3 : Option Addr) (n3 c3 : Nat) (B1 : Option Addr) (m1 d1 : Nat) (B2 : Option Addr) (m2 d2 : Nat) (B3 : Option Addr) (m3 d3 : Nat) :
    ∃ W, W = (w.alloc (.cells #[.slice A1 n1 c1, .slice A2 n2 c2, .slice A3 n3 c3] 55)).alloc (.cells #[.slice B1 m1 d1, .slice B2 m2 d2, .slice B3 m3 d3] 55) ∧ BoxN w.heap.size A1 n1 c1 A2 n2 c2 A3 n3 c3 W ∧ BoxN (w.heap.size + 1) B1 m1 d1 B2 m2 d2 B3 m3 d3 W ∧ Below w.heap.size w W ∧ W.heap.size = w.heap.size + 2 := by
  refine ⟨_, rfl, ?_, ?_, ((Below.refl _ _).alloc (Nat.le_refl _) _).alloc (by rw [alloc_size]; omega) _, by rw [alloc_size, alloc_size]⟩
  · exact (Below.heap_alloc _ _ w.heap.size (by rw [alloc_size]; omega)).trans (boxN_new w ..)
  · have := boxN_new (w.alloc (.cells #[.slice A1 n1 c1, .slice A2 n2 c2, .slice A3 n3 c3] 55)) B1 m1 d1 B2 m2 d2 B3 m3 d3
    rw [alloc_size] at this
    exact this
theorem neq_int (a b : Int) (W : World) : (binOp .neq 3 (.int .i64 a) (.int .i64 b)).run Try.prog W = .ok (.bool (a != b)) W := by simp [go_sem]
theorem neq_pair (t u t2 u2 : ByteArray) (W : World) : (binOp .neq 49 (.agg #[.string t, .string u]) (.agg #[.string t2, .string u2])).run Try.prog W = .ok (.bool (!((t.toList == t2.toList) && (u.toList == u2.toList)))) W := by
  by_cases h1 : t.toList = t2.toList
  · by_cases h2 : u.toList = u2.toList
    · simp [go_sem, h1, h2]
    · simp [go_sem, h1, h2]
  · simp [go_sem, h1]
set_option maxRecDepth 20000 in
set_option maxHeartbeats 6400000 in
theorem same_any (n m : Nd) (A1 : Option Addr) (n1 c1 : Nat) (A2 : Option Addr) (n2 c2 : Nat) (A3 : Option Addr) (n3 c3 : Nat) (B1 : Option Addr) (m1 d1 : Nat) (B2 : Option Addr) (m2 d2 : Nat) (B3 : Option Addr) (m3 d3 : Nat) (w : World) (h : IsN w w.heap.size n A1 n1 c1 A2 n2 c2 A3 n3 c3) (h' : IsN w w.heap.size m B1 m1 d1 B2 m2 d2 B3 m3 d3) :
    Calls Try.prog 34 #[nv A1 n1 c1 A2 n2 c2 A3 n3 c3, nv B1 m1 d1 B2 m2 d2 B3 m3 d3] w fun e w' => e = .returned (.bool (decide (n = m))) ∧ Below w.heap.size w w' := by
  obtain ⟨W0, hW0, hbx, hby, hb0, hz0⟩ := two_boxes w A1 n1 c1 A2 n2 c2 A3 n3 c3 B1 m1 d1 B2 m2 d2 B3 m3 d3
  have HF := Lib.hid hbx
  have HG := Lib.hid hby
  have HB0 := Lib.hid hb0
  have HN : Hid (IsN W0 W0.heap.size n A1 n1 c1 A2 n2 c2 A3 n3 c3) := (h.below hb0 (Nat.le_refl _)).more (by omega)
  have HM : Hid (IsN W0 W0.heap.size m B1 m1 d1 B2 m2 d2 B3 m3 d3) := (h'.below hb0 (Nat.le_refl _)).more (by omega)
  have M1 := h.m1
  have M2 := h.m2
  have M3 := h.m3
  obtain ⟨dq, hdq⟩ : ∃ b, b = decide (n = m) := ⟨_, rfl⟩
  have HNo : Hid (n ≠ m → dq = false) := fun e => by rw [hdq]; exact decide_eq_false e
  have HYes : Hid (n.ps = m.ps → n.ks = m.ks → n.cs = m.cs → dq = true) := fun e1 e2 e3 => by rw [hdq]; exact decide_eq_true (nd_ext e1 e2 e3)
  rw [← hdq]
  have HW0 := Lib.hid hW0
  clear h h' hW0 hdq hbx hby hb0
  obtain ⟨k0, k1, k2, -⟩ := HF.out.cells
  obtain ⟨j0, j1, j2, -⟩ := HG.out.cells
  by_cases e1 : n1 = m1
  · subst e1
    by_cases e2 : n2 = m2
    · subst e2
      by_cases e3 : n3 = m3
      · subst e3
        go_enter Try.func34, Try.ntmps34
        go_upto_region 1 with fail
        rw [← HW0.out]
        go_wp2_with fail
        clear k0 k1 k2 j0 j1 j2
        go_loopw [5] (fun i wr => ∃ k : Nat, k ≤ n1 ∧ i = .int .i64 k ∧ Hid (n.ps.take k = m.ps.take k) ∧ Hid (Below W0.heap.size W0 wr)) (fun i _ => n1 - (intOf i).toNat)
        case atStart => exact ⟨0, Nat.zero_le _, rfl, rfl, Below.refl _ _⟩
        case round =>
          obtain ⟨k, hk, rfl, HR, HB⟩ := hrel
          obtain ⟨k0, k1, k2, -⟩ := (HF.out.below HB.out (by omega)).cells
          obtain ⟨j0, j1, j2, -⟩ := (HG.out.below HB.out (by omega)).cells
          have hwr := HB.out.size
          have hzw : w.heap.size < wr.heap.size := by omega
          have hzv : w.heap.size + 1 < wr.heap.size := by omega
          by_cases hlt : k < n1
          · have hlt' : k < n.ps.length := by rw [HN.out.l1]; exact hlt
            have hlt2 : k < m.ps.length := by rw [HM.out.l1]; exact hlt
            have HP := HN.out.ps
            have HQ := HM.out.ps
            obtain ⟨b0, o0, rfl, hb1, hc0, hd0⟩ := HP k hlt'
            obtain ⟨b1, o1, rfl, hb2, hc20, hd20⟩ := HQ k hlt2
            have hbw : b0 < wr.heap.size := by omega
            have hbv : b1 < wr.heap.size := by omega
            have hc := (HB.out.cell (p := ⟨b0, o0 + k * 2, none⟩) hb1).trans hc0
            have hd := (HB.out.cell (p := ⟨b0, o0 + k * 2 + 1, none⟩) hb1).trans hd0
            have hc2 := (HB.out.cell (p := ⟨b1, o1 + k * 2, none⟩) hb2).trans hc20
            have hd2 := (HB.out.cell (p := ⟨b1, o1 + k * 2 + 1, none⟩) hb2).trans hd20
            have HE : Hid (n.ps[k] = m.ps[k] → n.ps.take (k + 1) = m.ps.take (k + 1)) := fun e => take_next HR.out hlt' hlt2 e
            have HNx : Hid (n.ps[k] ≠ m.ps[k] → dq = false) := fun e => HNo.out (fun e2 => e (by subst e2; rfl))
            obtain ⟨t, ht⟩ : ∃ t, t = text n.ps[k].1 := ⟨_, rfl⟩
            obtain ⟨u, hu⟩ : ∃ t, t = text n.ps[k].2 := ⟨_, rfl⟩
            obtain ⟨t2, ht2⟩ : ∃ t, t = text m.ps[k].1 := ⟨_, rfl⟩
            obtain ⟨u2, hu2⟩ : ∃ t, t = text m.ps[k].2 := ⟨_, rfl⟩
            obtain ⟨bd, hbd⟩ : ∃ b, b = !((t.toList == t2.toList) && (u.toList == u2.toList)) := ⟨_, rfl⟩
            have HBd : Hid ((bd = true → n.ps[k] ≠ m.ps[k]) ∧ (bd = false → n.ps[k] = m.ps[k])) := by
              have e1 : t.toList = n.ps[k].1 := by rw [ht]; exact text_toList _
              have e2 : u.toList = n.ps[k].2 := by rw [hu]; exact text_toList _
              have e3 : t2.toList = m.ps[k].1 := by rw [ht2]; exact text_toList _
              have e4 : u2.toList = m.ps[k].2 := by rw [hu2]; exact text_toList _
              rw [e1, e2, e3, e4] at hbd
              refine ⟨fun hb e => ?_, fun hb => ?_⟩
              · rw [hbd, e] at hb; simp at hb
              · rw [hbd] at hb; simp at hb; exact Prod.ext hb.1 hb.2
            have hne : ∀ W, (binOp .neq 49 (.agg #[.string t, .string u]) (.agg #[.string t2, .string u2])).run Try.prog W = .ok (.bool bd) W := fun W => by rw [hbd]; exact neq_pair t u t2 u2 W
            rw [← ht] at hc
            rw [← hu] at hd
            rw [← ht2] at hc2
            rw [← hu2] at hd2
            have hki : (k : Int) < n1 := by omega
            have HT : Hid (bd = true → dq = false) := fun hb => HNx.out (HBd.out.1 hb)
            have HU : Hid (bd = false → n.ps.take (k + 1) = m.ps.take (k + 1)) := fun hb => HE.out (HBd.out.2 hb)
            clear HE HNx HBd HP HQ hlt' hlt2 hc0 hd0 hc20 hd20 ht hu ht2 hu2 hbd
            go_upto_region 6 with fail
            go_cut [50] from 40 to 50 (fun sx wx => sx = .bool bd ∧ Below wr.heap.size wr wx)
            case first =>
              refine wp_region_by (by kernel_rfl) (Phi [.val (.pointer (some ⟨w.heap.size, 0, none⟩)), .val (.slice (some ⟨b0, o0, none⟩) n1 c1), .val (.int .i64 k), .val (.pointer (some ⟨b0, o0 + k * 2, none⟩)), .val (.agg #[.string t, .string u]), .val (.pointer (some ⟨w.heap.size + 1, 0, none⟩)), .val (.slice (some ⟨b1, o1, none⟩) n1 d1), .val (.int .i64 k), .val (.pointer (some ⟨b1, o1 + k * 2, none⟩)), .val (.agg #[.string t2, .string u2]), .val (.bool bd)]) (phi_stab _) (by kernel_rfl) ?step6 ?fin6
              case step6 =>
                intro i o listed a1 w2 ho hk hdep
                have hi : i < 11 := (Array.getElem?_eq_some_iff.1 ho).1
                have e2 := ev (show a1.eval (.tmp 2) = .pointer (some ⟨w.heap.size, 0, none⟩) from hk.frame 2 (frame_of (by kernel_rfl)))
                have e3 := ev (show a1.eval (.tmp 3) = .pointer (some ⟨w.heap.size + 1, 0, none⟩) from hk.frame 3 (frame_of (by kernel_rfl)))
                have e5 := ev (show a1.eval (.tmp 5) = .int .i64 k from hk.frame 5 (frame_of (by kernel_rfl)))
                have q0 := (hk.below.cell (p := ⟨w.heap.size, 0, none⟩) hzw).trans k0
                have q1 := (hk.below.cell (p := ⟨w.heap.size + 1, 0, none⟩) hzv).trans j0
                have qa := (hk.below.cell (p := ⟨b0, o0 + k * 2, none⟩) hbw).trans hc
                have qb := (hk.below.cell (p := ⟨b0, o0 + k * 2 + 1, none⟩) hbw).trans hd
                have qc := (hk.below.cell (p := ⟨b1, o1 + k * 2, none⟩) hbv).trans hc2
                have qd := (hk.below.cell (p := ⟨b1, o1 + k * 2 + 1, none⟩) hbv).trans hd2
                have hii : i = 0 ∨ i = 1 ∨ i = 2 ∨ i = 3 ∨ i = 4 ∨ i = 5 ∨ i = 6 ∨ i = 7 ∨ i = 8 ∨ i = 9 ∨ i = 10 := by omega
                rcases hii with rfl | rfl | rfl | rfl | rfl | rfl | rfl | rfl | rfl | rfl | rfl
                · cases ho
                  refine wpOp_of rfl rfl (wp_value (v := .pointer (some ⟨w.heap.size, 0, none⟩)) ?_ rfl)
                  go_simp
                · cases ho
                  have d0 := ev (show a1.eval (.tmp 40) = .pointer (some ⟨w.heap.size, 0, none⟩) from hk.done 0 _ 40 rfl rfl (hdep ⟨0, .data⟩ (by simp) rfl))
                  refine wpOp_of rfl rfl (wp_value (v := .slice (some ⟨b0, o0, none⟩) n1 c1) ?_ rfl)
                  go_simp
                · cases ho
                  refine wpOp_of rfl rfl (wp_value (v := .int .i64 k) ?_ rfl)
                  simp [execOp, e5, Act.eval]
                · cases ho
                  have d1 := ev (show a1.eval (.tmp 41) = .slice (some ⟨b0, o0, none⟩) n1 c1 from hk.done 1 _ 41 rfl rfl (hdep ⟨1, .data⟩ (by simp) rfl))
                  have d2 := ev (show a1.eval (.tmp 42) = .int .i64 k from hk.done 2 _ 42 rfl rfl (hdep ⟨2, .data⟩ (by simp) rfl))
                  refine wpOp_of rfl rfl (wp_value (v := .pointer (some ⟨b0, o0 + k * 2, none⟩)) ?_ rfl)
                  go_simp
                · cases ho
                  have d3 := ev (show a1.eval (.tmp 43) = .pointer (some ⟨b0, o0 + k * 2, none⟩) from hk.done 3 _ 43 rfl rfl (hdep ⟨3, .data⟩ (by simp) rfl))
                  refine wpOp_of rfl rfl (wp_value (v := .agg #[.string t, .string u]) ?_ rfl)
                  go_simp
                · cases ho
                  refine wpOp_of rfl rfl (wp_value (v := .pointer (some ⟨w.heap.size + 1, 0, none⟩)) ?_ rfl)
                  go_simp
                · cases ho
                  have d5 := ev (show a1.eval (.tmp 45) = .pointer (some ⟨w.heap.size + 1, 0, none⟩) from hk.done 5 _ 45 rfl rfl (hdep ⟨5, .data⟩ (by simp) rfl))
                  refine wpOp_of rfl rfl (wp_value (v := .slice (some ⟨b1, o1, none⟩) n1 d1) ?_ rfl)
                  go_simp
                · cases ho
                  refine wpOp_of rfl rfl (wp_value (v := .int .i64 k) ?_ rfl)
                  simp [execOp, e5, Act.eval]
                · cases ho
                  have d6 := ev (show a1.eval (.tmp 46) = .slice (some ⟨b1, o1, none⟩) n1 d1 from hk.done 6 _ 46 rfl rfl (hdep ⟨6, .data⟩ (by simp) rfl))
                  have d7 := ev (show a1.eval (.tmp 47) = .int .i64 k from hk.done 7 _ 47 rfl rfl (hdep ⟨7, .data⟩ (by simp) rfl))
                  refine wpOp_of rfl rfl (wp_value (v := .pointer (some ⟨b1, o1 + k * 2, none⟩)) ?_ rfl)
                  go_simp
                · cases ho
                  have d8 := ev (show a1.eval (.tmp 48) = .pointer (some ⟨b1, o1 + k * 2, none⟩) from hk.done 8 _ 48 rfl rfl (hdep ⟨8, .data⟩ (by simp) rfl))
                  refine wpOp_of rfl rfl (wp_value (v := .agg #[.string t2, .string u2]) ?_ rfl)
                  go_simp
                · cases ho
                  have d4 := ev (show a1.eval (.tmp 44) = .agg #[.string t, .string u] from hk.done 4 _ 44 rfl rfl (hdep ⟨4, .data⟩ (by simp) rfl))
                  have d9 := ev (show a1.eval (.tmp 49) = .agg #[.string t2, .string u2] from hk.done 9 _ 49 rfl rfl (hdep ⟨9, .data⟩ (by simp) rfl))
                  refine wpOp_of rfl rfl (wp_value (v := .bool bd) ?_ rfl)
                  go_simp
              case fin6 =>
                intro listed a2 w2 hk hall
                have h50 : a2.eval (.tmp 50) = .bool bd := hk.done 10 _ 50 rfl rfl (hall 10 (by decide))
                have hact := kept_all [40, 41, 42, 43, 44, 45, 46, 47, 48, 49, 50] hk (by kernel_rfl)
                have HB := Lib.hid hk.below
                simp only [List.foldl_cons, List.foldl_nil, List.setIfInBounds_toArray, List.set_cons_succ, List.set_cons_zero] at hact
                generalize a2.eval (.tmp 40) = u40 at hact
                generalize a2.eval (.tmp 41) = u41 at hact
                generalize a2.eval (.tmp 42) = u42 at hact
                generalize a2.eval (.tmp 43) = u43 at hact
                generalize a2.eval (.tmp 44) = u44 at hact
                generalize a2.eval (.tmp 45) = u45 at hact
                generalize a2.eval (.tmp 46) = u46 at hact
                generalize a2.eval (.tmp 47) = u47 at hact
                generalize a2.eval (.tmp 48) = u48 at hact
                generalize a2.eval (.tmp 49) = u49 at hact
                generalize a2.eval (.tmp 50) = u50 at hact h50
                rw [hact]
                clear hact
                go_wp2
                go_meet
                first | exact ⟨h50, HB.out⟩ | exact ⟨rfl, HB.out⟩
            case rest =>
            obtain ⟨rfl, hbx⟩ := hcut
            have HB2 := Lib.hid (step' HB.out hbx HB.out.size)
            clear hbx k0 k1 k2 j0 j1 j2 hne hc hd hc2 hd2
            cases bd with
            | true =>
              have HZ : Hid (dq = false) := HT.out (by first | trivial | rfl)
              go_wp2_with fail
              go_ret
              exact ⟨retb HZ.out.symm, HB0.out.trans (HB2.out.mono (by omega))⟩
            | false =>
              have HZ := Lib.hid (HU.out (by first | trivial | rfl))
              go_wp2_with fail
              go_roundw
              case rel => exact ⟨k + 1, by omega, by go_num, HZ.out, HB2.out⟩
              case measure => simp [intOf]; omega
          · have Hps : Hid (n.ps = m.ps) := by
              have e : k = n1 := by omega
              subst e
              exact take_all HR.out HN.out.l1 HM.out.l1
            obtain rfl : k = n1 := by omega
            obtain ⟨N1, rfl⟩ : ∃ y, y = k := ⟨k, rfl⟩
            obtain ⟨wl, rfl⟩ : ∃ y, y = wr := ⟨wr, rfl⟩
            have HBps : Hid (Below W0.heap.size W0 wl) := HB.out
            clear HR HB hzw hzv hwr
            go_wp2_with fail
            clear k0 k1 k2 j0 j1 j2
            go_loopw [6] (fun i wr => ∃ k : Nat, k ≤ n2 ∧ i = .int .i64 k ∧ Hid (n.ks.take k = m.ks.take k) ∧ Hid (Below W0.heap.size W0 wr)) (fun i _ => n2 - (intOf i).toNat)
            case atStart => exact ⟨0, Nat.zero_le _, rfl, rfl, HBps.out⟩
            case round =>
              obtain ⟨k, hk, rfl, HR, HB⟩ := hrel
              obtain ⟨k0, k1, k2, -⟩ := (HF.out.below HB.out (by omega)).cells
              obtain ⟨j0, j1, j2, -⟩ := (HG.out.below HB.out (by omega)).cells
              have hwr := HB.out.size
              have hzw : w.heap.size < wr.heap.size := by omega
              have hzv : w.heap.size + 1 < wr.heap.size := by omega
              by_cases hlt : k < n2
              · have hlt' : k < n.ks.length := by rw [HN.out.l2]; exact hlt
                have hlt2 : k < m.ks.length := by rw [HM.out.l2]; exact hlt
                have HP := HN.out.ks
                have HQ := HM.out.ks
                obtain ⟨b0, o0, rfl, hb1, hc0⟩ := HP k hlt'
                obtain ⟨b1, o1, rfl, hb2, hc20⟩ := HQ k hlt2
                have hbw : b0 < wr.heap.size := by omega
                have hbv : b1 < wr.heap.size := by omega
                have hc := (HB.out.cell (p := ⟨b0, o0 + k, none⟩) hb1).trans hc0
                have hc2 := (HB.out.cell (p := ⟨b1, o1 + k, none⟩) hb2).trans hc20
                have HE : Hid (n.ks[k] = m.ks[k] → n.ks.take (k + 1) = m.ks.take (k + 1)) := fun e => take_next HR.out hlt' hlt2 e
                have HNx : Hid (n.ks[k] ≠ m.ks[k] → dq = false) := fun e => HNo.out (fun e2 => e (by subst e2; rfl))
                obtain ⟨t, ht⟩ : ∃ t, t = text n.ks[k] := ⟨_, rfl⟩
                obtain ⟨t2, ht2⟩ : ∃ t, t = text m.ks[k] := ⟨_, rfl⟩
                obtain ⟨bd, hbd⟩ : ∃ b, b = !(t.toList == t2.toList) := ⟨_, rfl⟩
                have HQ9 := Lib.hid hbd
                have HBd : Hid ((bd = true → n.ks[k] ≠ m.ks[k]) ∧ (bd = false → n.ks[k] = m.ks[k])) := by
                  have e1 : t.toList = n.ks[k] := by rw [ht]; exact text_toList _
                  have e3 : t2.toList = m.ks[k] := by rw [ht2]; exact text_toList _
                  rw [e1, e3] at hbd
                  refine ⟨fun hb e => ?_, fun hb => ?_⟩
                  · rw [hbd, e] at hb; simp at hb
                  · rw [hbd] at hb; simpa using hb
                have hne : ∀ W, (binOp .neq 9 (.string t) (.string t2)).run Try.prog W = .ok (.bool bd) W := fun W => by rw [hbd]; simp [binOp, Op.stringOp]
                rw [← ht] at hc
                rw [← ht2] at hc2
                have hki : (k : Int) < n2 := by omega
                have HT : Hid (bd = true → dq = false) := fun hb => HNx.out (HBd.out.1 hb)
                have HU : Hid (bd = false → n.ks.take (k + 1) = m.ks.take (k + 1)) := fun hb => HE.out (HBd.out.2 hb)
                clear HE HNx HBd HP HQ hlt' hlt2 hc0 hc20 ht ht2 hbd
                go_upto_region 11 with fail
                go_cut [68] from 58 to 68 (fun sx wx => sx = .bool bd ∧ Below wr.heap.size wr wx)
                case first =>
                  refine wp_region_by (by kernel_rfl) (Phi [.val (.pointer (some ⟨w.heap.size, 1, none⟩)), .val (.slice (some ⟨b0, o0, none⟩) n2 c2), .val (.int .i64 k), .val (.pointer (some ⟨b0, o0 + k, none⟩)), .val (.string t), .val (.pointer (some ⟨w.heap.size + 1, 1, none⟩)), .val (.slice (some ⟨b1, o1, none⟩) n2 d2), .val (.int .i64 k), .val (.pointer (some ⟨b1, o1 + k, none⟩)), .val (.string t2), .val (.bool bd)]) (phi_stab _) (by kernel_rfl) ?step11 ?fin11
                  case step11 =>
                    intro i o listed a1 w2 ho hk hdep
                    have hi : i < 11 := (Array.getElem?_eq_some_iff.1 ho).1
                    have e2 := ev (show a1.eval (.tmp 2) = .pointer (some ⟨w.heap.size, 0, none⟩) from hk.frame 2 (frame_of (by kernel_rfl)))
                    have e3 := ev (show a1.eval (.tmp 3) = .pointer (some ⟨w.heap.size + 1, 0, none⟩) from hk.frame 3 (frame_of (by kernel_rfl)))
                    have e6 := ev (show a1.eval (.tmp 6) = .int .i64 k from hk.frame 6 (frame_of (by kernel_rfl)))
                    have q0 := (hk.below.cell (p := ⟨w.heap.size, 1, none⟩) hzw).trans k1
                    have q1 := (hk.below.cell (p := ⟨w.heap.size + 1, 1, none⟩) hzv).trans j1
                    have qa := (hk.below.cell (p := ⟨b0, o0 + k, none⟩) hbw).trans hc
                    have qc := (hk.below.cell (p := ⟨b1, o1 + k, none⟩) hbv).trans hc2
                    have hii : i = 0 ∨ i = 1 ∨ i = 2 ∨ i = 3 ∨ i = 4 ∨ i = 5 ∨ i = 6 ∨ i = 7 ∨ i = 8 ∨ i = 9 ∨ i = 10 := by omega
                    rcases hii with rfl | rfl | rfl | rfl | rfl | rfl | rfl | rfl | rfl | rfl | rfl
                    · cases ho
                      refine wpOp_of rfl rfl (wp_value (v := .pointer (some ⟨w.heap.size, 1, none⟩)) ?_ rfl)
                      go_simp
                    · cases ho
                      have d0 := ev (show a1.eval (.tmp 58) = .pointer (some ⟨w.heap.size, 1, none⟩) from hk.done 0 _ 58 rfl rfl (hdep ⟨0, .data⟩ (by simp) rfl))
                      refine wpOp_of rfl rfl (wp_value (v := .slice (some ⟨b0, o0, none⟩) n2 c2) ?_ rfl)
                      go_simp
                    · cases ho
                      refine wpOp_of rfl rfl (wp_value (v := .int .i64 k) ?_ rfl)
                      simp [execOp, e6, Act.eval]
                    · cases ho
                      have d1 := ev (show a1.eval (.tmp 59) = .slice (some ⟨b0, o0, none⟩) n2 c2 from hk.done 1 _ 59 rfl rfl (hdep ⟨1, .data⟩ (by simp) rfl))
                      have d2 := ev (show a1.eval (.tmp 60) = .int .i64 k from hk.done 2 _ 60 rfl rfl (hdep ⟨2, .data⟩ (by simp) rfl))
                      refine wpOp_of rfl rfl (wp_value (v := .pointer (some ⟨b0, o0 + k, none⟩)) ?_ rfl)
                      go_simp
                    · cases ho
                      have d3 := ev (show a1.eval (.tmp 61) = .pointer (some ⟨b0, o0 + k, none⟩) from hk.done 3 _ 61 rfl rfl (hdep ⟨3, .data⟩ (by simp) rfl))
                      refine wpOp_of rfl rfl (wp_value (v := .string t) ?_ rfl)
                      go_simp
                    · cases ho
                      refine wpOp_of rfl rfl (wp_value (v := .pointer (some ⟨w.heap.size + 1, 1, none⟩)) ?_ rfl)
                      go_simp
                    · cases ho
                      have d5 := ev (show a1.eval (.tmp 63) = .pointer (some ⟨w.heap.size + 1, 1, none⟩) from hk.done 5 _ 63 rfl rfl (hdep ⟨5, .data⟩ (by simp) rfl))
                      refine wpOp_of rfl rfl (wp_value (v := .slice (some ⟨b1, o1, none⟩) n2 d2) ?_ rfl)
                      go_simp
                    · cases ho
                      refine wpOp_of rfl rfl (wp_value (v := .int .i64 k) ?_ rfl)
                      simp [execOp, e6, Act.eval]
                    · cases ho
                      have d6 := ev (show a1.eval (.tmp 64) = .slice (some ⟨b1, o1, none⟩) n2 d2 from hk.done 6 _ 64 rfl rfl (hdep ⟨6, .data⟩ (by simp) rfl))
                      have d7 := ev (show a1.eval (.tmp 65) = .int .i64 k from hk.done 7 _ 65 rfl rfl (hdep ⟨7, .data⟩ (by simp) rfl))
                      refine wpOp_of rfl rfl (wp_value (v := .pointer (some ⟨b1, o1 + k, none⟩)) ?_ rfl)
                      go_simp
                    · cases ho
                      have d8 := ev (show a1.eval (.tmp 66) = .pointer (some ⟨b1, o1 + k, none⟩) from hk.done 8 _ 66 rfl rfl (hdep ⟨8, .data⟩ (by simp) rfl))
                      refine wpOp_of rfl rfl (wp_value (v := .string t2) ?_ rfl)
                      go_simp
                    · cases ho
                      have d4 := ev (show a1.eval (.tmp 62) = .string t from hk.done 4 _ 62 rfl rfl (hdep ⟨4, .data⟩ (by simp) rfl))
                      have d9 := ev (show a1.eval (.tmp 67) = .string t2 from hk.done 9 _ 67 rfl rfl (hdep ⟨9, .data⟩ (by simp) rfl))
                      refine wpOp_of rfl rfl (wp_value (v := .bool bd) ?_ rfl)
                      go_simp
                      rw [HQ9.out]; simp
                  case fin11 =>
                    intro listed a2 w2 hk hall
                    have h68 : a2.eval (.tmp 68) = .bool bd := hk.done 10 _ 68 rfl rfl (hall 10 (by decide))
                    have hact := kept_all [58, 59, 60, 61, 62, 63, 64, 65, 66, 67, 68] hk (by kernel_rfl)
                    have HB := Lib.hid hk.below
                    simp only [List.foldl_cons, List.foldl_nil, List.setIfInBounds_toArray, List.set_cons_succ, List.set_cons_zero] at hact
                    generalize a2.eval (.tmp 58) = u58 at hact
                    generalize a2.eval (.tmp 59) = u59 at hact
                    generalize a2.eval (.tmp 60) = u60 at hact
                    generalize a2.eval (.tmp 61) = u61 at hact
                    generalize a2.eval (.tmp 62) = u62 at hact
                    generalize a2.eval (.tmp 63) = u63 at hact
                    generalize a2.eval (.tmp 64) = u64 at hact
                    generalize a2.eval (.tmp 65) = u65 at hact
                    generalize a2.eval (.tmp 66) = u66 at hact
                    generalize a2.eval (.tmp 67) = u67 at hact
                    generalize a2.eval (.tmp 68) = u68 at hact h68
                    rw [hact]
                    clear hact
                    go_wp2
                    go_meet
                    first | exact ⟨h68, HB.out⟩ | exact ⟨rfl, HB.out⟩
                case rest =>
                obtain ⟨rfl, hbx⟩ := hcut
                have HB2 := Lib.hid (step' HB.out hbx HB.out.size)
                clear hbx k0 k1 k2 j0 j1 j2 hne hc hc2
                cases bd with
                | true =>
                  have HZ : Hid (dq = false) := HT.out (by first | trivial | rfl)
                  go_wp2_with fail
                  go_ret
                  exact ⟨retb HZ.out.symm, HB0.out.trans (HB2.out.mono (by omega))⟩
                | false =>
                  have HZ := Lib.hid (HU.out (by first | trivial | rfl))
                  go_wp2_with fail
                  go_roundw
                  case rel => exact ⟨k + 1, by omega, by go_num, HZ.out, HB2.out⟩
                  case measure => simp [intOf]; omega
              · have Hks : Hid (n.ks = m.ks) := by
                  have e : k = n2 := by omega
                  subst e
                  exact take_all HR.out HN.out.l2 HM.out.l2
                obtain rfl : k = n2 := by omega
                obtain ⟨N2, rfl⟩ : ∃ y, y = k := ⟨k, rfl⟩
                obtain ⟨wm, rfl⟩ : ∃ y, y = wr := ⟨wr, rfl⟩
                have HBks : Hid (Below W0.heap.size W0 wm) := HB.out
                clear HR HB hzw hzv hwr
                go_wp2_with fail
                clear k0 k1 k2 j0 j1 j2
                go_loopw [7] (fun i wr => ∃ k : Nat, k ≤ n3 ∧ i = .int .i64 k ∧ Hid (n.cs.take k = m.cs.take k) ∧ Hid (Below W0.heap.size W0 wr)) (fun i _ => n3 - (intOf i).toNat)
                case atStart => exact ⟨0, Nat.zero_le _, rfl, rfl, HBks.out⟩
                case round =>
                  obtain ⟨k, hk, rfl, HR, HB⟩ := hrel
                  obtain ⟨k0, k1, k2, -⟩ := (HF.out.below HB.out (by omega)).cells
                  obtain ⟨j0, j1, j2, -⟩ := (HG.out.below HB.out (by omega)).cells
                  have hwr := HB.out.size
                  have hzw : w.heap.size < wr.heap.size := by omega
                  have hzv : w.heap.size + 1 < wr.heap.size := by omega
                  by_cases hlt : k < n3
                  · have hlt' : k < n.cs.length := by rw [HN.out.l3]; exact hlt
                    have hlt2 : k < m.cs.length := by rw [HM.out.l3]; exact hlt
                    have HP := HN.out.cs
                    have HQ := HM.out.cs
                    obtain ⟨b0, o0, rfl, hb1, hc0, hr1, hr2⟩ := HP k hlt'
                    obtain ⟨b1, o1, rfl, hb2, hc20, hr3, hr4⟩ := HQ k hlt2
                    have hbw : b0 < wr.heap.size := by omega
                    have hbv : b1 < wr.heap.size := by omega
                    have hc := (HB.out.cell (p := ⟨b0, o0 + k, none⟩) hb1).trans hc0
                    have hc2 := (HB.out.cell (p := ⟨b1, o1 + k, none⟩) hb2).trans hc20
                    have HE : Hid (n.cs[k] = m.cs[k] → n.cs.take (k + 1) = m.cs.take (k + 1)) := fun e => take_next HR.out hlt' hlt2 e
                    have HNx : Hid (n.cs[k] ≠ m.cs[k] → dq = false) := fun e => HNo.out (fun e2 => e (by subst e2; rfl))
                    obtain ⟨a, ha⟩ : ∃ a, a = n.cs[k] := ⟨_, rfl⟩
                    obtain ⟨b, hb⟩ : ∃ a, a = m.cs[k] := ⟨_, rfl⟩
                    obtain ⟨bd, hbd⟩ : ∃ x, x = (a != b) := ⟨_, rfl⟩
                    have HQ9 := Lib.hid hbd
                    have HBd : Hid ((bd = true → n.cs[k] ≠ m.cs[k]) ∧ (bd = false → n.cs[k] = m.cs[k])) := by
                      rw [← ha, ← hb]
                      refine ⟨fun hx e => ?_, fun hx => ?_⟩
                      · rw [hbd, e] at hx; simp at hx
                      · rw [hbd] at hx; simpa using hx
                    have hne : ∀ W, (binOp .neq 3 (.int .i64 a) (.int .i64 b)).run Try.prog W = .ok (.bool bd) W := fun W => by rw [hbd]; exact neq_int a b W
                    rw [← ha] at hc
                    rw [← hb] at hc2
                    have hki : (k : Int) < n3 := by omega
                    have HT : Hid (bd = true → dq = false) := fun hb => HNx.out (HBd.out.1 hb)
                    have HU : Hid (bd = false → n.cs.take (k + 1) = m.cs.take (k + 1)) := fun hb => HE.out (HBd.out.2 hb)
                    clear HE HNx HBd HP HQ hlt' hlt2 hc0 hc20 hr1 hr2 hr3 hr4 ha hb hbd
                    go_upto_region 16 with fail
                    go_cut [86] from 76 to 86 (fun sx wx => sx = .bool bd ∧ Below wr.heap.size wr wx)
                    case first =>
                      refine wp_region_by (by kernel_rfl) (Phi [.val (.pointer (some ⟨w.heap.size, 2, none⟩)), .val (.slice (some ⟨b0, o0, none⟩) n3 c3), .val (.int .i64 k), .val (.pointer (some ⟨b0, o0 + k, none⟩)), .val (.int .i64 a), .val (.pointer (some ⟨w.heap.size + 1, 2, none⟩)), .val (.slice (some ⟨b1, o1, none⟩) n3 d3), .val (.int .i64 k), .val (.pointer (some ⟨b1, o1 + k, none⟩)), .val (.int .i64 b), .val (.bool bd)]) (phi_stab _) (by kernel_rfl) ?step16 ?fin16
                      case step16 =>
                        intro i o listed a1 w2 ho hk hdep
                        have hi : i < 11 := (Array.getElem?_eq_some_iff.1 ho).1
                        have e2 := ev (show a1.eval (.tmp 2) = .pointer (some ⟨w.heap.size, 0, none⟩) from hk.frame 2 (frame_of (by kernel_rfl)))
                        have e3 := ev (show a1.eval (.tmp 3) = .pointer (some ⟨w.heap.size + 1, 0, none⟩) from hk.frame 3 (frame_of (by kernel_rfl)))
                        have e7 := ev (show a1.eval (.tmp 7) = .int .i64 k from hk.frame 7 (frame_of (by kernel_rfl)))
                        have q0 := (hk.below.cell (p := ⟨w.heap.size, 2, none⟩) hzw).trans k2
                        have q1 := (hk.below.cell (p := ⟨w.heap.size + 1, 2, none⟩) hzv).trans j2
                        have qa := (hk.below.cell (p := ⟨b0, o0 + k, none⟩) hbw).trans hc
                        have qc := (hk.below.cell (p := ⟨b1, o1 + k, none⟩) hbv).trans hc2
                        have hii : i = 0 ∨ i = 1 ∨ i = 2 ∨ i = 3 ∨ i = 4 ∨ i = 5 ∨ i = 6 ∨ i = 7 ∨ i = 8 ∨ i = 9 ∨ i = 10 := by omega
                        rcases hii with rfl | rfl | rfl | rfl | rfl | rfl | rfl | rfl | rfl | rfl | rfl
                        · cases ho
                          refine wpOp_of rfl rfl (wp_value (v := .pointer (some ⟨w.heap.size, 2, none⟩)) ?_ rfl)
                          go_simp
                        · cases ho
                          have d0 := ev (show a1.eval (.tmp 76) = .pointer (some ⟨w.heap.size, 2, none⟩) from hk.done 0 _ 76 rfl rfl (hdep ⟨0, .data⟩ (by simp) rfl))
                          refine wpOp_of rfl rfl (wp_value (v := .slice (some ⟨b0, o0, none⟩) n3 c3) ?_ rfl)
                          go_simp
                        · cases ho
                          refine wpOp_of rfl rfl (wp_value (v := .int .i64 k) ?_ rfl)
                          simp [execOp, e7, Act.eval]
                        · cases ho
                          have d1 := ev (show a1.eval (.tmp 77) = .slice (some ⟨b0, o0, none⟩) n3 c3 from hk.done 1 _ 77 rfl rfl (hdep ⟨1, .data⟩ (by simp) rfl))
                          have d2 := ev (show a1.eval (.tmp 78) = .int .i64 k from hk.done 2 _ 78 rfl rfl (hdep ⟨2, .data⟩ (by simp) rfl))
                          refine wpOp_of rfl rfl (wp_value (v := .pointer (some ⟨b0, o0 + k, none⟩)) ?_ rfl)
                          go_simp
                        · cases ho
                          have d3 := ev (show a1.eval (.tmp 79) = .pointer (some ⟨b0, o0 + k, none⟩) from hk.done 3 _ 79 rfl rfl (hdep ⟨3, .data⟩ (by simp) rfl))
                          refine wpOp_of rfl rfl (wp_value (v := .int .i64 a) ?_ rfl)
                          go_simp
                        · cases ho
                          refine wpOp_of rfl rfl (wp_value (v := .pointer (some ⟨w.heap.size + 1, 2, none⟩)) ?_ rfl)
                          go_simp
                        · cases ho
                          have d5 := ev (show a1.eval (.tmp 81) = .pointer (some ⟨w.heap.size + 1, 2, none⟩) from hk.done 5 _ 81 rfl rfl (hdep ⟨5, .data⟩ (by simp) rfl))
                          refine wpOp_of rfl rfl (wp_value (v := .slice (some ⟨b1, o1, none⟩) n3 d3) ?_ rfl)
                          go_simp
                        · cases ho
                          refine wpOp_of rfl rfl (wp_value (v := .int .i64 k) ?_ rfl)
                          simp [execOp, e7, Act.eval]
                        · cases ho
                          have d6 := ev (show a1.eval (.tmp 82) = .slice (some ⟨b1, o1, none⟩) n3 d3 from hk.done 6 _ 82 rfl rfl (hdep ⟨6, .data⟩ (by simp) rfl))
                          have d7 := ev (show a1.eval (.tmp 83) = .int .i64 k from hk.done 7 _ 83 rfl rfl (hdep ⟨7, .data⟩ (by simp) rfl))
                          refine wpOp_of rfl rfl (wp_value (v := .pointer (some ⟨b1, o1 + k, none⟩)) ?_ rfl)
                          go_simp
                        · cases ho
                          have d8 := ev (show a1.eval (.tmp 84) = .pointer (some ⟨b1, o1 + k, none⟩) from hk.done 8 _ 84 rfl rfl (hdep ⟨8, .data⟩ (by simp) rfl))
                          refine wpOp_of rfl rfl (wp_value (v := .int .i64 b) ?_ rfl)
                          go_simp
                        · cases ho
                          have d4 := ev (show a1.eval (.tmp 80) = .int .i64 a from hk.done 4 _ 80 rfl rfl (hdep ⟨4, .data⟩ (by simp) rfl))
                          have d9 := ev (show a1.eval (.tmp 85) = .int .i64 b from hk.done 9 _ 85 rfl rfl (hdep ⟨9, .data⟩ (by simp) rfl))
                          refine wpOp_of rfl rfl (wp_value (v := .bool bd) ?_ rfl)
                          go_simp
                          exact HQ9.out.symm
                      case fin16 =>
                        intro listed a2 w2 hk hall
                        have h86 : a2.eval (.tmp 86) = .bool bd := hk.done 10 _ 86 rfl rfl (hall 10 (by decide))
                        have hact := kept_all [76, 77, 78, 79, 80, 81, 82, 83, 84, 85, 86] hk (by kernel_rfl)
                        have HB := Lib.hid hk.below
                        simp only [List.foldl_cons, List.foldl_nil, List.setIfInBounds_toArray, List.set_cons_succ, List.set_cons_zero] at hact
                        generalize a2.eval (.tmp 76) = u76 at hact
                        generalize a2.eval (.tmp 77) = u77 at hact
                        generalize a2.eval (.tmp 78) = u78 at hact
                        generalize a2.eval (.tmp 79) = u79 at hact
                        generalize a2.eval (.tmp 80) = u80 at hact
                        generalize a2.eval (.tmp 81) = u81 at hact
                        generalize a2.eval (.tmp 82) = u82 at hact
                        generalize a2.eval (.tmp 83) = u83 at hact
                        generalize a2.eval (.tmp 84) = u84 at hact
                        generalize a2.eval (.tmp 85) = u85 at hact
                        generalize a2.eval (.tmp 86) = u86 at hact h86
                        rw [hact]
                        clear hact
                        go_wp2
                        go_meet
                        first | exact ⟨h86, HB.out⟩ | exact ⟨rfl, HB.out⟩
                    case rest =>
                    obtain ⟨rfl, hbx⟩ := hcut
                    have HB2 := Lib.hid (step' HB.out hbx HB.out.size)
                    clear hbx k0 k1 k2 j0 j1 j2 hne hc hc2
                    cases bd with
                    | true =>
                      have HZ : Hid (dq = false) := HT.out (by first | trivial | rfl)
                      go_wp2_with fail
                      go_ret
                      exact ⟨retb HZ.out.symm, HB0.out.trans (HB2.out.mono (by omega))⟩
                    | false =>
                      have HZ := Lib.hid (HU.out (by first | trivial | rfl))
                      go_wp2_with fail
                      go_roundw
                      case rel => exact ⟨k + 1, by omega, by go_num, HZ.out, HB2.out⟩
                      case measure => simp [intOf]; omega
                  · have Hcs : Hid (n.cs = m.cs) := by
                      have e : k = n3 := by omega
                      subst e
                      exact take_all HR.out HN.out.l3 HM.out.l3
                    obtain rfl : k = n3 := by omega
                    obtain ⟨N3, rfl⟩ : ∃ y, y = k := ⟨k, rfl⟩
                    obtain ⟨wn, rfl⟩ : ∃ y, y = wr := ⟨wr, rfl⟩
                    have HBcs : Hid (Below W0.heap.size W0 wn) := HB.out
                    clear HR HB hzw hzv hwr
                    go_wp2_with fail
                    go_ret
                    exact ⟨retb (HYes.out Hps.out Hks.out Hcs.out).symm, HB0.out.trans (HBcs.out.mono (by omega))⟩
      · have HX : Hid (dq = false) := HNo.out (fun e => e3 (by rw [← HN.out.l3, ← HM.out.l3, e]))
        go_enter Try.func34, Try.ntmps34
        go_upto_region 1 with fail
        rw [← HW0.out]
        go_wp2_with fail
        go_ret
        exact ⟨retb HX.out.symm, HB0.out⟩
    · have HX : Hid (dq = false) := HNo.out (fun e => e2 (by rw [← HN.out.l2, ← HM.out.l2, e]))
      go_enter Try.func34, Try.ntmps34
      go_upto_region 1 with fail
      rw [← HW0.out]
      go_wp2_with fail
      go_ret
      exact ⟨retb HX.out.symm, HB0.out⟩
  · have HX : Hid (dq = false) := HNo.out (fun e => e1 (by rw [← HN.out.l1, ← HM.out.l1, e]))
    go_enter Try.func34, Try.ntmps34
    go_upto_region 1 with fail
    rw [← HW0.out]
    go_wp2_with fail
    go_ret
    exact ⟨retb HX.out.symm, HB0.out⟩
end Go.Proofs.Yteeeomcdknjolaa.Nod

