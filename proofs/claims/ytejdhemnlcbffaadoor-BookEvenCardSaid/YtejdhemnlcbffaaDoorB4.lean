/- Contracts: may a book be; what an account has in a book. Conditions: the two arrays of the program hold what their initialisers lay. -/
import Derived.Test.YtejdhemnlcbffaaDoorB3
namespace Go.Proofs.YtejdhemnlcbffaaDoor.Bok
open Go.RowKit Cht Ent
open Go.Proofs.YtejdhemnlcbffaaDoor.Any (wp_region_by Phi phi_stab wpOp_of wanted_of wp_value ev frame_of kept_all)
open Mny (Fits AllFit vOf eOf)

/-- Amounts so far, then noughts. -/
def mixL (l : List Ln) (m k : Nat) : List Value := (amts (l.take k)).map (Value.int .i64) ++ List.replicate (m - k) (.int .i64 0)
theorem mixL_len {l : List Ln} {m k : Nat} (hm : l.length = m) (hk : k ≤ m) : (mixL l m k).length = m := by
  unfold mixL amts; simp; omega
theorem mixL_step {l : List Ln} {m k : Nat} (hm : l.length = m) (hk : k < m) (h : k < l.length) : (mixL l m k).set k (.int .i64 l[k].n) = mixL l m (k + 1) := by
  unfold mixL
  rw [amts_snoc h, show m - k = (m - (k + 1)) + 1 by omega, List.replicate_succ, List.map_append, List.set_append, if_neg (by simp [amts]; omega)]
  rw [show k - ((amts (l.take k)).map (Value.int .i64)).length = 0 by simp [amts]; omega]
  simp
theorem mayB_long {l : List Ln} (h : 200 < l.length) : mayB l = false := by
  unfold mayB; rw [decide_eq_false (by omega)]; rfl
theorem mayB_no {l : List Ln} {i : Nat} (h : i < l.length) (hk : okB l i = false) : mayB l = false := by
  unfold mayB; rw [risB_no h hk]; simp
theorem mayB_yes {l : List Ln} (h : l.length ≤ 200) (hk : ∀ i, i < l.length → okB l i = true) : mayB l = decide (sumL l = 0) := by
  unfold mayB; rw [risB_yes hk, decide_eq_true h]; rfl
theorem okB_name {l : List Ln} {i : Nat} (h : i < l.length) (hm : mayA l[i].k l[i].s = false) : okB l i = false := by
  cases i with
  | zero => rw [okB_zero h, hm]; rfl
  | succ i => rw [okB_succ h, hm]; rfl
theorem okB_nought {l : List Ln} {i : Nat} (h : i < l.length) (hm : l[i].n = 0) : okB l i = false := by
  cases i with
  | zero => rw [okB_zero h, hm]; simp
  | succ i => rw [okB_succ h, hm]; simp
/-- The sum of a book, as it is told. -/
theorem sum_told (s : Int) : (eOf s == 0 && vOf s == 0) = decide (s = 0) := by
  by_cases hf : Fits s
  · rw [Mny.eOf_t hf, Mny.vOf_t hf]
    by_cases h : s = 0
    · subst h; decide
    · rw [decide_eq_false h]; simpa using h
  · rw [Mny.eOf_f hf, decide_eq_false (fun h => hf (by subst h; decide))]; rfl

set_option maxRecDepth 100000 in
set_option maxHeartbeats 6400000 in
theorem may_any (A : Option Addr) (l : List Ln) (m c : Nat) (w : World) (hE : Env w) (h : Lns w w.heap.size A l) (hm : l.length = m) (hl : m ≤ 1000) (hf : ∀ x ∈ l, fitL x) :
    Calls Tryd.prog 12 #[.slice A m c] w fun e w' => e = .returned (.bool (mayB l)) ∧ Below w.heap.size w w' := by
  have HP := Lib.hid h
  have HE := Lib.hid hE
  have HF := Lib.hid hf
  have HM := Lib.hid hm
  have HN := Lib.hid (fun i (h : i < l.length) (hk : okB l i = false) => mayB_no h hk)
  have HFW := Lib.hid (fun (h : 200 < l.length) => mayB_long h)
  have HY := Lib.hid (fun (h : l.length ≤ 200) (hk : ∀ i, i < l.length → okB l i = true) => mayB_yes h hk)
  clear h hE hf hm
  generalize mayB l = R at *
  by_cases h2 : 200 < m
  · have h2' : (200 : Int) < m := by omega
    have HR := Lib.hid (HFW.out (by rw [HM.out]; exact h2))
    go_enter Tryd.func12, Tryd.ntmps12
    go_wp2_with fail
    go_ret
    exact ⟨retb HR.out.symm, Below.refl _ _⟩
  have h2' : ¬ (200 : Int) < m := by omega
  obtain ⟨i0, hi, hz0, hz1, hz2⟩ := info_parts Mny.info2
  go_enter Tryd.func12, Tryd.ntmps12
  go_wp2_with (at_make; refine wpList_make_full _ rfl _ _ 56 rfl w.heap.size 2 i0 (.int .i64 0) 1 Tryd.underlying56 hi hz0 hz1 _ _ _ _ m rfl rfl rfl rfl ?b2 ?b3 (Nat.le_refl _) ?_)
  case b2 => omega
  case b3 => unfold maxLen; omega
  intro w1 hown1 hgrow1
  have HB1 : Hid (Below w.heap.size w w1) := (Below.refl _ _).grown hgrow1 (Nat.le_refl _) (fun k h => by cases h)
  have HO1 : Hid (w1.ownsRow w.heap.size 2 1 (.slice (some ⟨w.heap.size, 0, none⟩) m m) m (mixL l m 0)) := by
    show World.ownsRow _ _ _ _ _ _ _
    have : mixL l m 0 = (madeCells #[Value.int .i64 0] m).toList := by
      rw [toList_madeCells_one]; unfold mixL; simp [amts]
    rw [this]; exact hown1
  have hz := hown1.lt w.heap.size rfl
  clear hown1 hgrow1
  go_wp2_with fail
  go_loopw [16] (fun i wr => ∃ k : Nat, k ≤ m ∧ i = .int .i64 k ∧ Hid (∀ j, j < k → okB l j = true) ∧ Hid (wr.ownsRow w.heap.size 2 1 (.slice (some ⟨w.heap.size, 0, none⟩) m m) m (mixL l m k)) ∧ Hid (Below w.heap.size w wr)) (fun i _ => m - (intOf i).toNat)
  case atStart => exact ⟨0, Nat.zero_le _, rfl, fun j h => absurd h (Nat.not_lt_zero _), HO1.out, HB1.out⟩
  case round =>
    obtain ⟨k, hk, rfl, HR, HU, HB⟩ := hrel
    have hwr := HB.out.size
    have hgz := (HU.out.lt w.heap.size rfl).2
    by_cases hlt : k < m
    · have hlt' : k < l.length := by rw [HM.out]; exact hlt
      have HLW : Hid (Lns wr w.heap.size A l) := HP.out.below HB.out (Nat.le_refl _)
      obtain ⟨b0, o0, rfl, hb1, q1, q2, q3⟩ := HLW.out k hlt'
      obtain ⟨⟨f1, f2⟩, f3, f4⟩ := HF.out _ (List.getElem_mem hlt')
      have HK := Lib.hid (fun (W : World) (hb : Below w.heap.size w W) => mayP_any l[k].k l[k].s W (HE.out.below hb) f3 f1 f2)
      have HNA := Lib.hid (fun (h : mayA l[k].k l[k].s = false) => HN.out k hlt' (okB_name hlt' h))
      have HNZ := Lib.hid (fun (h : l[k].n = 0) => HN.out k hlt' (okB_nought hlt' h))
      have HST : Hid ((mixL l m k).set k (.int .i64 l[k].n) = mixL l m (k + 1)) := mixL_step HM.out hlt hlt'
      have hki : (k : Int) < m := by omega
      obtain ⟨W2, hW2⟩ : ∃ W2, W2 = wr.alloc (.cells #[.int .i64 l[k].k, .string l[k].s, .int .i64 l[k].n] 51) := ⟨_, rfl⟩
      have HB2 : Hid (Below w.heap.size w W2) := by rw [hW2]; exact HB.out.alloc hwr _
      have HU2 : Hid (W2.ownsRow w.heap.size 2 1 (.slice (some ⟨w.heap.size, 0, none⟩) m m) m (mixL l m k)) := by rw [hW2]; exact HU.out.alloc _
      have e0 : W2.cell? ⟨wr.heap.size, 0, none⟩ = some (.int .i64 l[k].k) := by rw [hW2]; exact World.cell?_alloc_new _ _ _ _
      have e1 : W2.cell? ⟨wr.heap.size, 1, none⟩ = some (.string l[k].s) := by rw [hW2]; exact World.cell?_alloc_new _ _ _ _
      have e2 : W2.cell? ⟨wr.heap.size, 2, none⟩ = some (.int .i64 l[k].n) := by rw [hW2]; exact World.cell?_alloc_new _ _ _ _
      have hzz : wr.heap.size < W2.heap.size := by rw [hW2]; simp
      have HW2 := Lib.hid hW2
      have HLK : Hid (∀ W, Below w.heap.size w W → Lns W w.heap.size (some ⟨b0, o0, none⟩) l) := fun W hb => HP.out.below hb (Nat.le_refl _)
      have HL5 : Hid (l[k].k = l[k].k ∧ l[k].s = l[k].s) := ⟨rfl, rfl⟩
      obtain ⟨y, hy⟩ : ∃ y, y = l[k] := ⟨_, rfl⟩
      have HYE : Hid (y = l[k]) := hy
      rw [← hy] at HK HNA HNZ HST q1 q2 q3 f1 f2 f3 f4 e0 e1 e2 HW2
      clear hW2 hy HL5
      obtain ⟨ma, hma⟩ : ∃ ma, ma = mayA y.k y.s := ⟨_, rfl⟩
      have HMA : Hid (ma = mayA y.k y.s) := hma
      rw [← hma] at HK HNA
      clear hma
      go_upto_region 7 with fail
      rw [← HW2.out]
      clear HW2 q1 q2 q3
      go_wp2_with fail
      refine (HK.out _ HB2.out).mono ?_
      rintro e w3 ⟨rfl, hb3⟩
      have g0 := (hb3.cell (p := ⟨wr.heap.size, 0, none⟩) hzz).trans e0
      have g1 := (hb3.cell (p := ⟨wr.heap.size, 1, none⟩) hzz).trans e1
      have g2 := (hb3.cell (p := ⟨wr.heap.size, 2, none⟩) hzz).trans e2
      have hz3 : wr.heap.size < w3.heap.size := Nat.lt_of_lt_of_le hzz hb3.size
      have HB3 := Lib.hid (HB2.out.trans (hb3.mono (by omega)))
      have HU3 := Lib.hid (own_below HU2.out hb3)
      clear hb3 e0 e1 e2
      cases ma with
      | false =>
        have HRR := Lib.hid (HNA.out rfl)
        go_wp2_with fail
        go_ret
        exact ⟨retb HRR.out.symm, HB3.out⟩
      | true =>
        by_cases hn : y.n = 0
        · have HRR := Lib.hid (HNZ.out hn)
          have hn' : (y.n == 0) = true := by simpa using hn
          clear hn
          go_wp2_with fail
          go_ret
          exact ⟨retb HRR.out.symm, HB3.out⟩
        · have hn' : (y.n == 0) = false := by simpa using hn
          have HMY : Hid (mayA l[k].k l[k].s = true) := by show _ = _; rw [← HYE.out]; exact HMA.out.symm
          have HNY : Hid (l[k].n ≠ 0) := by show _ ≠ _; rw [← HYE.out]; exact hn
          clear hn HK HNA HNZ
          by_cases hk0 : k = 0
          · have HOK : Hid (∀ j, j < k + 1 → okB l j = true) := fun j hj => by
              obtain rfl : j = 0 := by omega
              subst hk0
              rw [okB_zero hlt', HMY.out]
              simpa using HNY.out
            have hk0' : ¬ (0 : Int) < k := by omega
            have hk0n : ¬ 0 < k := by omega
            have hk0d : decide (0 < k) = false := decide_eq_false hk0n
            clear hk0
            go_upto_region 9 with fail
            go_cut [43] from 30 to 43 (fun s43 wx => s43 = .bool false ∧ Below w3.heap.size w3 wx)
            case first =>
              refine wp_region_by (by kernel_rfl) (Phi [.val (.int .i64 k), .val (.bool false), .val (.bool false), .val (undef), .val (undef), .val (undef), .val (undef), .val (undef), .val (undef), .val (undef), .val (undef), .val (undef), .val (undef), .val (.bool false)]) (phi_stab _) (by kernel_rfl) ?step9 ?fin9
              case step9 =>
                intro i o listed a1 w4 ho hk hdep
                have hi : i < 14 := (Array.getElem?_eq_some_iff.1 ho).1
                have e0 := ev (show a1.eval (.tmp 0) = .slice (some ⟨b0, o0, none⟩) m c from hk.frame 0 (frame_of (by kernel_rfl)))
                have e4 := ev (show a1.eval (.tmp 4) = .int .i64 k from hk.frame 4 (frame_of (by kernel_rfl)))
                have e5 := ev (show a1.eval (.tmp 5) = .pointer (some ⟨wr.heap.size, 0, none⟩) from hk.frame 5 (frame_of (by kernel_rfl)))
                have hii : i = 0 ∨ i = 1 ∨ i = 2 ∨ i = 3 ∨ i = 4 ∨ i = 5 ∨ i = 6 ∨ i = 7 ∨ i = 8 ∨ i = 9 ∨ i = 10 ∨ i = 11 ∨ i = 12 ∨ i = 13 := by omega
                rcases hii with rfl | rfl | rfl | rfl | rfl | rfl | rfl | rfl | rfl | rfl | rfl | rfl | rfl | rfl
                · cases ho
                  refine wpOp_of rfl rfl (wp_value (v := .int .i64 k) ?_ rfl)
                  simp [execOp, e4, Act.eval]
                · cases ho
                  have d0 := ev (show a1.eval (.tmp 30) = .int .i64 k from hk.done 0 _ 30 rfl rfl (hdep ⟨0, .data⟩ (by simp) rfl))
                  refine wpOp_of rfl rfl (wp_value (v := .bool false) ?_ rfl)
                  go_simp
                · cases ho
                  have d1 := ev (show a1.eval (.tmp 31) = .bool false from hk.done 1 _ 31 rfl rfl (hdep ⟨1, .data⟩ (by simp) rfl))
                  refine wpOp_of rfl rfl (wp_value (v := .bool false) ?_ rfl)
                  simp [execOp, d1, Act.eval]
                · cases ho
                  exact wpOp_skip rfl (unwanted_of (t := 32) rfl rfl (hk.done 2 _ 32 rfl rfl (hdep ⟨2, .guard⟩ (by simp) rfl)) (by decide)) ⟨undef, rfl, rfl, Below.refl _ _⟩
                · cases ho
                  exact wpOp_skip rfl (unwanted_of (t := 32) rfl rfl (hk.done 2 _ 32 rfl rfl (hdep ⟨2, .guard⟩ (by simp) rfl)) (by decide)) ⟨undef, rfl, rfl, Below.refl _ _⟩
                · cases ho
                  exact wpOp_skip rfl (unwanted_of (t := 32) rfl rfl (hk.done 2 _ 32 rfl rfl (hdep ⟨2, .guard⟩ (by simp) rfl)) (by decide)) ⟨undef, rfl, rfl, Below.refl _ _⟩
                · cases ho
                  exact wpOp_skip rfl (unwanted_of (t := 32) rfl rfl (hk.done 2 _ 32 rfl rfl (hdep ⟨2, .guard⟩ (by simp) rfl)) (by decide)) ⟨undef, rfl, rfl, Below.refl _ _⟩
                · cases ho
                  exact wpOp_skip rfl (unwanted_of (t := 32) rfl rfl (hk.done 2 _ 32 rfl rfl (hdep ⟨2, .guard⟩ (by simp) rfl)) (by decide)) ⟨undef, rfl, rfl, Below.refl _ _⟩
                · cases ho
                  exact wpOp_skip rfl (unwanted_of (t := 32) rfl rfl (hk.done 2 _ 32 rfl rfl (hdep ⟨2, .guard⟩ (by simp) rfl)) (by decide)) ⟨undef, rfl, rfl, Below.refl _ _⟩
                · cases ho
                  exact wpOp_skip rfl (unwanted_of (t := 32) rfl rfl (hk.done 2 _ 32 rfl rfl (hdep ⟨2, .guard⟩ (by simp) rfl)) (by decide)) ⟨undef, rfl, rfl, Below.refl _ _⟩
                · cases ho
                  exact wpOp_skip rfl (unwanted_of (t := 32) rfl rfl (hk.done 2 _ 32 rfl rfl (hdep ⟨2, .guard⟩ (by simp) rfl)) (by decide)) ⟨undef, rfl, rfl, Below.refl _ _⟩
                · cases ho
                  exact wpOp_skip rfl (unwanted_of (t := 32) rfl rfl (hk.done 2 _ 32 rfl rfl (hdep ⟨2, .guard⟩ (by simp) rfl)) (by decide)) ⟨undef, rfl, rfl, Below.refl _ _⟩
                · cases ho
                  exact wpOp_skip rfl (unwanted_of (t := 32) rfl rfl (hk.done 2 _ 32 rfl rfl (hdep ⟨2, .guard⟩ (by simp) rfl)) (by decide)) ⟨undef, rfl, rfl, Below.refl _ _⟩
                · cases ho
                  have d2 := ev (show a1.eval (.tmp 32) = .bool false from hk.done 2 _ 32 rfl rfl (hdep ⟨2, .data⟩ (by simp) rfl))
                  have d12 := ev (show a1.eval (.tmp 42) = undef from hk.done 12 _ 42 rfl rfl (hdep ⟨12, .data⟩ (by simp) rfl))
                  refine wpOp_of rfl rfl (wp_value (v := .bool false) ?_ rfl)
                  go_simp
              case fin9 =>
                intro listed a2 w2 hk hall
                have h43 : a2.eval (.tmp 43) = .bool false := hk.done 13 _ 43 rfl rfl (hall 13 (by decide))
                have hact := kept_all [30, 31, 32, 33, 34, 35, 36, 37, 38, 39, 40, 41, 42, 43] hk (by kernel_rfl)
                have HB := Lib.hid hk.below
                simp only [List.foldl_cons, List.foldl_nil, List.setIfInBounds_toArray, List.set_cons_succ, List.set_cons_zero] at hact
                generalize a2.eval (.tmp 30) = u30 at hact
                generalize a2.eval (.tmp 31) = u31 at hact
                generalize a2.eval (.tmp 32) = u32 at hact
                generalize a2.eval (.tmp 33) = u33 at hact
                generalize a2.eval (.tmp 34) = u34 at hact
                generalize a2.eval (.tmp 35) = u35 at hact
                generalize a2.eval (.tmp 36) = u36 at hact
                generalize a2.eval (.tmp 37) = u37 at hact
                generalize a2.eval (.tmp 38) = u38 at hact
                generalize a2.eval (.tmp 39) = u39 at hact
                generalize a2.eval (.tmp 40) = u40 at hact
                generalize a2.eval (.tmp 41) = u41 at hact
                generalize a2.eval (.tmp 42) = u42 at hact
                generalize a2.eval (.tmp 43) = u43 at hact h43
                rw [hact]
                clear hact
                go_wp2
                go_meet
                first | exact ⟨h43, HB.out⟩ | exact ⟨rfl, HB.out⟩
            case rest =>
              obtain ⟨rfl, hbx⟩ := hcut
              have HBX := Lib.hid (HB3.out.trans (hbx.mono (by omega)))
              have HUX := Lib.hid (own_below HU3.out hbx)
              have y2 := (hbx.cell (p := ⟨wr.heap.size, 2, none⟩) hz3).trans g2
              have hfr := HUX.out.frozenAt k
              obtain ⟨v0, hce⟩ : ∃ v, wc.cell? ⟨w.heap.size, k, none⟩ = some v := by
                rw [HUX.out.cellAt k (by omega)]
                exact ⟨_, List.getElem?_eq_getElem (by rw [mixL_len HM.out (by omega)]; exact hlt)⟩
              have HSTO : Hid ((wc.setCell ⟨w.heap.size, k, none⟩ (.int .i64 y.n)).ownsRow w.heap.size 2 1 (.slice (some ⟨w.heap.size, 0, none⟩) m m) m (mixL l m (k + 1))) := by
                have := HUX.out.stored k (.int .i64 y.n)
                rw [HST.out] at this
                exact this.1
              have HBY : Hid (Below w.heap.size w (wc.setCell ⟨w.heap.size, k, none⟩ (.int .i64 y.n))) := HBX.out.setCell (p := ⟨w.heap.size, k, none⟩) (Nat.le_refl _) _
              clear hbx g0 g1 g2
              go_wp2_with fail
              go_roundw
              case rel => exact ⟨k + 1, by omega, by go_num, HOK.out, HSTO.out, HBY.out⟩
              case measure => simp [intOf]; omega
          · obtain ⟨q, hqd⟩ : ∃ q, q = k - 1 := ⟨_, rfl⟩
            have hk0' : (0 : Int) < k := by omega
            have hk0n : 0 < k := by omega
            have hk0d : decide (0 < k) = true := decide_eq_true hk0n
            have hqk : q < k := by omega
            have hql : q < l.length := by omega
            have HSUB : Hid ((k : Int) - 1 = q) := by show _ = _; omega
            have hqi : (q : Int) < m := by omega
            have HMQ := Lib.hid (okB_may hql (HR.out q hqk))
            obtain ⟨⟨v1, v2⟩, v3, v4⟩ := HF.out _ (List.getElem_mem hql)
            have HOR := Lib.hid (fun (W : World) (hb : Below w.heap.size w W) => order_any l[q].k y.k l[q].s y.s W (HE.out.below hb) v3 f3 HMQ.out.1 HMA.out.symm)
            have HOKT : Hid (ltX l[q] y = true → ∀ j, j < k + 1 → okB l j = true) := fun hs j hj => by
              rcases Nat.lt_or_ge j k with h | h
              · exact HR.out j h
              · obtain rfl : j = k := by omega
                obtain rfl : j = q + 1 := by omega
                rw [okB_succ hlt', HMY.out, ← HYE.out, hs]
                rw [HYE.out]
                simpa using HNY.out
            have HOKF : Hid (ltX l[q] y = false → R = false) := fun hs => HN.out k hlt' (by
              obtain rfl : k = q + 1 := by omega
              rw [okB_succ hlt', ← HYE.out, hs]; simp)
            obtain ⟨b1, o1, e1, -, z1, z2, z3⟩ := (HLK.out w3 HB3.out) q hql
            injection e1 with e1
            injection e1 with e1 e1'
            subst e1 e1'
            have HCM : Hid (decide (0 ≤ ordA (nmA l[q].k l[q].s) (nmA y.k y.s)) = !ltX l[q] y) := by
              show _ = _
              have := cmp_neg l[q] y
              unfold cmpX at this
              rw [← this]
              by_cases h9 : ordA (nmA l[q].k l[q].s) (nmA y.k y.s) < 0
              · rw [decide_eq_true h9, decide_eq_false (by omega)]; rfl
              · rw [decide_eq_false h9, decide_eq_true (by omega)]; rfl
            generalize ltX l[q] y = lt at HOKT HOKF HCM
            generalize ordA (nmA l[q].k l[q].s) (nmA y.k y.s) = od at HOR HCM
            generalize l[q] = x at *
            have Q1 := Lib.hid z1
            have Q2 := Lib.hid z2
            have G0 := Lib.hid g0
            have G1 := Lib.hid g1
            have L0 : Hid (b0 < w3.heap.size) := by show _ < _; omega
            have L1 : Hid (wr.heap.size < w3.heap.size) := hz3
            have hqi0 : ¬ (q : Int) < 0 := by omega
            clear hqd z1 z2 z3 hk0 v1 v2 v3 v4
            go_upto_region 9 with fail
            go_cut [43] from 30 to 43 (fun s43 wx => s43 = .bool (decide (0 ≤ od)) ∧ Below w3.heap.size w3 wx)
            case first =>
              refine wp_region_by (by kernel_rfl) (Phi [.val (.int .i64 k), .val (.bool true), .val (.bool true), .val (.slice (some ⟨b0, o0, none⟩) m c), .val (.int .i64 k), .val (.int .i64 q), .val (.pointer (some ⟨b0, o0 + q * 3, none⟩)), .val (.pointer (some ⟨b0, o0 + q * 3, none⟩)), .val (acc x.k x.s), .val (.pointer (some ⟨wr.heap.size, 0, none⟩)), .val (acc y.k y.s), .val (.int .i64 od), .val (.bool (decide (0 ≤ od))), .val (.bool (decide (0 ≤ od)))]) (phi_stab _) (by kernel_rfl) ?step9 ?fin9
              case step9 =>
                intro i o listed a1 w4 ho hk hdep
                have hi : i < 14 := (Array.getElem?_eq_some_iff.1 ho).1
                have e0 := ev (show a1.eval (.tmp 0) = .slice (some ⟨b0, o0, none⟩) m c from hk.frame 0 (frame_of (by kernel_rfl)))
                have e4 := ev (show a1.eval (.tmp 4) = .int .i64 k from hk.frame 4 (frame_of (by kernel_rfl)))
                have e5 := ev (show a1.eval (.tmp 5) = .pointer (some ⟨wr.heap.size, 0, none⟩) from hk.frame 5 (frame_of (by kernel_rfl)))
                have hii : i = 0 ∨ i = 1 ∨ i = 2 ∨ i = 3 ∨ i = 4 ∨ i = 5 ∨ i = 6 ∨ i = 7 ∨ i = 8 ∨ i = 9 ∨ i = 10 ∨ i = 11 ∨ i = 12 ∨ i = 13 := by omega
                rcases hii with rfl | rfl | rfl | rfl | rfl | rfl | rfl | rfl | rfl | rfl | rfl | rfl | rfl | rfl
                · cases ho
                  refine wpOp_of rfl rfl (wp_value (v := .int .i64 k) ?_ rfl)
                  simp [execOp, e4, Act.eval]
                · cases ho
                  have d0 := ev (show a1.eval (.tmp 30) = .int .i64 k from hk.done 0 _ 30 rfl rfl (hdep ⟨0, .data⟩ (by simp) rfl))
                  refine wpOp_of rfl rfl (wp_value (v := .bool true) ?_ rfl)
                  go_simp
                · cases ho
                  have d1 := ev (show a1.eval (.tmp 31) = .bool true from hk.done 1 _ 31 rfl rfl (hdep ⟨1, .data⟩ (by simp) rfl))
                  refine wpOp_of rfl rfl (wp_value (v := .bool true) ?_ rfl)
                  simp [execOp, d1, Act.eval]
                · cases ho
                  refine wpOp_of rfl (wanted_of (t := 32) rfl rfl (hk.done 2 _ 32 rfl rfl (hdep ⟨2, .guard⟩ (by simp) rfl))) (wp_value (v := .slice (some ⟨b0, o0, none⟩) m c) ?_ rfl)
                  simp [execOp, e0, Act.eval]
                · cases ho
                  refine wpOp_of rfl (wanted_of (t := 32) rfl rfl (hk.done 2 _ 32 rfl rfl (hdep ⟨2, .guard⟩ (by simp) rfl))) (wp_value (v := .int .i64 k) ?_ rfl)
                  simp [execOp, e4, Act.eval]
                · cases ho
                  have d4 := ev (show a1.eval (.tmp 34) = .int .i64 k from hk.done 4 _ 34 rfl rfl (hdep ⟨4, .data⟩ (by simp) rfl))
                  refine wpOp_of rfl (wanted_of (t := 32) rfl rfl (hk.done 2 _ 32 rfl rfl (hdep ⟨2, .guard⟩ (by simp) rfl))) (wp_value (v := .int .i64 (q : Int)) ?_ rfl)
                  go_simp
                  rw [IntKind.wrap_i64]; have h9 := HSUB.out; omega
                · cases ho
                  have d3 := ev (show a1.eval (.tmp 33) = .slice (some ⟨b0, o0, none⟩) m c from hk.done 3 _ 33 rfl rfl (hdep ⟨3, .data⟩ (by simp) rfl))
                  have d5 := ev (show a1.eval (.tmp 35) = .int .i64 q from hk.done 5 _ 35 rfl rfl (hdep ⟨5, .data⟩ (by simp) rfl))
                  refine wpOp_of rfl (wanted_of (t := 32) rfl rfl (hk.done 2 _ 32 rfl rfl (hdep ⟨2, .guard⟩ (by simp) rfl))) (wp_value (v := .pointer (some ⟨b0, o0 + q * 3, none⟩)) ?_ rfl)
                  go_simp
                · cases ho
                  have d6 := ev (show a1.eval (.tmp 36) = .pointer (some ⟨b0, o0 + q * 3, none⟩) from hk.done 6 _ 36 rfl rfl (hdep ⟨6, .data⟩ (by simp) rfl))
                  refine wpOp_of rfl (wanted_of (t := 32) rfl rfl (hk.done 2 _ 32 rfl rfl (hdep ⟨2, .guard⟩ (by simp) rfl))) (wp_value (v := .pointer (some ⟨b0, o0 + q * 3, none⟩)) ?_ rfl)
                  go_simp
                · cases ho
                  have d7 := ev (show a1.eval (.tmp 37) = .pointer (some ⟨b0, o0 + q * 3, none⟩) from hk.done 7 _ 37 rfl rfl (hdep ⟨7, .data⟩ (by simp) rfl))
                  refine wpOp_of rfl (wanted_of (t := 32) rfl rfl (hk.done 2 _ 32 rfl rfl (hdep ⟨2, .guard⟩ (by simp) rfl))) (wp_value (v := acc x.k x.s) ?_ rfl)
                  have z1 := (hk.below.cell (p := ⟨b0, o0 + q * 3, none⟩) L0.out).trans Q1.out
                  have z2 := (hk.below.cell (p := ⟨b0, o0 + q * 3 + 1, none⟩) L0.out).trans Q2.out
                  go_simp
                · cases ho
                  refine wpOp_of rfl (wanted_of (t := 32) rfl rfl (hk.done 2 _ 32 rfl rfl (hdep ⟨2, .guard⟩ (by simp) rfl))) (wp_value (v := .pointer (some ⟨wr.heap.size, 0, none⟩)) ?_ rfl)
                  go_simp
                · cases ho
                  have d9 := ev (show a1.eval (.tmp 39) = .pointer (some ⟨wr.heap.size, 0, none⟩) from hk.done 9 _ 39 rfl rfl (hdep ⟨9, .data⟩ (by simp) rfl))
                  refine wpOp_of rfl (wanted_of (t := 32) rfl rfl (hk.done 2 _ 32 rfl rfl (hdep ⟨2, .guard⟩ (by simp) rfl))) (wp_value (v := acc y.k y.s) ?_ rfl)
                  have z1 := (hk.below.cell (p := ⟨wr.heap.size, 0, none⟩) L1.out).trans G0.out
                  have z2 := (hk.below.cell (p := ⟨wr.heap.size, 1, none⟩) L1.out).trans G1.out
                  go_simp
                · cases ho
                  have d8 := ev (show a1.eval (.tmp 38) = acc x.k x.s from hk.done 8 _ 38 rfl rfl (hdep ⟨8, .data⟩ (by simp) rfl))
                  have d10 := ev (show a1.eval (.tmp 40) = acc y.k y.s from hk.done 10 _ 40 rfl rfl (hdep ⟨10, .data⟩ (by simp) rfl))
                  refine wpOp_of rfl (wanted_of (t := 32) rfl rfl (hk.done 2 _ 32 rfl rfl (hdep ⟨2, .guard⟩ (by simp) rfl))) ?_
                  go_simp
                  refine (HOR.out w4 (HB3.out.trans (hk.below.mono (by omega)))).mono ?_
                  rintro e w5 ⟨rfl, hb4⟩
                  exact ⟨_, rfl, rfl, hb4⟩
                · cases ho
                  have d11 := ev (show a1.eval (.tmp 41) = .int .i64 od from hk.done 11 _ 41 rfl rfl (hdep ⟨11, .data⟩ (by simp) rfl))
                  refine wpOp_of rfl (wanted_of (t := 32) rfl rfl (hk.done 2 _ 32 rfl rfl (hdep ⟨2, .guard⟩ (by simp) rfl))) (wp_value (v := .bool (decide (0 ≤ od))) ?_ rfl)
                  go_simp
                · cases ho
                  have d2 := ev (show a1.eval (.tmp 32) = .bool true from hk.done 2 _ 32 rfl rfl (hdep ⟨2, .data⟩ (by simp) rfl))
                  have d12 := ev (show a1.eval (.tmp 42) = .bool (decide (0 ≤ od)) from hk.done 12 _ 42 rfl rfl (hdep ⟨12, .data⟩ (by simp) rfl))
                  refine wpOp_of rfl rfl (wp_value (v := .bool (decide (0 ≤ od))) ?_ rfl)
                  go_simp
              case fin9 =>
                intro listed a2 w2 hk hall
                have h43 : a2.eval (.tmp 43) = .bool (decide (0 ≤ od)) := hk.done 13 _ 43 rfl rfl (hall 13 (by decide))
                have hact := kept_all [30, 31, 32, 33, 34, 35, 36, 37, 38, 39, 40, 41, 42, 43] hk (by kernel_rfl)
                have HB := Lib.hid hk.below
                simp only [List.foldl_cons, List.foldl_nil, List.setIfInBounds_toArray, List.set_cons_succ, List.set_cons_zero] at hact
                generalize a2.eval (.tmp 30) = u30 at hact
                generalize a2.eval (.tmp 31) = u31 at hact
                generalize a2.eval (.tmp 32) = u32 at hact
                generalize a2.eval (.tmp 33) = u33 at hact
                generalize a2.eval (.tmp 34) = u34 at hact
                generalize a2.eval (.tmp 35) = u35 at hact
                generalize a2.eval (.tmp 36) = u36 at hact
                generalize a2.eval (.tmp 37) = u37 at hact
                generalize a2.eval (.tmp 38) = u38 at hact
                generalize a2.eval (.tmp 39) = u39 at hact
                generalize a2.eval (.tmp 40) = u40 at hact
                generalize a2.eval (.tmp 41) = u41 at hact
                generalize a2.eval (.tmp 42) = u42 at hact
                generalize a2.eval (.tmp 43) = u43 at hact h43
                rw [hact]
                clear hact
                go_wp2
                go_meet
                first | exact ⟨h43, HB.out⟩ | exact ⟨rfl, HB.out⟩
            case rest =>
              obtain ⟨rfl, hbx⟩ := hcut
              cases lt with
              | false =>
                have HRR := Lib.hid (HOKF.out rfl)
                have HBX := Lib.hid (HB3.out.trans (hbx.mono (by omega)))
                rw [HCM.out]
                clear hbx
                go_wp2_with fail
                go_ret
                exact ⟨retb HRR.out.symm, HBX.out⟩
              | true =>
                have HOK := Lib.hid (HOKT.out rfl)
                rw [HCM.out]
                have HBX := Lib.hid (HB3.out.trans (hbx.mono (by omega)))
                have HUX := Lib.hid (own_below HU3.out hbx)
                have y2 := (hbx.cell (p := ⟨wr.heap.size, 2, none⟩) hz3).trans g2
                have hfr := HUX.out.frozenAt k
                obtain ⟨v0, hce⟩ : ∃ v, wc.cell? ⟨w.heap.size, k, none⟩ = some v := by
                  rw [HUX.out.cellAt k (by omega)]
                  exact ⟨_, List.getElem?_eq_getElem (by rw [mixL_len HM.out (by omega)]; exact hlt)⟩
                have HSTO : Hid ((wc.setCell ⟨w.heap.size, k, none⟩ (.int .i64 y.n)).ownsRow w.heap.size 2 1 (.slice (some ⟨w.heap.size, 0, none⟩) m m) m (mixL l m (k + 1))) := by
                  have := HUX.out.stored k (.int .i64 y.n)
                  rw [HST.out] at this
                  exact this.1
                have HBY : Hid (Below w.heap.size w (wc.setCell ⟨w.heap.size, k, none⟩ (.int .i64 y.n))) := HBX.out.setCell (p := ⟨w.heap.size, k, none⟩) (Nat.le_refl _) _
                clear hbx g0 g1 g2
                go_wp2_with fail
                go_roundw
                case rel => exact ⟨k + 1, by omega, by go_num, HOK.out, HSTO.out, HBY.out⟩
                case measure => simp [intOf]; omega
    · obtain rfl : k = m := by omega
      have HRR := Lib.hid (HY.out (by rw [HM.out]; omega) (by rw [HM.out]; exact HR.out))
      have hown := HU.out
      have hmx : mixL l k k = (amts l).map (Value.int .i64) := by
        unfold mixL
        rw [Nat.sub_self, List.take_of_length_le (by rw [HM.out]; exact Nat.le_refl _)]; simp
      have hal : (amts l).length = k := by rw [← HM.out]; simp [amts]
      rw [hmx] at hown
      have hown2 : wr.ownsRow w.heap.size 2 1 (.slice (some ⟨w.heap.size, 0, none⟩) k k) (amts l).length ((amts l).map (Value.int .i64)) := by rw [hal]; exact hown
      obtain ⟨A2, c2', e2, HI⟩ := ints_of hown2
      have HSm := Mny.sum_any A2 (amts l) c2' wr.heap.size wr HI (amts_fit HF.out) (by omega)
      rw [← e2] at HSm
      have HSM := Lib.hid HSm
      have HTT := Lib.hid (sum_told (amts l).sum)
      have HSS : Hid ((amts l).sum = sumL l) := rfl
      generalize (amts l).sum = s at HSM HTT HSS
      generalize eOf s = es at HSM HTT
      generalize vOf s = vs at HSM HTT
      have HRE : Hid ((es == 0 && vs == 0) = R) := by
        show _ = _
        rw [HTT.out, HRR.out, HSS.out]
      clear hown hown2 HSm HI e2 hmx HTT HSS
      go_wp2_with fail
      refine HSM.out.mono ?_
      rintro e w2 ⟨rfl, rfl⟩
      by_cases he : es = 0
      · have he' : (es == 0) = true := by simpa using he
        have HRE2 : Hid ((vs == 0) = R) := by show _ = _; rw [← HRE.out, he']; rfl
        clear he HRE
        go_wp2_with fail
        go_ret
        exact ⟨retb HRE2.out, HB.out⟩
      · have he' : (es == 0) = false := by simpa using he
        have HRE2 : Hid (false = R) := by show _ = _; rw [← HRE.out, he']; rfl
        clear he HRE
        go_wp2_with fail
        go_ret
        exact ⟨retb HRE2.out, HB.out⟩
end Go.Proofs.YtejdhemnlcbffaaDoor.Bok
