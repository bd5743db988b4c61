/- Contracts: the document's: may a book be; what an account has in a book. Conditions: the two arrays of the program hold what their initialisers lay. -/
import Derived.Test.YtejdhemnlcbffaaDoorB4
namespace Go.Proofs.YtejdhemnlcbffaaDoor.Bok
open Go.RowKit Cht Ent
open Go.Proofs.YtejdhemnlcbffaaDoor.Any (wp_region_by Phi phi_stab wpOp_of wanted_of wp_value ev frame_of kept_all)
open Mny (Fits AllFit vOf eOf okB_t okB_f vOf_t vOf_f)

theorem unwanted_undef {ops : Array Oper} {o : Oper} {a : Act} {j t : Nat} {b : Bool} (hg : o.guard = some (j, b)) (hj : ((ops[j]?).bind (·.dst)) = some t) (h : a.eval (.tmp t) = undef) : Region.wanted o (yielded ops a.tmps) = false := by
  unfold Region.wanted
  rw [hg]
  have hy : yielded ops a.tmps j = none := by
    cases ht : a.tmps[t]? with
    | none => simp [yielded, hj, ht]
    | some v =>
      have hv : v = undef := by
        unfold Act.eval at h
        simpa [ht] using h
      subst hv
      simp [yielded, hj, ht, undef]
  simp [hy]
theorem rsum_told (s : Int) : (Mny.okB s && vOf s == 0) = decide (s = 0) := by
  by_cases hf : Fits s
  · rw [okB_t hf, vOf_t hf]
    by_cases h : s = 0
    · subst h; decide
    · rw [decide_eq_false h]; simpa using h
  · rw [okB_f hf, decide_eq_false (fun h => hf (by subst h; decide))]; rfl
theorem mayB_sum {l : List Ln} (hk : ∀ i, i < l.length → okB l i = true) : mayB l = (decide (l.length ≤ 200) && decide (sumL l = 0)) := by
  unfold mayB; rw [risB_yes hk]; rfl

set_option maxRecDepth 100000 in
set_option maxHeartbeats 6400000 in
theorem rmay_any (A : Option Addr) (l : List Ln) (m c : Nat) (w : World) (h : Lns w w.heap.size A l) (hm : l.length = m) (hl : m ≤ 1000) (hf : ∀ x ∈ l, fitL x) :
    Calls Tryd.prog 13 #[.slice A m c] w fun e w' => e = .returned (.bool (mayB l)) ∧ Below w.heap.size w w' := by
  have HP := Lib.hid h
  have HF := Lib.hid hf
  have HM := Lib.hid hm
  have HN := Lib.hid (fun i (h : i < l.length) (hk : okB l i = false) => mayB_no h hk)
  have HY := Lib.hid (fun (hk : ∀ i, i < l.length → okB l i = true) => mayB_sum hk)
  clear h hf hm
  generalize mayB l = R at *
  obtain ⟨i0, hi, hzz0, hz1, hz2⟩ := info_parts Mny.info2
  go_enter Tryd.func13, Tryd.ntmps13
  go_wp2_with fail
  go_loopw [3, 4] (fun u i wr => ∃ k : Nat, k ≤ m ∧ i = .int .i64 k ∧ Hid (∀ j, j < k → okB l j = true) ∧ Hid (wr.ownsRow w.heap.size 2 1 u (amts (l.take k)).length ((amts (l.take k)).map (Value.int .i64))) ∧ Hid (Below w.heap.size w wr)) (fun _ i _ => m - (intOf i).toNat)
  case atStart => exact ⟨0, Nat.zero_le _, rfl, fun j h => absurd h (Nat.not_lt_zero _), World.ownsRow_nil _ _ _ _, Below.refl _ _⟩
  case round =>
    obtain ⟨k, hk, rfl, HR, HU, HB⟩ := hrel
    have hwr := HB.out.size
    by_cases hlt : k < m
    · have hlt' : k < l.length := by rw [HM.out]; exact hlt
      have HLK : Hid (∀ W, Below w.heap.size w W → Lns W w.heap.size A l) := fun W hb => HP.out.below hb (Nat.le_refl _)
      obtain ⟨b0, o0, rfl, hb1, q1, q2, q3⟩ := (HLK.out wr HB.out) k hlt'
      obtain ⟨⟨f1, f2⟩, f3, f4⟩ := HF.out _ (List.getElem_mem hlt')
      have HNA := Lib.hid (fun (h : mayA l[k].k l[k].s = false) => HN.out k hlt' (okB_name hlt' h))
      have HNZ := Lib.hid (fun (h : l[k].n = 0) => HN.out k hlt' (okB_nought hlt' h))
      have HTk := Lib.hid (amts_snoc hlt')
      have hki : (k : Int) < m := by omega
      obtain ⟨y, hy⟩ : ∃ y, y = l[k] := ⟨_, rfl⟩
      have HYE : Hid (y = l[k]) := hy
      rw [← hy] at HNA HNZ HTk q1 q2 q3 f1 f2 f3 f4
      clear hy
      cases hma : mayA y.k y.s with
      | false =>
        have HNM := Lib.hid (rname_no y.k y.s wr f3 hma)
        have HRR := Lib.hid (HNA.out hma)
        clear hma
        go_wp2_with fail
        refine HNM.out.mono ?_
        rintro e w3 ⟨rfl, hb3⟩
        have HB3 := Lib.hid (HB.out.trans (hb3.mono (by omega)))
        clear hb3 q1 q2 q3
        go_upto_region 6 with fail
        go_cut [52] from 24 to 52 (fun s52 wx => s52 = .bool true ∧ Below w3.heap.size w3 wx)
        case first =>
          refine wp_region_by (by kernel_rfl) (Phi [.val (.bool false), .val (.bool true), .val (.bool true), .val (undef), .val (undef), .val (undef), .val (undef), .val (undef), .val (undef), .val (.bool true), .val (.bool true), .val (undef), .val (undef), .val (undef), .val (undef), .val (undef), .val (undef), .val (undef), .val (undef), .val (undef), .val (undef), .val (undef), .val (undef), .val (undef), .val (undef), .val (undef), .val (undef), .val (undef), .val (.bool true)]) (phi_stab _) (by kernel_rfl) ?step6 ?fin6
          case step6 =>
            intro i o listed a1 w4 ho hk hdep
            have hi : i < 29 := (Array.getElem?_eq_some_iff.1 ho).1
            have e0 := ev (show a1.eval (.tmp 0) = .slice (some ⟨b0, o0, none⟩) m c from hk.frame 0 (frame_of (by kernel_rfl)))
            have e4 := ev (show a1.eval (.tmp 4) = .int .i64 k from hk.frame 4 (frame_of (by kernel_rfl)))
            have e6 := ev (show a1.eval (.tmp 6) = .bool false from hk.frame 6 (frame_of (by kernel_rfl)))
            have hii : i = 0 ∨ i = 1 ∨ i = 2 ∨ i = 3 ∨ i = 4 ∨ i = 5 ∨ i = 6 ∨ i = 7 ∨ i = 8 ∨ i = 9 ∨ i = 10 ∨ i = 11 ∨ i = 12 ∨ i = 13 ∨ i = 14 ∨ i = 15 ∨ i = 16 ∨ i = 17 ∨ i = 18 ∨ i = 19 ∨ i = 20 ∨ i = 21 ∨ i = 22 ∨ i = 23 ∨ i = 24 ∨ i = 25 ∨ i = 26 ∨ i = 27 ∨ i = 28 := by omega
            rcases hii with rfl | rfl | rfl | rfl | rfl | rfl | rfl | rfl | rfl | rfl | rfl | rfl | rfl | rfl | rfl | rfl | rfl | rfl | rfl | rfl | rfl | rfl | rfl | rfl | rfl | rfl | rfl | rfl | rfl
            · cases ho
              refine wpOp_of rfl rfl (wp_value (v := .bool false) ?_ rfl)
              simp [execOp, e6, Act.eval]
            · cases ho
              have d0 := ev (show a1.eval (.tmp 24) = .bool false from hk.done 0 _ 24 rfl rfl (hdep ⟨0, .data⟩ (by simp) rfl))
              refine wpOp_of rfl rfl (wp_value (v := .bool true) ?_ rfl)
              go_simp
            · cases ho
              have d1 := ev (show a1.eval (.tmp 25) = .bool true from hk.done 1 _ 25 rfl rfl (hdep ⟨1, .data⟩ (by simp) rfl))
              refine wpOp_of rfl rfl (wp_value (v := .bool true) ?_ rfl)
              simp [execOp, d1, Act.eval]
            · cases ho
              exact wpOp_skip rfl (unwanted_of (t := 26) rfl rfl (hk.done 2 _ 26 rfl rfl (hdep ⟨2, .guard⟩ (by simp) rfl)) (by decide)) ⟨undef, rfl, rfl, Below.refl _ _⟩
            · cases ho
              exact wpOp_skip rfl (unwanted_of (t := 26) rfl rfl (hk.done 2 _ 26 rfl rfl (hdep ⟨2, .guard⟩ (by simp) rfl)) (by decide)) ⟨undef, rfl, rfl, Below.refl _ _⟩
            · cases ho
              exact wpOp_skip rfl (unwanted_of (t := 26) rfl rfl (hk.done 2 _ 26 rfl rfl (hdep ⟨2, .guard⟩ (by simp) rfl)) (by decide)) ⟨undef, rfl, rfl, Below.refl _ _⟩
            · cases ho
              exact wpOp_skip rfl (unwanted_of (t := 26) rfl rfl (hk.done 2 _ 26 rfl rfl (hdep ⟨2, .guard⟩ (by simp) rfl)) (by decide)) ⟨undef, rfl, rfl, Below.refl _ _⟩
            · cases ho
              exact wpOp_skip rfl (unwanted_of (t := 26) rfl rfl (hk.done 2 _ 26 rfl rfl (hdep ⟨2, .guard⟩ (by simp) rfl)) (by decide)) ⟨undef, rfl, rfl, Below.refl _ _⟩
            · cases ho
              exact wpOp_skip rfl (unwanted_of (t := 26) rfl rfl (hk.done 2 _ 26 rfl rfl (hdep ⟨2, .guard⟩ (by simp) rfl)) (by decide)) ⟨undef, rfl, rfl, Below.refl _ _⟩
            · cases ho
              have d2 := ev (show a1.eval (.tmp 26) = .bool true from hk.done 2 _ 26 rfl rfl (hdep ⟨2, .data⟩ (by simp) rfl))
              have d8 := ev (show a1.eval (.tmp 32) = undef from hk.done 8 _ 32 rfl rfl (hdep ⟨8, .data⟩ (by simp) rfl))
              refine wpOp_of rfl rfl (wp_value (v := .bool true) ?_ rfl)
              go_simp
            · cases ho
              have d9 := ev (show a1.eval (.tmp 33) = .bool true from hk.done 9 _ 33 rfl rfl (hdep ⟨9, .data⟩ (by simp) rfl))
              refine wpOp_of rfl rfl (wp_value (v := .bool true) ?_ rfl)
              simp [execOp, d9, Act.eval]
            · cases ho
              exact wpOp_skip rfl (unwanted_of (t := 34) rfl rfl (hk.done 10 _ 34 rfl rfl (hdep ⟨10, .guard⟩ (by simp) rfl)) (by decide)) ⟨undef, rfl, rfl, Below.refl _ _⟩
            · cases ho
              exact wpOp_skip rfl (unwanted_of (t := 34) rfl rfl (hk.done 10 _ 34 rfl rfl (hdep ⟨10, .guard⟩ (by simp) rfl)) (by decide)) ⟨undef, rfl, rfl, Below.refl _ _⟩
            · cases ho
              exact wpOp_skip rfl (unwanted_of (t := 34) rfl rfl (hk.done 10 _ 34 rfl rfl (hdep ⟨10, .guard⟩ (by simp) rfl)) (by decide)) ⟨undef, rfl, rfl, Below.refl _ _⟩
            · cases ho
              exact wpOp_skip rfl (unwanted_undef (t := 37) rfl rfl (hk.done 13 _ 37 rfl rfl (hdep ⟨13, .guard⟩ (by simp) rfl))) ⟨undef, rfl, rfl, Below.refl _ _⟩
            · cases ho
              exact wpOp_skip rfl (unwanted_undef (t := 37) rfl rfl (hk.done 13 _ 37 rfl rfl (hdep ⟨13, .guard⟩ (by simp) rfl))) ⟨undef, rfl, rfl, Below.refl _ _⟩
            · cases ho
              exact wpOp_skip rfl (unwanted_undef (t := 37) rfl rfl (hk.done 13 _ 37 rfl rfl (hdep ⟨13, .guard⟩ (by simp) rfl))) ⟨undef, rfl, rfl, Below.refl _ _⟩
            · cases ho
              exact wpOp_skip rfl (unwanted_undef (t := 37) rfl rfl (hk.done 13 _ 37 rfl rfl (hdep ⟨13, .guard⟩ (by simp) rfl))) ⟨undef, rfl, rfl, Below.refl _ _⟩
            · cases ho
              exact wpOp_skip rfl (unwanted_undef (t := 37) rfl rfl (hk.done 13 _ 37 rfl rfl (hdep ⟨13, .guard⟩ (by simp) rfl))) ⟨undef, rfl, rfl, Below.refl _ _⟩
            · cases ho
              exact wpOp_skip rfl (unwanted_undef (t := 37) rfl rfl (hk.done 13 _ 37 rfl rfl (hdep ⟨13, .guard⟩ (by simp) rfl))) ⟨undef, rfl, rfl, Below.refl _ _⟩
            · cases ho
              exact wpOp_skip rfl (unwanted_undef (t := 37) rfl rfl (hk.done 13 _ 37 rfl rfl (hdep ⟨13, .guard⟩ (by simp) rfl))) ⟨undef, rfl, rfl, Below.refl _ _⟩
            · cases ho
              exact wpOp_skip rfl (unwanted_undef (t := 37) rfl rfl (hk.done 13 _ 37 rfl rfl (hdep ⟨13, .guard⟩ (by simp) rfl))) ⟨undef, rfl, rfl, Below.refl _ _⟩
            · cases ho
              exact wpOp_skip rfl (unwanted_undef (t := 37) rfl rfl (hk.done 13 _ 37 rfl rfl (hdep ⟨13, .guard⟩ (by simp) rfl))) ⟨undef, rfl, rfl, Below.refl _ _⟩
            · cases ho
              exact wpOp_skip rfl (unwanted_undef (t := 37) rfl rfl (hk.done 13 _ 37 rfl rfl (hdep ⟨13, .guard⟩ (by simp) rfl))) ⟨undef, rfl, rfl, Below.refl _ _⟩
            · cases ho
              exact wpOp_skip rfl (unwanted_undef (t := 37) rfl rfl (hk.done 13 _ 37 rfl rfl (hdep ⟨13, .guard⟩ (by simp) rfl))) ⟨undef, rfl, rfl, Below.refl _ _⟩
            · cases ho
              exact wpOp_skip rfl (unwanted_undef (t := 37) rfl rfl (hk.done 13 _ 37 rfl rfl (hdep ⟨13, .guard⟩ (by simp) rfl))) ⟨undef, rfl, rfl, Below.refl _ _⟩
            · cases ho
              exact wpOp_skip rfl (unwanted_undef (t := 37) rfl rfl (hk.done 13 _ 37 rfl rfl (hdep ⟨13, .guard⟩ (by simp) rfl))) ⟨undef, rfl, rfl, Below.refl _ _⟩
            · cases ho
              exact wpOp_skip rfl (unwanted_of (t := 34) rfl rfl (hk.done 10 _ 34 rfl rfl (hdep ⟨10, .guard⟩ (by simp) rfl)) (by decide)) ⟨undef, rfl, rfl, Below.refl _ _⟩
            · cases ho
              have d10 := ev (show a1.eval (.tmp 34) = .bool true from hk.done 10 _ 34 rfl rfl (hdep ⟨10, .data⟩ (by simp) rfl))
              have d27 := ev (show a1.eval (.tmp 51) = undef from hk.done 27 _ 51 rfl rfl (hdep ⟨27, .data⟩ (by simp) rfl))
              refine wpOp_of rfl rfl (wp_value (v := .bool true) ?_ rfl)
              go_simp
          case fin6 =>
            intro listed a2 w2 hk hall
            have h52 : a2.eval (.tmp 52) = .bool true := hk.done 28 _ 52 rfl rfl (hall 28 (by decide))
            have hact := kept_all [24, 25, 26, 27, 28, 29, 30, 31, 32, 33, 34, 35, 36, 37, 38, 39, 40, 41, 42, 43, 44, 45, 46, 47, 48, 49, 50, 51, 52] hk (by kernel_rfl)
            have HB := Lib.hid hk.below
            simp only [List.foldl_cons, List.foldl_nil, List.setIfInBounds_toArray, List.set_cons_succ, List.set_cons_zero] at hact
            generalize a2.eval (.tmp 24) = u24 at hact
            generalize a2.eval (.tmp 25) = u25 at hact
            generalize a2.eval (.tmp 26) = u26 at hact
            generalize a2.eval (.tmp 27) = u27 at hact
            generalize a2.eval (.tmp 28) = u28 at hact
            generalize a2.eval (.tmp 29) = u29 at hact
            generalize a2.eval (.tmp 30) = u30 at hact
            generalize a2.eval (.tmp 31) = u31 at hact
            generalize a2.eval (.tmp 32) = u32 at hact
            generalize a2.eval (.tmp 33) = u33 at hact
            generalize a2.eval (.tmp 34) = u34 at hact
            generalize a2.eval (.tmp 35) = u35 at hact
            generalize a2.eval (.tmp 36) = u36 at hact
            generalize a2.eval (.tmp 37) = u37 at hact
            generalize a2.eval (.tmp 38) = u38 at hact
            generalize a2.eval (.tmp 39) = u39 at hact
            generalize a2.eval (.tmp 40) = u40 at hact
            generalize a2.eval (.tmp 41) = u41 at hact
            generalize a2.eval (.tmp 42) = u42 at hact
            generalize a2.eval (.tmp 43) = u43 at hact
            generalize a2.eval (.tmp 44) = u44 at hact
            generalize a2.eval (.tmp 45) = u45 at hact
            generalize a2.eval (.tmp 46) = u46 at hact
            generalize a2.eval (.tmp 47) = u47 at hact
            generalize a2.eval (.tmp 48) = u48 at hact
            generalize a2.eval (.tmp 49) = u49 at hact
            generalize a2.eval (.tmp 50) = u50 at hact
            generalize a2.eval (.tmp 51) = u51 at hact
            generalize a2.eval (.tmp 52) = u52 at hact h52
            rw [hact]
            clear hact
            go_wp2
            go_meet
            first | exact ⟨h52, HB.out⟩ | exact ⟨rfl, HB.out⟩
        case rest =>
          obtain ⟨rfl, hbx⟩ := hcut
          have HBX := Lib.hid (HB3.out.trans (hbx.mono HB3.out.size))
          clear hbx
          go_wp2_with fail
          go_ret
          exact ⟨retb HRR.out.symm, HBX.out⟩
      | true =>
        have HNM := Lib.hid (rname_ok y.k y.s wr f3 hma)
        have HMA : Hid (true = mayA y.k y.s) := hma.symm
        clear hma
        go_wp2_with fail
        refine HNM.out.mono ?_
        rintro e w3 ⟨rfl, hb3⟩
        have HB3 := Lib.hid (HB.out.trans (hb3.mono (by omega)))
        have HU3 := Lib.hid (own_below HU.out hb3)
        have hz3 := hb3.size
        have g1 := (hb3.cell (p := ⟨b0, o0 + k * 3, none⟩) (by simp only; omega)).trans q1
        have g2 := (hb3.cell (p := ⟨b0, o0 + k * 3 + 1, none⟩) (by simp only; omega)).trans q2
        have g3 := (hb3.cell (p := ⟨b0, o0 + k * 3 + 2, none⟩) (by simp only; omega)).trans q3
        have G1 := Lib.hid g1
        have G2 := Lib.hid g2
        have G3 := Lib.hid g3
        have L0 : Hid (b0 < w3.heap.size) := by show _ < _; omega
        clear hb3 q1 q2 q3
        by_cases hn : y.n = 0
        · have HRR := Lib.hid (HNZ.out hn)
          have hn' : (y.n == 0) = true := by simpa using hn
          clear hn g1 g2 g3
          go_upto_region 6 with fail
          go_cut [52] from 24 to 52 (fun s52 wx => s52 = .bool true ∧ Below w3.heap.size w3 wx)
          case first =>
            refine wp_region_by (by kernel_rfl) (Phi [.val (.bool true), .val (.bool false), .val (.bool false), .val (.slice (some ⟨b0, o0, none⟩) m c), .val (.int .i64 k), .val (.pointer (some ⟨b0, o0 + k * 3, none⟩)), .val (.pointer (some ⟨b0, o0 + k * 3 + 2, none⟩)), .val (.int .i64 y.n), .val (.bool true), .val (.bool true), .val (.bool true), .val (undef), .val (undef), .val (undef), .val (undef), .val (undef), .val (undef), .val (undef), .val (undef), .val (undef), .val (undef), .val (undef), .val (undef), .val (undef), .val (undef), .val (undef), .val (undef), .val (undef), .val (.bool true)]) (phi_stab _) (by kernel_rfl) ?step6 ?fin6
            case step6 =>
              intro i o listed a1 w4 ho hk hdep
              have hi : i < 29 := (Array.getElem?_eq_some_iff.1 ho).1
              have e0 := ev (show a1.eval (.tmp 0) = .slice (some ⟨b0, o0, none⟩) m c from hk.frame 0 (frame_of (by kernel_rfl)))
              have e4 := ev (show a1.eval (.tmp 4) = .int .i64 k from hk.frame 4 (frame_of (by kernel_rfl)))
              have e6 := ev (show a1.eval (.tmp 6) = .bool true from hk.frame 6 (frame_of (by kernel_rfl)))
              have hii : i = 0 ∨ i = 1 ∨ i = 2 ∨ i = 3 ∨ i = 4 ∨ i = 5 ∨ i = 6 ∨ i = 7 ∨ i = 8 ∨ i = 9 ∨ i = 10 ∨ i = 11 ∨ i = 12 ∨ i = 13 ∨ i = 14 ∨ i = 15 ∨ i = 16 ∨ i = 17 ∨ i = 18 ∨ i = 19 ∨ i = 20 ∨ i = 21 ∨ i = 22 ∨ i = 23 ∨ i = 24 ∨ i = 25 ∨ i = 26 ∨ i = 27 ∨ i = 28 := by omega
              rcases hii with rfl | rfl | rfl | rfl | rfl | rfl | rfl | rfl | rfl | rfl | rfl | rfl | rfl | rfl | rfl | rfl | rfl | rfl | rfl | rfl | rfl | rfl | rfl | rfl | rfl | rfl | rfl | rfl | rfl
              · cases ho
                refine wpOp_of rfl rfl (wp_value (v := .bool true) ?_ rfl)
                simp [execOp, e6, Act.eval]
              · cases ho
                have d0 := ev (show a1.eval (.tmp 24) = .bool true from hk.done 0 _ 24 rfl rfl (hdep ⟨0, .data⟩ (by simp) rfl))
                refine wpOp_of rfl rfl (wp_value (v := .bool false) ?_ rfl)
                go_simp
              · cases ho
                have d1 := ev (show a1.eval (.tmp 25) = .bool false from hk.done 1 _ 25 rfl rfl (hdep ⟨1, .data⟩ (by simp) rfl))
                refine wpOp_of rfl rfl (wp_value (v := .bool false) ?_ rfl)
                simp [execOp, d1, Act.eval]
              · cases ho
                refine wpOp_of rfl (wanted_of (t := 26) rfl rfl (hk.done 2 _ 26 rfl rfl (hdep ⟨2, .guard⟩ (by simp) rfl))) (wp_value (v := .slice (some ⟨b0, o0, none⟩) m c) ?_ rfl)
                simp [execOp, e0, Act.eval]
              · cases ho
                refine wpOp_of rfl (wanted_of (t := 26) rfl rfl (hk.done 2 _ 26 rfl rfl (hdep ⟨2, .guard⟩ (by simp) rfl))) (wp_value (v := .int .i64 k) ?_ rfl)
                simp [execOp, e4, Act.eval]
              · cases ho
                have d3 := ev (show a1.eval (.tmp 27) = .slice (some ⟨b0, o0, none⟩) m c from hk.done 3 _ 27 rfl rfl (hdep ⟨3, .data⟩ (by simp) rfl))
                have d4 := ev (show a1.eval (.tmp 28) = .int .i64 k from hk.done 4 _ 28 rfl rfl (hdep ⟨4, .data⟩ (by simp) rfl))
                refine wpOp_of rfl (wanted_of (t := 26) rfl rfl (hk.done 2 _ 26 rfl rfl (hdep ⟨2, .guard⟩ (by simp) rfl))) (wp_value (v := .pointer (some ⟨b0, o0 + k * 3, none⟩)) ?_ rfl)
                go_simp
              · cases ho
                have d5 := ev (show a1.eval (.tmp 29) = .pointer (some ⟨b0, o0 + k * 3, none⟩) from hk.done 5 _ 29 rfl rfl (hdep ⟨5, .data⟩ (by simp) rfl))
                refine wpOp_of rfl (wanted_of (t := 26) rfl rfl (hk.done 2 _ 26 rfl rfl (hdep ⟨2, .guard⟩ (by simp) rfl))) (wp_value (v := .pointer (some ⟨b0, o0 + k * 3 + 2, none⟩)) ?_ rfl)
                go_simp
              · cases ho
                have d6 := ev (show a1.eval (.tmp 30) = .pointer (some ⟨b0, o0 + k * 3 + 2, none⟩) from hk.done 6 _ 30 rfl rfl (hdep ⟨6, .data⟩ (by simp) rfl))
                refine wpOp_of rfl (wanted_of (t := 26) rfl rfl (hk.done 2 _ 26 rfl rfl (hdep ⟨2, .guard⟩ (by simp) rfl))) (wp_value (v := .int .i64 y.n) ?_ rfl)
                have z1 := (hk.below.cell (p := ⟨b0, o0 + k * 3 + 2, none⟩) L0.out).trans G3.out
                go_simp
              · cases ho
                have d7 := ev (show a1.eval (.tmp 31) = .int .i64 y.n from hk.done 7 _ 31 rfl rfl (hdep ⟨7, .data⟩ (by simp) rfl))
                refine wpOp_of rfl (wanted_of (t := 26) rfl rfl (hk.done 2 _ 26 rfl rfl (hdep ⟨2, .guard⟩ (by simp) rfl))) (wp_value (v := .bool true) ?_ rfl)
                go_simp
              · cases ho
                have d2 := ev (show a1.eval (.tmp 26) = .bool false from hk.done 2 _ 26 rfl rfl (hdep ⟨2, .data⟩ (by simp) rfl))
                have d8 := ev (show a1.eval (.tmp 32) = .bool true from hk.done 8 _ 32 rfl rfl (hdep ⟨8, .data⟩ (by simp) rfl))
                refine wpOp_of rfl rfl (wp_value (v := .bool true) ?_ rfl)
                go_simp
              · cases ho
                have d9 := ev (show a1.eval (.tmp 33) = .bool true from hk.done 9 _ 33 rfl rfl (hdep ⟨9, .data⟩ (by simp) rfl))
                refine wpOp_of rfl rfl (wp_value (v := .bool true) ?_ rfl)
                simp [execOp, d9, Act.eval]
              · cases ho
                exact wpOp_skip rfl (unwanted_of (t := 34) rfl rfl (hk.done 10 _ 34 rfl rfl (hdep ⟨10, .guard⟩ (by simp) rfl)) (by decide)) ⟨undef, rfl, rfl, Below.refl _ _⟩
              · cases ho
                exact wpOp_skip rfl (unwanted_of (t := 34) rfl rfl (hk.done 10 _ 34 rfl rfl (hdep ⟨10, .guard⟩ (by simp) rfl)) (by decide)) ⟨undef, rfl, rfl, Below.refl _ _⟩
              · cases ho
                exact wpOp_skip rfl (unwanted_of (t := 34) rfl rfl (hk.done 10 _ 34 rfl rfl (hdep ⟨10, .guard⟩ (by simp) rfl)) (by decide)) ⟨undef, rfl, rfl, Below.refl _ _⟩
              · cases ho
                exact wpOp_skip rfl (unwanted_undef (t := 37) rfl rfl (hk.done 13 _ 37 rfl rfl (hdep ⟨13, .guard⟩ (by simp) rfl))) ⟨undef, rfl, rfl, Below.refl _ _⟩
              · cases ho
                exact wpOp_skip rfl (unwanted_undef (t := 37) rfl rfl (hk.done 13 _ 37 rfl rfl (hdep ⟨13, .guard⟩ (by simp) rfl))) ⟨undef, rfl, rfl, Below.refl _ _⟩
              · cases ho
                exact wpOp_skip rfl (unwanted_undef (t := 37) rfl rfl (hk.done 13 _ 37 rfl rfl (hdep ⟨13, .guard⟩ (by simp) rfl))) ⟨undef, rfl, rfl, Below.refl _ _⟩
              · cases ho
                exact wpOp_skip rfl (unwanted_undef (t := 37) rfl rfl (hk.done 13 _ 37 rfl rfl (hdep ⟨13, .guard⟩ (by simp) rfl))) ⟨undef, rfl, rfl, Below.refl _ _⟩
              · cases ho
                exact wpOp_skip rfl (unwanted_undef (t := 37) rfl rfl (hk.done 13 _ 37 rfl rfl (hdep ⟨13, .guard⟩ (by simp) rfl))) ⟨undef, rfl, rfl, Below.refl _ _⟩
              · cases ho
                exact wpOp_skip rfl (unwanted_undef (t := 37) rfl rfl (hk.done 13 _ 37 rfl rfl (hdep ⟨13, .guard⟩ (by simp) rfl))) ⟨undef, rfl, rfl, Below.refl _ _⟩
              · cases ho
                exact wpOp_skip rfl (unwanted_undef (t := 37) rfl rfl (hk.done 13 _ 37 rfl rfl (hdep ⟨13, .guard⟩ (by simp) rfl))) ⟨undef, rfl, rfl, Below.refl _ _⟩
              · cases ho
                exact wpOp_skip rfl (unwanted_undef (t := 37) rfl rfl (hk.done 13 _ 37 rfl rfl (hdep ⟨13, .guard⟩ (by simp) rfl))) ⟨undef, rfl, rfl, Below.refl _ _⟩
              · cases ho
                exact wpOp_skip rfl (unwanted_undef (t := 37) rfl rfl (hk.done 13 _ 37 rfl rfl (hdep ⟨13, .guard⟩ (by simp) rfl))) ⟨undef, rfl, rfl, Below.refl _ _⟩
              · cases ho
                exact wpOp_skip rfl (unwanted_undef (t := 37) rfl rfl (hk.done 13 _ 37 rfl rfl (hdep ⟨13, .guard⟩ (by simp) rfl))) ⟨undef, rfl, rfl, Below.refl _ _⟩
              · cases ho
                exact wpOp_skip rfl (unwanted_undef (t := 37) rfl rfl (hk.done 13 _ 37 rfl rfl (hdep ⟨13, .guard⟩ (by simp) rfl))) ⟨undef, rfl, rfl, Below.refl _ _⟩
              · cases ho
                exact wpOp_skip rfl (unwanted_undef (t := 37) rfl rfl (hk.done 13 _ 37 rfl rfl (hdep ⟨13, .guard⟩ (by simp) rfl))) ⟨undef, rfl, rfl, Below.refl _ _⟩
              · cases ho
                exact wpOp_skip rfl (unwanted_undef (t := 37) rfl rfl (hk.done 13 _ 37 rfl rfl (hdep ⟨13, .guard⟩ (by simp) rfl))) ⟨undef, rfl, rfl, Below.refl _ _⟩
              · cases ho
                exact wpOp_skip rfl (unwanted_of (t := 34) rfl rfl (hk.done 10 _ 34 rfl rfl (hdep ⟨10, .guard⟩ (by simp) rfl)) (by decide)) ⟨undef, rfl, rfl, Below.refl _ _⟩
              · cases ho
                have d10 := ev (show a1.eval (.tmp 34) = .bool true from hk.done 10 _ 34 rfl rfl (hdep ⟨10, .data⟩ (by simp) rfl))
                have d27 := ev (show a1.eval (.tmp 51) = undef from hk.done 27 _ 51 rfl rfl (hdep ⟨27, .data⟩ (by simp) rfl))
                refine wpOp_of rfl rfl (wp_value (v := .bool true) ?_ rfl)
                go_simp
            case fin6 =>
              intro listed a2 w2 hk hall
              have h52 : a2.eval (.tmp 52) = .bool true := hk.done 28 _ 52 rfl rfl (hall 28 (by decide))
              have hact := kept_all [24, 25, 26, 27, 28, 29, 30, 31, 32, 33, 34, 35, 36, 37, 38, 39, 40, 41, 42, 43, 44, 45, 46, 47, 48, 49, 50, 51, 52] hk (by kernel_rfl)
              have HB := Lib.hid hk.below
              simp only [List.foldl_cons, List.foldl_nil, List.setIfInBounds_toArray, List.set_cons_succ, List.set_cons_zero] at hact
              generalize a2.eval (.tmp 24) = u24 at hact
              generalize a2.eval (.tmp 25) = u25 at hact
              generalize a2.eval (.tmp 26) = u26 at hact
              generalize a2.eval (.tmp 27) = u27 at hact
              generalize a2.eval (.tmp 28) = u28 at hact
              generalize a2.eval (.tmp 29) = u29 at hact
              generalize a2.eval (.tmp 30) = u30 at hact
              generalize a2.eval (.tmp 31) = u31 at hact
              generalize a2.eval (.tmp 32) = u32 at hact
              generalize a2.eval (.tmp 33) = u33 at hact
              generalize a2.eval (.tmp 34) = u34 at hact
              generalize a2.eval (.tmp 35) = u35 at hact
              generalize a2.eval (.tmp 36) = u36 at hact
              generalize a2.eval (.tmp 37) = u37 at hact
              generalize a2.eval (.tmp 38) = u38 at hact
              generalize a2.eval (.tmp 39) = u39 at hact
              generalize a2.eval (.tmp 40) = u40 at hact
              generalize a2.eval (.tmp 41) = u41 at hact
              generalize a2.eval (.tmp 42) = u42 at hact
              generalize a2.eval (.tmp 43) = u43 at hact
              generalize a2.eval (.tmp 44) = u44 at hact
              generalize a2.eval (.tmp 45) = u45 at hact
              generalize a2.eval (.tmp 46) = u46 at hact
              generalize a2.eval (.tmp 47) = u47 at hact
              generalize a2.eval (.tmp 48) = u48 at hact
              generalize a2.eval (.tmp 49) = u49 at hact
              generalize a2.eval (.tmp 50) = u50 at hact
              generalize a2.eval (.tmp 51) = u51 at hact
              generalize a2.eval (.tmp 52) = u52 at hact h52
              rw [hact]
              clear hact
              go_wp2
              go_meet
              first | exact ⟨h52, HB.out⟩ | exact ⟨rfl, HB.out⟩
          case rest =>
            obtain ⟨rfl, hbx⟩ := hcut
            have HBX := Lib.hid (HB3.out.trans (hbx.mono HB3.out.size))
            clear hbx
            go_wp2_with fail
            go_ret
            exact ⟨retb HRR.out.symm, HBX.out⟩
        · have hn' : (y.n == 0) = false := by simpa using hn
          have HMY : Hid (mayA l[k].k l[k].s = true) := by show _ = _; rw [← HYE.out]; exact HMA.out.symm
          have HNY : Hid (l[k].n ≠ 0) := by show _ ≠ _; rw [← HYE.out]; exact hn
          clear hn HNA HNZ
          by_cases hk0 : k = 0
          · have HOK : Hid (∀ j, j < k + 1 → okB l j = true) := fun j hj => by
              obtain rfl : j = 0 := by omega
              subst hk0
              rw [okB_zero hlt', HMY.out]
              simpa using HNY.out
            have hk0' : ¬ (0 : Int) < k := by omega
            have hk0n : ¬ 0 < k := by omega
            have hk0d : decide (0 < k) = false := decide_eq_false hk0n
            clear hk0 g1 g2 g3
            go_upto_region 6 with fail
            go_cut [52] from 24 to 52 (fun s52 wx => s52 = .bool false ∧ Below w3.heap.size w3 wx)
            case first =>
              refine wp_region_by (by kernel_rfl) (Phi [.val (.bool true), .val (.bool false), .val (.bool false), .val (.slice (some ⟨b0, o0, none⟩) m c), .val (.int .i64 k), .val (.pointer (some ⟨b0, o0 + k * 3, none⟩)), .val (.pointer (some ⟨b0, o0 + k * 3 + 2, none⟩)), .val (.int .i64 y.n), .val (.bool false), .val (.bool false), .val (.bool false), .val (.int .i64 k), .val (.bool false), .val (.bool false), .val (undef), .val (undef), .val (undef), .val (undef), .val (undef), .val (undef), .val (undef), .val (undef), .val (undef), .val (undef), .val (undef), .val (undef), .val (undef), .val (.bool false), .val (.bool false)]) (phi_stab _) (by kernel_rfl) ?step6 ?fin6
              case step6 =>
                intro i o listed a1 w4 ho hk hdep
                have hi : i < 29 := (Array.getElem?_eq_some_iff.1 ho).1
                have e0 := ev (show a1.eval (.tmp 0) = .slice (some ⟨b0, o0, none⟩) m c from hk.frame 0 (frame_of (by kernel_rfl)))
                have e4 := ev (show a1.eval (.tmp 4) = .int .i64 k from hk.frame 4 (frame_of (by kernel_rfl)))
                have e6 := ev (show a1.eval (.tmp 6) = .bool true from hk.frame 6 (frame_of (by kernel_rfl)))
                have hii : i = 0 ∨ i = 1 ∨ i = 2 ∨ i = 3 ∨ i = 4 ∨ i = 5 ∨ i = 6 ∨ i = 7 ∨ i = 8 ∨ i = 9 ∨ i = 10 ∨ i = 11 ∨ i = 12 ∨ i = 13 ∨ i = 14 ∨ i = 15 ∨ i = 16 ∨ i = 17 ∨ i = 18 ∨ i = 19 ∨ i = 20 ∨ i = 21 ∨ i = 22 ∨ i = 23 ∨ i = 24 ∨ i = 25 ∨ i = 26 ∨ i = 27 ∨ i = 28 := by omega
                rcases hii with rfl | rfl | rfl | rfl | rfl | rfl | rfl | rfl | rfl | rfl | rfl | rfl | rfl | rfl | rfl | rfl | rfl | rfl | rfl | rfl | rfl | rfl | rfl | rfl | rfl | rfl | rfl | rfl | rfl
                · cases ho
                  refine wpOp_of rfl rfl (wp_value (v := .bool true) ?_ rfl)
                  simp [execOp, e6, Act.eval]
                · cases ho
                  have d0 := ev (show a1.eval (.tmp 24) = .bool true from hk.done 0 _ 24 rfl rfl (hdep ⟨0, .data⟩ (by simp) rfl))
                  refine wpOp_of rfl rfl (wp_value (v := .bool false) ?_ rfl)
                  go_simp
                · cases ho
                  have d1 := ev (show a1.eval (.tmp 25) = .bool false from hk.done 1 _ 25 rfl rfl (hdep ⟨1, .data⟩ (by simp) rfl))
                  refine wpOp_of rfl rfl (wp_value (v := .bool false) ?_ rfl)
                  simp [execOp, d1, Act.eval]
                · cases ho
                  refine wpOp_of rfl (wanted_of (t := 26) rfl rfl (hk.done 2 _ 26 rfl rfl (hdep ⟨2, .guard⟩ (by simp) rfl))) (wp_value (v := .slice (some ⟨b0, o0, none⟩) m c) ?_ rfl)
                  simp [execOp, e0, Act.eval]
                · cases ho
                  refine wpOp_of rfl (wanted_of (t := 26) rfl rfl (hk.done 2 _ 26 rfl rfl (hdep ⟨2, .guard⟩ (by simp) rfl))) (wp_value (v := .int .i64 k) ?_ rfl)
                  simp [execOp, e4, Act.eval]
                · cases ho
                  have d3 := ev (show a1.eval (.tmp 27) = .slice (some ⟨b0, o0, none⟩) m c from hk.done 3 _ 27 rfl rfl (hdep ⟨3, .data⟩ (by simp) rfl))
                  have d4 := ev (show a1.eval (.tmp 28) = .int .i64 k from hk.done 4 _ 28 rfl rfl (hdep ⟨4, .data⟩ (by simp) rfl))
                  refine wpOp_of rfl (wanted_of (t := 26) rfl rfl (hk.done 2 _ 26 rfl rfl (hdep ⟨2, .guard⟩ (by simp) rfl))) (wp_value (v := .pointer (some ⟨b0, o0 + k * 3, none⟩)) ?_ rfl)
                  go_simp
                · cases ho
                  have d5 := ev (show a1.eval (.tmp 29) = .pointer (some ⟨b0, o0 + k * 3, none⟩) from hk.done 5 _ 29 rfl rfl (hdep ⟨5, .data⟩ (by simp) rfl))
                  refine wpOp_of rfl (wanted_of (t := 26) rfl rfl (hk.done 2 _ 26 rfl rfl (hdep ⟨2, .guard⟩ (by simp) rfl))) (wp_value (v := .pointer (some ⟨b0, o0 + k * 3 + 2, none⟩)) ?_ rfl)
                  go_simp
                · cases ho
                  have d6 := ev (show a1.eval (.tmp 30) = .pointer (some ⟨b0, o0 + k * 3 + 2, none⟩) from hk.done 6 _ 30 rfl rfl (hdep ⟨6, .data⟩ (by simp) rfl))
                  refine wpOp_of rfl (wanted_of (t := 26) rfl rfl (hk.done 2 _ 26 rfl rfl (hdep ⟨2, .guard⟩ (by simp) rfl))) (wp_value (v := .int .i64 y.n) ?_ rfl)
                  have z1 := (hk.below.cell (p := ⟨b0, o0 + k * 3 + 2, none⟩) L0.out).trans G3.out
                  go_simp
                · cases ho
                  have d7 := ev (show a1.eval (.tmp 31) = .int .i64 y.n from hk.done 7 _ 31 rfl rfl (hdep ⟨7, .data⟩ (by simp) rfl))
                  refine wpOp_of rfl (wanted_of (t := 26) rfl rfl (hk.done 2 _ 26 rfl rfl (hdep ⟨2, .guard⟩ (by simp) rfl))) (wp_value (v := .bool false) ?_ rfl)
                  go_simp
                · cases ho
                  have d2 := ev (show a1.eval (.tmp 26) = .bool false from hk.done 2 _ 26 rfl rfl (hdep ⟨2, .data⟩ (by simp) rfl))
                  have d8 := ev (show a1.eval (.tmp 32) = .bool false from hk.done 8 _ 32 rfl rfl (hdep ⟨8, .data⟩ (by simp) rfl))
                  refine wpOp_of rfl rfl (wp_value (v := .bool false) ?_ rfl)
                  go_simp
                · cases ho
                  have d9 := ev (show a1.eval (.tmp 33) = .bool false from hk.done 9 _ 33 rfl rfl (hdep ⟨9, .data⟩ (by simp) rfl))
                  refine wpOp_of rfl rfl (wp_value (v := .bool false) ?_ rfl)
                  simp [execOp, d9, Act.eval]
                · cases ho
                  refine wpOp_of rfl (wanted_of (t := 34) rfl rfl (hk.done 10 _ 34 rfl rfl (hdep ⟨10, .guard⟩ (by simp) rfl))) (wp_value (v := .int .i64 k) ?_ rfl)
                  simp [execOp, e4, Act.eval]
                · cases ho
                  have d11 := ev (show a1.eval (.tmp 35) = .int .i64 k from hk.done 11 _ 35 rfl rfl (hdep ⟨11, .data⟩ (by simp) rfl))
                  refine wpOp_of rfl (wanted_of (t := 34) rfl rfl (hk.done 10 _ 34 rfl rfl (hdep ⟨10, .guard⟩ (by simp) rfl))) (wp_value (v := .bool false) ?_ rfl)
                  go_simp
                · cases ho
                  have d12 := ev (show a1.eval (.tmp 36) = .bool false from hk.done 12 _ 36 rfl rfl (hdep ⟨12, .data⟩ (by simp) rfl))
                  refine wpOp_of rfl (wanted_of (t := 34) rfl rfl (hk.done 10 _ 34 rfl rfl (hdep ⟨10, .guard⟩ (by simp) rfl))) (wp_value (v := .bool false) ?_ rfl)
                  simp [execOp, d12, Act.eval]
                · cases ho
                  exact wpOp_skip rfl (unwanted_of (t := 37) rfl rfl (hk.done 13 _ 37 rfl rfl (hdep ⟨13, .guard⟩ (by simp) rfl)) (by decide)) ⟨undef, rfl, rfl, Below.refl _ _⟩
                · cases ho
                  exact wpOp_skip rfl (unwanted_of (t := 37) rfl rfl (hk.done 13 _ 37 rfl rfl (hdep ⟨13, .guard⟩ (by simp) rfl)) (by decide)) ⟨undef, rfl, rfl, Below.refl _ _⟩
                · cases ho
                  exact wpOp_skip rfl (unwanted_of (t := 37) rfl rfl (hk.done 13 _ 37 rfl rfl (hdep ⟨13, .guard⟩ (by simp) rfl)) (by decide)) ⟨undef, rfl, rfl, Below.refl _ _⟩
                · cases ho
                  exact wpOp_skip rfl (unwanted_of (t := 37) rfl rfl (hk.done 13 _ 37 rfl rfl (hdep ⟨13, .guard⟩ (by simp) rfl)) (by decide)) ⟨undef, rfl, rfl, Below.refl _ _⟩
                · cases ho
                  exact wpOp_skip rfl (unwanted_of (t := 37) rfl rfl (hk.done 13 _ 37 rfl rfl (hdep ⟨13, .guard⟩ (by simp) rfl)) (by decide)) ⟨undef, rfl, rfl, Below.refl _ _⟩
                · cases ho
                  exact wpOp_skip rfl (unwanted_of (t := 37) rfl rfl (hk.done 13 _ 37 rfl rfl (hdep ⟨13, .guard⟩ (by simp) rfl)) (by decide)) ⟨undef, rfl, rfl, Below.refl _ _⟩
                · cases ho
                  exact wpOp_skip rfl (unwanted_of (t := 37) rfl rfl (hk.done 13 _ 37 rfl rfl (hdep ⟨13, .guard⟩ (by simp) rfl)) (by decide)) ⟨undef, rfl, rfl, Below.refl _ _⟩
                · cases ho
                  exact wpOp_skip rfl (unwanted_of (t := 37) rfl rfl (hk.done 13 _ 37 rfl rfl (hdep ⟨13, .guard⟩ (by simp) rfl)) (by decide)) ⟨undef, rfl, rfl, Below.refl _ _⟩
                · cases ho
                  exact wpOp_skip rfl (unwanted_of (t := 37) rfl rfl (hk.done 13 _ 37 rfl rfl (hdep ⟨13, .guard⟩ (by simp) rfl)) (by decide)) ⟨undef, rfl, rfl, Below.refl _ _⟩
                · cases ho
                  exact wpOp_skip rfl (unwanted_of (t := 37) rfl rfl (hk.done 13 _ 37 rfl rfl (hdep ⟨13, .guard⟩ (by simp) rfl)) (by decide)) ⟨undef, rfl, rfl, Below.refl _ _⟩
                · cases ho
                  exact wpOp_skip rfl (unwanted_of (t := 37) rfl rfl (hk.done 13 _ 37 rfl rfl (hdep ⟨13, .guard⟩ (by simp) rfl)) (by decide)) ⟨undef, rfl, rfl, Below.refl _ _⟩
                · cases ho
                  exact wpOp_skip rfl (unwanted_of (t := 37) rfl rfl (hk.done 13 _ 37 rfl rfl (hdep ⟨13, .guard⟩ (by simp) rfl)) (by decide)) ⟨undef, rfl, rfl, Below.refl _ _⟩
                · cases ho
                  exact wpOp_skip rfl (unwanted_of (t := 37) rfl rfl (hk.done 13 _ 37 rfl rfl (hdep ⟨13, .guard⟩ (by simp) rfl)) (by decide)) ⟨undef, rfl, rfl, Below.refl _ _⟩
                · cases ho
                  have d13 := ev (show a1.eval (.tmp 37) = .bool false from hk.done 13 _ 37 rfl rfl (hdep ⟨13, .data⟩ (by simp) rfl))
                  have d26 := ev (show a1.eval (.tmp 50) = undef from hk.done 26 _ 50 rfl rfl (hdep ⟨26, .data⟩ (by simp) rfl))
                  refine wpOp_of rfl (wanted_of (t := 34) rfl rfl (hk.done 10 _ 34 rfl rfl (hdep ⟨10, .guard⟩ (by simp) rfl))) (wp_value (v := .bool false) ?_ rfl)
                  go_simp
                · cases ho
                  have d10 := ev (show a1.eval (.tmp 34) = .bool false from hk.done 10 _ 34 rfl rfl (hdep ⟨10, .data⟩ (by simp) rfl))
                  have d27 := ev (show a1.eval (.tmp 51) = .bool false from hk.done 27 _ 51 rfl rfl (hdep ⟨27, .data⟩ (by simp) rfl))
                  refine wpOp_of rfl rfl (wp_value (v := .bool false) ?_ rfl)
                  go_simp
              case fin6 =>
                intro listed a2 w2 hk hall
                have h52 : a2.eval (.tmp 52) = .bool false := hk.done 28 _ 52 rfl rfl (hall 28 (by decide))
                have hact := kept_all [24, 25, 26, 27, 28, 29, 30, 31, 32, 33, 34, 35, 36, 37, 38, 39, 40, 41, 42, 43, 44, 45, 46, 47, 48, 49, 50, 51, 52] hk (by kernel_rfl)
                have HB := Lib.hid hk.below
                simp only [List.foldl_cons, List.foldl_nil, List.setIfInBounds_toArray, List.set_cons_succ, List.set_cons_zero] at hact
                generalize a2.eval (.tmp 24) = u24 at hact
                generalize a2.eval (.tmp 25) = u25 at hact
                generalize a2.eval (.tmp 26) = u26 at hact
                generalize a2.eval (.tmp 27) = u27 at hact
                generalize a2.eval (.tmp 28) = u28 at hact
                generalize a2.eval (.tmp 29) = u29 at hact
                generalize a2.eval (.tmp 30) = u30 at hact
                generalize a2.eval (.tmp 31) = u31 at hact
                generalize a2.eval (.tmp 32) = u32 at hact
                generalize a2.eval (.tmp 33) = u33 at hact
                generalize a2.eval (.tmp 34) = u34 at hact
                generalize a2.eval (.tmp 35) = u35 at hact
                generalize a2.eval (.tmp 36) = u36 at hact
                generalize a2.eval (.tmp 37) = u37 at hact
                generalize a2.eval (.tmp 38) = u38 at hact
                generalize a2.eval (.tmp 39) = u39 at hact
                generalize a2.eval (.tmp 40) = u40 at hact
                generalize a2.eval (.tmp 41) = u41 at hact
                generalize a2.eval (.tmp 42) = u42 at hact
                generalize a2.eval (.tmp 43) = u43 at hact
                generalize a2.eval (.tmp 44) = u44 at hact
                generalize a2.eval (.tmp 45) = u45 at hact
                generalize a2.eval (.tmp 46) = u46 at hact
                generalize a2.eval (.tmp 47) = u47 at hact
                generalize a2.eval (.tmp 48) = u48 at hact
                generalize a2.eval (.tmp 49) = u49 at hact
                generalize a2.eval (.tmp 50) = u50 at hact
                generalize a2.eval (.tmp 51) = u51 at hact
                generalize a2.eval (.tmp 52) = u52 at hact h52
                rw [hact]
                clear hact
                go_wp2
                go_meet
                first | exact ⟨h52, HB.out⟩ | exact ⟨rfl, HB.out⟩
            case rest =>
              obtain ⟨rfl, hbx⟩ := hcut
              have HBX := Lib.hid (HB3.out.trans (hbx.mono HB3.out.size))
              have hUX := own_below HU3.out hbx
              have y1 := (hbx.cell (p := ⟨b0, o0 + k * 3 + 2, none⟩) L0.out).trans G3.out
              have hwx := hbx.size
              have htl : (amts (l.take k)).length ≤ 1000 := by rw [List.length_map, List.length_take]; omega
              generalize amts (l.take k) = am at *
              clear hbx
              go_wp2_with (at_builtin; refine wpList_append_own_at _ rfl (.tmp 53) (.tmp 59) 56 rfl w.heap.size 2 i0 (.int .i64 0) 1 8 Tryd.underlying56 hi hzz0 hz1 hz2 rfl (by decide) _ _ _ rfl (hUX.alloc _) ⟨wc.heap.size, 0, none⟩ 1 1 [.int .i64 y.n] rfl rfl (cell_one_new _ _ _) (Mny.one_int _) ?c1 ?c2 ?c3 ?_)
              case c1 => unfold maxLen; omega
              case c2 => omega
              case c3 => first | omega | (simp; omega)
              intro v' w7 hu7 hg7 _ _
              have HB7 : Hid (Below w.heap.size w w7) := (HBX.out.alloc (by omega) _).grown hg7 (by simp; omega) (fun j hj => by have := (hUX.lt j hj).1; omega)
              have HU7 : Hid (w7.ownsRow w.heap.size 2 1 v' (amts (l.take (k + 1))).length ((amts (l.take (k + 1))).map (Value.int .i64))) := by
                show World.ownsRow _ _ _ _ _ _ _
                rw [HTk.out]; simpa using hu7
              clear hu7 hg7 hUX y1 htl
              go_wp2_with fail
              go_roundw
              case rel => exact ⟨k + 1, by omega, by go_num, HOK.out, HU7.out, HB7.out⟩
              case measure => simp [intOf]; omega
          · obtain ⟨q, hqd⟩ : ∃ q, q = k - 1 := ⟨_, rfl⟩
            have hk0' : (0 : Int) < k := by omega
            have hk0n : 0 < k := by omega
            have hk0d : decide (0 < k) = true := decide_eq_true hk0n
            have hqk : q < k := by omega
            have hql : q < l.length := by omega
            have HSUB : Hid ((k : Int) - 1 = q) := by show _ = _; omega
            have hqi : (q : Int) < m := by omega
            have HMQ := Lib.hid (okB_may hql (HR.out q hqk))
            obtain ⟨⟨v1, v2⟩, v3, v4⟩ := HF.out _ (List.getElem_mem hql)
            have HOR := Lib.hid (fun (W : World) => rorder_any l[q].k y.k l[q].s y.s W v3 f3 HMQ.out.1 HMA.out.symm)
            have HOKT : Hid (ltX l[q] y = true → ∀ j, j < k + 1 → okB l j = true) := fun hs j hj => by
              rcases Nat.lt_or_ge j k with h | h
              · exact HR.out j h
              · obtain rfl : j = k := by omega
                obtain rfl : j = q + 1 := by omega
                rw [okB_succ hlt', HMY.out, ← HYE.out, hs]
                rw [HYE.out]
                simpa using HNY.out
            have HOKF : Hid (ltX l[q] y = false → R = false) := fun hs => HN.out k hlt' (by
              obtain rfl : k = q + 1 := by omega
              rw [okB_succ hlt', ← HYE.out, hs]; simp)
            obtain ⟨b1, o1, e1, -, z1, z2, z3⟩ := (HLK.out w3 HB3.out) q hql
            injection e1 with e1
            injection e1 with e1 e1'
            subst e1 e1'
            have HCM : Hid ((ordA (nmA l[q].k l[q].s) (nmA y.k y.s) != -1) = !ltX l[q] y) := by
              show _ = _
              have h7 : cmpX l[q] y = ordA (nmA l[q].k l[q].s) (nmA y.k y.s) := rfl
              rw [← h7]
              cases h8 : ltX l[q] y with
              | true => rw [cmp_lt h8]; rfl
              | false => have := cmp_ge h8; simp; omega
            generalize ltX l[q] y = lt at HOKT HOKF HCM
            generalize ordA (nmA l[q].k l[q].s) (nmA y.k y.s) = od at HOR HCM
            generalize l[q] = x at *
            have Q1 := Lib.hid z1
            have Q2 := Lib.hid z2
            have hqi0 : ¬ (q : Int) < 0 := by omega
            clear hqd z1 z2 z3 hk0 v1 v2 v3 v4 g1 g2 g3
            go_upto_region 6 with fail
            go_cut [52] from 24 to 52 (fun s52 wx => s52 = .bool (od != -1) ∧ Below w3.heap.size w3 wx)
            case first =>
              refine wp_region_by (by kernel_rfl) (Phi [.val (.bool true), .val (.bool false), .val (.bool false), .val (.slice (some ⟨b0, o0, none⟩) m c), .val (.int .i64 k), .val (.pointer (some ⟨b0, o0 + k * 3, none⟩)), .val (.pointer (some ⟨b0, o0 + k * 3 + 2, none⟩)), .val (.int .i64 y.n), .val (.bool false), .val (.bool false), .val (.bool false), .val (.int .i64 k), .val (.bool true), .val (.bool true), .val (.slice (some ⟨b0, o0, none⟩) m c), .val (.int .i64 k), .val (.int .i64 q), .val (.pointer (some ⟨b0, o0 + q * 3, none⟩)), .val (.pointer (some ⟨b0, o0 + q * 3, none⟩)), .val (acc x.k x.s), .val (.slice (some ⟨b0, o0, none⟩) m c), .val (.int .i64 k), .val (.pointer (some ⟨b0, o0 + k * 3, none⟩)), .val (.pointer (some ⟨b0, o0 + k * 3, none⟩)), .val (acc y.k y.s), .val (.int .i64 od), .val (.bool (od != -1)), .val (.bool (od != -1)), .val (.bool (od != -1))]) (phi_stab _) (by kernel_rfl) ?step6 ?fin6
              case step6 =>
                intro i o listed a1 w4 ho hk hdep
                have hi : i < 29 := (Array.getElem?_eq_some_iff.1 ho).1
                have e0 := ev (show a1.eval (.tmp 0) = .slice (some ⟨b0, o0, none⟩) m c from hk.frame 0 (frame_of (by kernel_rfl)))
                have e4 := ev (show a1.eval (.tmp 4) = .int .i64 k from hk.frame 4 (frame_of (by kernel_rfl)))
                have e6 := ev (show a1.eval (.tmp 6) = .bool true from hk.frame 6 (frame_of (by kernel_rfl)))
                have hii : i = 0 ∨ i = 1 ∨ i = 2 ∨ i = 3 ∨ i = 4 ∨ i = 5 ∨ i = 6 ∨ i = 7 ∨ i = 8 ∨ i = 9 ∨ i = 10 ∨ i = 11 ∨ i = 12 ∨ i = 13 ∨ i = 14 ∨ i = 15 ∨ i = 16 ∨ i = 17 ∨ i = 18 ∨ i = 19 ∨ i = 20 ∨ i = 21 ∨ i = 22 ∨ i = 23 ∨ i = 24 ∨ i = 25 ∨ i = 26 ∨ i = 27 ∨ i = 28 := by omega
                rcases hii with rfl | rfl | rfl | rfl | rfl | rfl | rfl | rfl | rfl | rfl | rfl | rfl | rfl | rfl | rfl | rfl | rfl | rfl | rfl | rfl | rfl | rfl | rfl | rfl | rfl | rfl | rfl | rfl | rfl
                · cases ho
                  refine wpOp_of rfl rfl (wp_value (v := .bool true) ?_ rfl)
                  simp [execOp, e6, Act.eval]
                · cases ho
                  have d0 := ev (show a1.eval (.tmp 24) = .bool true from hk.done 0 _ 24 rfl rfl (hdep ⟨0, .data⟩ (by simp) rfl))
                  refine wpOp_of rfl rfl (wp_value (v := .bool false) ?_ rfl)
                  go_simp
                · cases ho
                  have d1 := ev (show a1.eval (.tmp 25) = .bool false from hk.done 1 _ 25 rfl rfl (hdep ⟨1, .data⟩ (by simp) rfl))
                  refine wpOp_of rfl rfl (wp_value (v := .bool false) ?_ rfl)
                  simp [execOp, d1, Act.eval]
                · cases ho
                  refine wpOp_of rfl (wanted_of (t := 26) rfl rfl (hk.done 2 _ 26 rfl rfl (hdep ⟨2, .guard⟩ (by simp) rfl))) (wp_value (v := .slice (some ⟨b0, o0, none⟩) m c) ?_ rfl)
                  simp [execOp, e0, Act.eval]
                · cases ho
                  refine wpOp_of rfl (wanted_of (t := 26) rfl rfl (hk.done 2 _ 26 rfl rfl (hdep ⟨2, .guard⟩ (by simp) rfl))) (wp_value (v := .int .i64 k) ?_ rfl)
                  simp [execOp, e4, Act.eval]
                · cases ho
                  have d3 := ev (show a1.eval (.tmp 27) = .slice (some ⟨b0, o0, none⟩) m c from hk.done 3 _ 27 rfl rfl (hdep ⟨3, .data⟩ (by simp) rfl))
                  have d4 := ev (show a1.eval (.tmp 28) = .int .i64 k from hk.done 4 _ 28 rfl rfl (hdep ⟨4, .data⟩ (by simp) rfl))
                  refine wpOp_of rfl (wanted_of (t := 26) rfl rfl (hk.done 2 _ 26 rfl rfl (hdep ⟨2, .guard⟩ (by simp) rfl))) (wp_value (v := .pointer (some ⟨b0, o0 + k * 3, none⟩)) ?_ rfl)
                  go_simp
                · cases ho
                  have d5 := ev (show a1.eval (.tmp 29) = .pointer (some ⟨b0, o0 + k * 3, none⟩) from hk.done 5 _ 29 rfl rfl (hdep ⟨5, .data⟩ (by simp) rfl))
                  refine wpOp_of rfl (wanted_of (t := 26) rfl rfl (hk.done 2 _ 26 rfl rfl (hdep ⟨2, .guard⟩ (by simp) rfl))) (wp_value (v := .pointer (some ⟨b0, o0 + k * 3 + 2, none⟩)) ?_ rfl)
                  go_simp
                · cases ho
                  have d6 := ev (show a1.eval (.tmp 30) = .pointer (some ⟨b0, o0 + k * 3 + 2, none⟩) from hk.done 6 _ 30 rfl rfl (hdep ⟨6, .data⟩ (by simp) rfl))
                  refine wpOp_of rfl (wanted_of (t := 26) rfl rfl (hk.done 2 _ 26 rfl rfl (hdep ⟨2, .guard⟩ (by simp) rfl))) (wp_value (v := .int .i64 y.n) ?_ rfl)
                  have z1 := (hk.below.cell (p := ⟨b0, o0 + k * 3 + 2, none⟩) L0.out).trans G3.out
                  go_simp
                · cases ho
                  have d7 := ev (show a1.eval (.tmp 31) = .int .i64 y.n from hk.done 7 _ 31 rfl rfl (hdep ⟨7, .data⟩ (by simp) rfl))
                  refine wpOp_of rfl (wanted_of (t := 26) rfl rfl (hk.done 2 _ 26 rfl rfl (hdep ⟨2, .guard⟩ (by simp) rfl))) (wp_value (v := .bool false) ?_ rfl)
                  go_simp
                · cases ho
                  have d2 := ev (show a1.eval (.tmp 26) = .bool false from hk.done 2 _ 26 rfl rfl (hdep ⟨2, .data⟩ (by simp) rfl))
                  have d8 := ev (show a1.eval (.tmp 32) = .bool false from hk.done 8 _ 32 rfl rfl (hdep ⟨8, .data⟩ (by simp) rfl))
                  refine wpOp_of rfl rfl (wp_value (v := .bool false) ?_ rfl)
                  go_simp
                · cases ho
                  have d9 := ev (show a1.eval (.tmp 33) = .bool false from hk.done 9 _ 33 rfl rfl (hdep ⟨9, .data⟩ (by simp) rfl))
                  refine wpOp_of rfl rfl (wp_value (v := .bool false) ?_ rfl)
                  simp [execOp, d9, Act.eval]
                · cases ho
                  refine wpOp_of rfl (wanted_of (t := 34) rfl rfl (hk.done 10 _ 34 rfl rfl (hdep ⟨10, .guard⟩ (by simp) rfl))) (wp_value (v := .int .i64 k) ?_ rfl)
                  simp [execOp, e4, Act.eval]
                · cases ho
                  have d11 := ev (show a1.eval (.tmp 35) = .int .i64 k from hk.done 11 _ 35 rfl rfl (hdep ⟨11, .data⟩ (by simp) rfl))
                  refine wpOp_of rfl (wanted_of (t := 34) rfl rfl (hk.done 10 _ 34 rfl rfl (hdep ⟨10, .guard⟩ (by simp) rfl))) (wp_value (v := .bool true) ?_ rfl)
                  go_simp
                · cases ho
                  have d12 := ev (show a1.eval (.tmp 36) = .bool true from hk.done 12 _ 36 rfl rfl (hdep ⟨12, .data⟩ (by simp) rfl))
                  refine wpOp_of rfl (wanted_of (t := 34) rfl rfl (hk.done 10 _ 34 rfl rfl (hdep ⟨10, .guard⟩ (by simp) rfl))) (wp_value (v := .bool true) ?_ rfl)
                  simp [execOp, d12, Act.eval]
                · cases ho
                  refine wpOp_of rfl (wanted_of (t := 37) rfl rfl (hk.done 13 _ 37 rfl rfl (hdep ⟨13, .guard⟩ (by simp) rfl))) (wp_value (v := .slice (some ⟨b0, o0, none⟩) m c) ?_ rfl)
                  simp [execOp, e0, Act.eval]
                · cases ho
                  refine wpOp_of rfl (wanted_of (t := 37) rfl rfl (hk.done 13 _ 37 rfl rfl (hdep ⟨13, .guard⟩ (by simp) rfl))) (wp_value (v := .int .i64 k) ?_ rfl)
                  simp [execOp, e4, Act.eval]
                · cases ho
                  have d15 := ev (show a1.eval (.tmp 39) = .int .i64 k from hk.done 15 _ 39 rfl rfl (hdep ⟨15, .data⟩ (by simp) rfl))
                  refine wpOp_of rfl (wanted_of (t := 37) rfl rfl (hk.done 13 _ 37 rfl rfl (hdep ⟨13, .guard⟩ (by simp) rfl))) (wp_value (v := .int .i64 (q : Int)) ?_ rfl)
                  go_simp
                  rw [IntKind.wrap_i64]; have h9 := HSUB.out; omega
                · cases ho
                  have d14 := ev (show a1.eval (.tmp 38) = .slice (some ⟨b0, o0, none⟩) m c from hk.done 14 _ 38 rfl rfl (hdep ⟨14, .data⟩ (by simp) rfl))
                  have d16 := ev (show a1.eval (.tmp 40) = .int .i64 q from hk.done 16 _ 40 rfl rfl (hdep ⟨16, .data⟩ (by simp) rfl))
                  refine wpOp_of rfl (wanted_of (t := 37) rfl rfl (hk.done 13 _ 37 rfl rfl (hdep ⟨13, .guard⟩ (by simp) rfl))) (wp_value (v := .pointer (some ⟨b0, o0 + q * 3, none⟩)) ?_ rfl)
                  go_simp
                · cases ho
                  have d17 := ev (show a1.eval (.tmp 41) = .pointer (some ⟨b0, o0 + q * 3, none⟩) from hk.done 17 _ 41 rfl rfl (hdep ⟨17, .data⟩ (by simp) rfl))
                  refine wpOp_of rfl (wanted_of (t := 37) rfl rfl (hk.done 13 _ 37 rfl rfl (hdep ⟨13, .guard⟩ (by simp) rfl))) (wp_value (v := .pointer (some ⟨b0, o0 + q * 3, none⟩)) ?_ rfl)
                  go_simp
                · cases ho
                  have d18 := ev (show a1.eval (.tmp 42) = .pointer (some ⟨b0, o0 + q * 3, none⟩) from hk.done 18 _ 42 rfl rfl (hdep ⟨18, .data⟩ (by simp) rfl))
                  refine wpOp_of rfl (wanted_of (t := 37) rfl rfl (hk.done 13 _ 37 rfl rfl (hdep ⟨13, .guard⟩ (by simp) rfl))) (wp_value (v := acc x.k x.s) ?_ rfl)
                  have z1 := (hk.below.cell (p := ⟨b0, o0 + q * 3, none⟩) L0.out).trans Q1.out
                  have z2 := (hk.below.cell (p := ⟨b0, o0 + q * 3 + 1, none⟩) L0.out).trans Q2.out
                  go_simp
                · cases ho
                  refine wpOp_of rfl (wanted_of (t := 37) rfl rfl (hk.done 13 _ 37 rfl rfl (hdep ⟨13, .guard⟩ (by simp) rfl))) (wp_value (v := .slice (some ⟨b0, o0, none⟩) m c) ?_ rfl)
                  simp [execOp, e0, Act.eval]
                · cases ho
                  refine wpOp_of rfl (wanted_of (t := 37) rfl rfl (hk.done 13 _ 37 rfl rfl (hdep ⟨13, .guard⟩ (by simp) rfl))) (wp_value (v := .int .i64 k) ?_ rfl)
                  simp [execOp, e4, Act.eval]
                · cases ho
                  have d20 := ev (show a1.eval (.tmp 44) = .slice (some ⟨b0, o0, none⟩) m c from hk.done 20 _ 44 rfl rfl (hdep ⟨20, .data⟩ (by simp) rfl))
                  have d21 := ev (show a1.eval (.tmp 45) = .int .i64 k from hk.done 21 _ 45 rfl rfl (hdep ⟨21, .data⟩ (by simp) rfl))
                  refine wpOp_of rfl (wanted_of (t := 37) rfl rfl (hk.done 13 _ 37 rfl rfl (hdep ⟨13, .guard⟩ (by simp) rfl))) (wp_value (v := .pointer (some ⟨b0, o0 + k * 3, none⟩)) ?_ rfl)
                  go_simp
                · cases ho
                  have d22 := ev (show a1.eval (.tmp 46) = .pointer (some ⟨b0, o0 + k * 3, none⟩) from hk.done 22 _ 46 rfl rfl (hdep ⟨22, .data⟩ (by simp) rfl))
                  refine wpOp_of rfl (wanted_of (t := 37) rfl rfl (hk.done 13 _ 37 rfl rfl (hdep ⟨13, .guard⟩ (by simp) rfl))) (wp_value (v := .pointer (some ⟨b0, o0 + k * 3, none⟩)) ?_ rfl)
                  go_simp
                · cases ho
                  have d23 := ev (show a1.eval (.tmp 47) = .pointer (some ⟨b0, o0 + k * 3, none⟩) from hk.done 23 _ 47 rfl rfl (hdep ⟨23, .data⟩ (by simp) rfl))
                  refine wpOp_of rfl (wanted_of (t := 37) rfl rfl (hk.done 13 _ 37 rfl rfl (hdep ⟨13, .guard⟩ (by simp) rfl))) (wp_value (v := acc y.k y.s) ?_ rfl)
                  have z1 := (hk.below.cell (p := ⟨b0, o0 + k * 3, none⟩) L0.out).trans G1.out
                  have z2 := (hk.below.cell (p := ⟨b0, o0 + k * 3 + 1, none⟩) L0.out).trans G2.out
                  go_simp
                · cases ho
                  have d19 := ev (show a1.eval (.tmp 43) = acc x.k x.s from hk.done 19 _ 43 rfl rfl (hdep ⟨19, .data⟩ (by simp) rfl))
                  have d24 := ev (show a1.eval (.tmp 48) = acc y.k y.s from hk.done 24 _ 48 rfl rfl (hdep ⟨24, .data⟩ (by simp) rfl))
                  refine wpOp_of rfl (wanted_of (t := 37) rfl rfl (hk.done 13 _ 37 rfl rfl (hdep ⟨13, .guard⟩ (by simp) rfl))) ?_
                  go_simp
                  refine (HOR.out w4).mono ?_
                  rintro e w5 ⟨rfl, hb4⟩
                  exact ⟨_, rfl, rfl, hb4⟩
                · cases ho
                  have d25 := ev (show a1.eval (.tmp 49) = .int .i64 od from hk.done 25 _ 49 rfl rfl (hdep ⟨25, .data⟩ (by simp) rfl))
                  refine wpOp_of rfl (wanted_of (t := 37) rfl rfl (hk.done 13 _ 37 rfl rfl (hdep ⟨13, .guard⟩ (by simp) rfl))) (wp_value (v := .bool (od != -1)) ?_ rfl)
                  go_simp
                · cases ho
                  have d13 := ev (show a1.eval (.tmp 37) = .bool true from hk.done 13 _ 37 rfl rfl (hdep ⟨13, .data⟩ (by simp) rfl))
                  have d26 := ev (show a1.eval (.tmp 50) = .bool (od != -1) from hk.done 26 _ 50 rfl rfl (hdep ⟨26, .data⟩ (by simp) rfl))
                  refine wpOp_of rfl (wanted_of (t := 34) rfl rfl (hk.done 10 _ 34 rfl rfl (hdep ⟨10, .guard⟩ (by simp) rfl))) (wp_value (v := .bool (od != -1)) ?_ rfl)
                  go_simp
                · cases ho
                  have d10 := ev (show a1.eval (.tmp 34) = .bool false from hk.done 10 _ 34 rfl rfl (hdep ⟨10, .data⟩ (by simp) rfl))
                  have d27 := ev (show a1.eval (.tmp 51) = .bool (od != -1) from hk.done 27 _ 51 rfl rfl (hdep ⟨27, .data⟩ (by simp) rfl))
                  refine wpOp_of rfl rfl (wp_value (v := .bool (od != -1)) ?_ rfl)
                  go_simp
              case fin6 =>
                intro listed a2 w2 hk hall
                have h52 : a2.eval (.tmp 52) = .bool (od != -1) := hk.done 28 _ 52 rfl rfl (hall 28 (by decide))
                have hact := kept_all [24, 25, 26, 27, 28, 29, 30, 31, 32, 33, 34, 35, 36, 37, 38, 39, 40, 41, 42, 43, 44, 45, 46, 47, 48, 49, 50, 51, 52] hk (by kernel_rfl)
                have HB := Lib.hid hk.below
                simp only [List.foldl_cons, List.foldl_nil, List.setIfInBounds_toArray, List.set_cons_succ, List.set_cons_zero] at hact
                generalize a2.eval (.tmp 24) = u24 at hact
                generalize a2.eval (.tmp 25) = u25 at hact
                generalize a2.eval (.tmp 26) = u26 at hact
                generalize a2.eval (.tmp 27) = u27 at hact
                generalize a2.eval (.tmp 28) = u28 at hact
                generalize a2.eval (.tmp 29) = u29 at hact
                generalize a2.eval (.tmp 30) = u30 at hact
                generalize a2.eval (.tmp 31) = u31 at hact
                generalize a2.eval (.tmp 32) = u32 at hact
                generalize a2.eval (.tmp 33) = u33 at hact
                generalize a2.eval (.tmp 34) = u34 at hact
                generalize a2.eval (.tmp 35) = u35 at hact
                generalize a2.eval (.tmp 36) = u36 at hact
                generalize a2.eval (.tmp 37) = u37 at hact
                generalize a2.eval (.tmp 38) = u38 at hact
                generalize a2.eval (.tmp 39) = u39 at hact
                generalize a2.eval (.tmp 40) = u40 at hact
                generalize a2.eval (.tmp 41) = u41 at hact
                generalize a2.eval (.tmp 42) = u42 at hact
                generalize a2.eval (.tmp 43) = u43 at hact
                generalize a2.eval (.tmp 44) = u44 at hact
                generalize a2.eval (.tmp 45) = u45 at hact
                generalize a2.eval (.tmp 46) = u46 at hact
                generalize a2.eval (.tmp 47) = u47 at hact
                generalize a2.eval (.tmp 48) = u48 at hact
                generalize a2.eval (.tmp 49) = u49 at hact
                generalize a2.eval (.tmp 50) = u50 at hact
                generalize a2.eval (.tmp 51) = u51 at hact
                generalize a2.eval (.tmp 52) = u52 at hact h52
                rw [hact]
                clear hact
                go_wp2
                go_meet
                first | exact ⟨h52, HB.out⟩ | exact ⟨rfl, HB.out⟩
            case rest =>
              obtain ⟨rfl, hbx⟩ := hcut
              cases lt with
              | false =>
                have HRR := Lib.hid (HOKF.out rfl)
                have HBX := Lib.hid (HB3.out.trans (hbx.mono HB3.out.size))
                rw [HCM.out]
                clear hbx
                go_wp2_with fail
                go_ret
                exact ⟨retb HRR.out.symm, HBX.out⟩
              | true =>
                have HOK := Lib.hid (HOKT.out rfl)
                rw [HCM.out]
                have HBX := Lib.hid (HB3.out.trans (hbx.mono HB3.out.size))
                have hUX := own_below HU3.out hbx
                have y1 := (hbx.cell (p := ⟨b0, o0 + k * 3 + 2, none⟩) L0.out).trans G3.out
                have hwx := hbx.size
                have htl : (amts (l.take k)).length ≤ 1000 := by rw [List.length_map, List.length_take]; omega
                generalize amts (l.take k) = am at *
                clear hbx
                go_wp2_with (at_builtin; refine wpList_append_own_at _ rfl (.tmp 53) (.tmp 59) 56 rfl w.heap.size 2 i0 (.int .i64 0) 1 8 Tryd.underlying56 hi hzz0 hz1 hz2 rfl (by decide) _ _ _ rfl (hUX.alloc _) ⟨wc.heap.size, 0, none⟩ 1 1 [.int .i64 y.n] rfl rfl (cell_one_new _ _ _) (Mny.one_int _) ?c1 ?c2 ?c3 ?_)
                case c1 => unfold maxLen; omega
                case c2 => omega
                case c3 => first | omega | (simp; omega)
                intro v' w7 hu7 hg7 _ _
                have HB7 : Hid (Below w.heap.size w w7) := (HBX.out.alloc (by omega) _).grown hg7 (by simp; omega) (fun j hj => by have := (hUX.lt j hj).1; omega)
                have HU7 : Hid (w7.ownsRow w.heap.size 2 1 v' (amts (l.take (k + 1))).length ((amts (l.take (k + 1))).map (Value.int .i64))) := by
                  show World.ownsRow _ _ _ _ _ _ _
                  rw [HTk.out]; simpa using hu7
                clear hu7 hg7 hUX y1 htl
                go_wp2_with fail
                go_roundw
                case rel => exact ⟨k + 1, by omega, by go_num, HOK.out, HU7.out, HB7.out⟩
                case measure => simp [intOf]; omega
    · obtain rfl : k = m := by omega
      have HRR := Lib.hid (HY.out (by rw [HM.out]; exact HR.out))
      have hown := HU.out
      rw [show l.take k = l by rw [← HM.out, List.take_length]] at hown
      obtain ⟨A2, c2', rfl, HI⟩ := ints_of hown
      have HSm := Lib.hid (Mny.rsum_any A2 (amts l) c2' wr HI (amts_fit HF.out) (by rw [List.length_map, HM.out]; omega))
      have HTT := Lib.hid (rsum_told (amts l).sum)
      have HSS : Hid ((amts l).sum = sumL l) := rfl
      have HLL : Hid ((amts l).length = k) := by show _ = _; rw [List.length_map]; exact HM.out
      generalize (amts l).sum = s at HSm HTT HSS
      generalize Mny.okB s = es at HSm HTT
      generalize vOf s = vs at HSm HTT
      have HRE : Hid ((decide (k ≤ 200) && (es && vs == 0)) = R) := by
        show _ = _
        rw [HTT.out, HRR.out, HSS.out, HM.out]
      generalize (amts l).length = k2 at HSm
      clear HI hown HU HTT HSS HLL
      go_wp2_with fail
      refine HSm.out.mono ?_
      rintro e w5 ⟨rfl, hb5⟩
      have HBF : Hid (Below w.heap.size w w5) := HB.out.trans (hb5.mono (by omega))
      clear hb5
      by_cases h200 : k ≤ 200
      · have h200' : (k : Int) ≤ 200 := by omega
        have HRE1 : Hid ((es && vs == 0) = R) := by show _ = _; rw [← HRE.out, decide_eq_true h200]; rfl
        clear HRE
        cases es with
        | true =>
          have HRE2 : Hid ((vs == 0) = R) := HRE1.out
          go_wp2_with fail
          go_ret
          exact ⟨retb HRE2.out, HBF.out⟩
        | false =>
          have HRE2 : Hid (false = R) := HRE1.out
          go_wp2_with fail
          go_ret
          exact ⟨retb HRE2.out, HBF.out⟩
      · have h200' : ¬ (k : Int) ≤ 200 := by omega
        have HRE2 : Hid (false = R) := by show _ = _; rw [← HRE.out, decide_eq_false h200]; rfl
        clear HRE
        go_wp2_with fail
        go_ret
        exact ⟨retb HRE2.out, HBF.out⟩

set_option maxRecDepth 20000 in
set_option maxHeartbeats 1600000 in
/-- What an account has in a book, or 0. -/
theorem get_any (A : Option Addr) (l : List Ln) (m c : Nat) (a : Ln) (w : World) (hE : Env w) (h : Lns w w.heap.size A l) (hm : l.length = m) (hl : m ≤ 1000) (hf : ∀ x ∈ l, fitL x) (ha : fitA a) :
    Calls Tryd.prog 15 #[.slice A m c, acc a.k a.s] w fun e w' => e = .returned (.int .i64 (if mayB l = true then onL l a else 0)) ∧ Below w.heap.size w w' := by
  obtain ⟨w0, hw⟩ : ∃ w0, w0 = w.alloc (.cells #[.int .i64 a.k, .string a.s] 27) := ⟨_, rfl⟩
  have hb0 : Below w.heap.size w w0 := by rw [hw]; exact (Below.refl w.heap.size w).alloc (Nat.le_refl _) _
  have hba : BoxA w.heap.size a.k a.s w0 := by rw [hw]; exact World.alloc_heap_new w _
  have hz0 : w0.heap.size = w.heap.size + 1 := by rw [hw, World.size_alloc]
  have HMY := Lib.hid (may_any A l m c w0 (hE.below hb0) ((h.below hb0 (Nat.le_refl _)).more (by omega)) hm hl hf)
  have HL := Lib.hid h
  have HBA := Lib.hid hba
  have HW := Lib.hid hw
  have HB0 := Lib.hid hb0
  have HE := Lib.hid hE
  have HM := Lib.hid hm
  have HF := Lib.hid hf
  have HA := Lib.hid ha
  clear h hw hb0 hba hE hf ha
  cases hmb : mayB l with
  | false =>
    rw [hmb] at HMY
    rw [if_neg (by decide)]
    clear hm hmb
    go_enter Tryd.func15, Tryd.ntmps15
    go_upto_region 1 with fail
    rw [← HW.out]
    go_wp2_with fail
    refine HMY.out.mono ?_
    rintro e w1 ⟨rfl, hb⟩
    go_wp2_with fail
    go_ret
    exact ⟨rfl, Below.on HB0.out hb⟩
  | true =>
    rw [hmb] at HMY
    rw [if_pos rfl]
    have HR := Lib.hid (mayB_in hmb)
    clear hm hmb
    go_enter Tryd.func15, Tryd.ntmps15
    go_upto_region 1 with fail
    rw [← HW.out]
    go_wp2_with fail
    refine HMY.out.mono ?_
    rintro e w1 ⟨rfl, hb⟩
    have HB1 := Lib.hid (HB0.out.trans (hb.mono (by omega)))
    have hz1 := hb.size
    obtain ⟨g0, g1, gf⟩ := (HBA.out.below hb (by omega)).cells
    have HP := Lib.hid (place_any A l m c a w1 (HE.out.below HB1.out) ((HL.out.below HB1.out (Nat.le_refl _)).more HB1.out.size) HM.out hl (fun x hx => (HR.out.2.1.ok x hx).1) (fun x hx => ⟨(HF.out x hx).1, (HF.out x hx).2.1⟩) HA.out)
    clear hb gf
    go_wp2_with fail
    refine HP.out.mono ?_
    rintro e w2 ⟨i, rfl, hpl, hb⟩
    have HB2 := Lib.hid (HB1.out.trans (hb.mono HB1.out.size))
    have HZ : Hid ((atB l a i = false → onL l a = 0) ∧ (atB l a i = true → ∃ h : i < l.length, onL l a = l[i].n)) := by
      show _ ∧ _
      cases hoa : okX a with
      | true =>
        obtain ⟨h1, h2⟩ := hpl.2 HR.out.2.1 hoa
        have hs := set_at HR.out.2.1 hoa hpl.1 h1 h2
        refine ⟨fun h0 => (hs.2.2 fun hj => ?_).1, fun h0 => ?_⟩
        · rw [atB_in hj, ordG_ok hoa, cmp_zero (HR.out.2.1.ok_ hj) hoa] at h0
          exact h0
        · by_cases hj : i < l.length
          · rw [atB_in hj, ordG_ok hoa, cmp_zero (HR.out.2.1.ok_ hj) hoa] at h0
            exact ⟨hj, (hs.2.1 hj h0).1⟩
          · rw [atB_out hj] at h0; cases h0
      | false =>
        refine ⟨fun _ => onL_none fun y hy => ?_, fun h0 => ?_⟩
        · cases hs : sameA y a with
          | false => rfl
          | true =>
            obtain ⟨e1, e2⟩ := same_iff.1 hs
            have := (HR.out.2.1.ok y hy).1
            unfold okX at this hoa
            rw [e1, e2, hoa] at this; cases this
        · by_cases hj : i < l.length
          · rw [atB_in hj] at h0
            exact absurd (of_decide_eq_true h0) (ordG_off (HR.out.2.1.ok_ hj) hoa)
          · rw [atB_out hj] at h0; cases h0
    have HL2 : Hid (Lns w2 w.heap.size A l) := HL.out.below HB2.out (Nat.le_refl _)
    clear hb hpl g0 g1
    generalize atB l a i = f at *
    cases f with
    | false =>
      have HX := Lib.hid (HZ.out.1 rfl)
      go_wp2_with fail
      go_ret
      exact ⟨ret1 HX.out.symm, HB2.out⟩
    | true =>
      obtain ⟨hj, hv⟩ := HZ.out.2 rfl
      have HX := Lib.hid hv
      obtain ⟨b0, o0, rfl, hb1, q1, q2, q3⟩ := HL2.out i hj
      have hji : (i : Int) < m := by rw [HM.out] at hj; omega
      have hjm : i < m := by omega
      clear hv
      generalize l[i] = x at *
      go_wp2_with fail
      go_ret
      exact ⟨ret1 HX.out.symm, HB2.out⟩
end Go.Proofs.YtejdhemnlcbffaaDoor.Bok
