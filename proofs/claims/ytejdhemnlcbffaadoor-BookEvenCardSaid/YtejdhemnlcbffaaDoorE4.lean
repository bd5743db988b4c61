/- Contract: what is wrong with an entry. Conditions: the two arrays of the program that names go by hold what their initialisers lay. -/
import Derived.Test.YtejdhemnlcbffaaDoorE2
import Derived.Test.YtejdhemnlcbffaaDoorE3
import Derived.RangeFuncBound
namespace Go.Proofs.YtejdhemnlcbffaaDoor.Ent
open Go.RowKit Go.Shelf Cht
open Mny (Fits vOf eOf vOf_t vOf_f eOf_t eOf_f Ints AllFit)
attribute [local go_sem] Oper.semAt_some

/-- What is wrong with an entry: the error's number. -/
def chk (b : Int) (r : ByteArray) (l : List Ln) : Int :=
  if (decide (0 ≤ b ∧ b ≤ 2147483647) && (mayR r && mayL l)) = false then 1 else if ¬ Fits (sumL l) then 2 else if sumL l = 0 then 0 else 12
theorem chk_batch {b : Int} {r : ByteArray} {l : List Ln} (h : ¬ (0 ≤ b ∧ b ≤ 2147483647)) : chk b r l = 1 := by
  unfold chk; rw [decide_eq_false h]; rfl
theorem chk_ref {b : Int} {r : ByteArray} {l : List Ln} (h : mayR r = false) : chk b r l = 1 := by
  unfold chk; rw [h, Bool.false_and, Bool.and_false, if_pos rfl]
theorem chk_lines {b : Int} {r : ByteArray} {l : List Ln} (h : mayL l = false) : chk b r l = 1 := by
  unfold chk; rw [h, Bool.and_false, Bool.and_false, if_pos rfl]
theorem chk_sum {b : Int} {r : ByteArray} {l : List Ln} (h : 0 ≤ b ∧ b ≤ 2147483647) (h1 : mayR r = true) (h2 : mayL l = true) :
    chk b r l = if ¬ Fits (sumL l) then 2 else if sumL l = 0 then 0 else 12 := by
  unfold chk; rw [decide_eq_true h, h1, h2]; rfl
theorem chk_ok {b : Int} {r : ByteArray} {l : List Ln} : chk b r l = 0 ↔ (0 ≤ b ∧ b ≤ 2147483647) ∧ mayR r = true ∧ mayL l = true ∧ sumL l = 0 := by
  constructor
  · intro h
    by_cases hb : 0 ≤ b ∧ b ≤ 2147483647
    · cases h1 : mayR r with
      | false => rw [chk_ref h1] at h; cases h
      | true =>
        cases h2 : mayL l with
        | false => rw [chk_lines h2] at h; cases h
        | true =>
          rw [chk_sum hb h1 h2] at h
          refine ⟨hb, rfl, rfl, ?_⟩
          split at h
          · cases h
          · split at h
            · assumption
            · cases h
    · rw [chk_batch hb] at h; cases h
  · rintro ⟨hb, h1, h2, h3⟩
    rw [chk_sum hb h1 h2, h3]; rfl
theorem mayL_len {l : List Ln} (h : mayL l = true) : 2 ≤ l.length ∧ l.length ≤ 8 := by
  rcases Decidable.em (2 ≤ l.length ∧ l.length ≤ 8) with h9 | h9
  · exact h9
  · rw [mayL_few h9] at h; cases h

/-- A box with an entry. -/
def BoxE (g : Nat) (b : Int) (r : ByteArray) (A : Option Addr) (n c : Nat) (w : World) : Prop := w.heap[g]? = some (.cells #[.int .i64 b, .string r, .slice A n c] 25 (0, 0))
theorem BoxE.cells {g : Nat} {b : Int} {r : ByteArray} {A : Option Addr} {n c : Nat} {w : World} (h : BoxE g b r A n c w) :
    w.cell? ⟨g, 0, none⟩ = some (.int .i64 b) ∧ w.cell? ⟨g, 1, none⟩ = some (.string r) ∧ w.cell? ⟨g, 2, none⟩ = some (.slice A n c) ∧ ∀ j, w.frozen? ⟨g, j, none⟩ = false := by
  unfold BoxE at h
  refine ⟨?_, ?_, ?_, fun j => ?_⟩ <;> simp [World.cell?, World.frozen?, h]
theorem BoxE.below {g B : Nat} {b : Int} {r : ByteArray} {A : Option Addr} {n c : Nat} {w w' : World} (h : BoxE g b r A n c w) (hb : Below B w w') (hr : g < B) : BoxE g b r A n c w' := (hb.block g hr).trans h
theorem BoxE.new (w : World) (b : Int) (r : ByteArray) (A : Option Addr) (n c : Nat) : BoxE w.heap.size b r A n c (w.alloc (.cells #[.int .i64 b, .string r, .slice A n c] 25)) := World.alloc_heap_new w _
theorem BoxE.lt {g : Nat} {b : Int} {r : ByteArray} {A : Option Addr} {n c : Nat} {w : World} (h : BoxE g b r A n c w) : g < w.heap.size := (Array.getElem?_eq_some_iff.1 h).1

theorem ints_of {w : World} {B : Nat} {v : Value} {l : List Int} (h : w.ownsRow B 2 1 v l.length (l.map (Value.int .i64))) :
    ∃ A c, v = .slice A l.length c ∧ Ints w w.heap.size A l := by
  rcases h.2 with ⟨rfl, hn⟩ | ⟨g, cap, cur, rfl, _⟩
  · exact ⟨none, 0, by rw [hn], fun i hi => by omega⟩
  · refine ⟨some ⟨g, 0, none⟩, cap, rfl, fun i hi => ⟨⟨g, 0, none⟩, rfl, (h.lt g rfl).2, ?_⟩⟩
    exact h.cells (g := g) rfl i _ (by simp [hi])
abbrev amts (l : List Ln) : List Int := l.map (·.n)
theorem amts_fit {l : List Ln} (hf : ∀ x ∈ l, fitL x) : AllFit (amts l) := by
  intro x hx
  obtain ⟨y, hy, rfl⟩ := List.mem_map.1 hx
  exact (hf y hy).2.2

set_option maxRecDepth 100000 in
set_option maxHeartbeats 3200000 in
theorem check_any (b : Int) (r : ByteArray) (A : Option Addr) (l : List Ln) (c : Nat) (w : World) (hE : Env w) (h : Lns w w.heap.size A l) (hl : l.length ≤ 1000) (hc : l.length ≤ c) (hf : ∀ x ∈ l, fitL x) :
    Calls Tryd.prog 32 #[.agg #[.int .i64 b, .string r, .slice A l.length c]] w fun e w' => e = .returned (.int .i64 (chk b r l)) ∧ Below w.heap.size w w' := by
  have HP := Lib.hid h
  have HE := Lib.hid hE
  have HF := Lib.hid hf
  obtain ⟨m, hm⟩ : ∃ m, m = l.length := ⟨_, rfl⟩
  have HM := Lib.hid hm
  have HL := Lib.hid (fun (W : World) (hb : Below w.heap.size w W) => lines_any A l c W (hE.below hb) (h.next hb) hl hc hf)
  have hw0 := Below.refl w.heap.size w
  obtain ⟨w0, hw⟩ : ∃ w0, w0 = w.alloc (.cells #[.int .i64 b, .string r, .slice A m c] 25) := ⟨_, rfl⟩
  have hbx : BoxE w.heap.size b r A m c w0 := by rw [hw]; exact BoxE.new _ _ _ _ _ _
  have hb0 : Below w.heap.size w w0 := by rw [hw]; exact hw0.alloc (Nat.le_refl _) _
  have HW := Lib.hid hw
  rw [← hm] at hl hc HL ⊢
  clear h hE hf hm hw0 hw
  by_cases hb1 : b < 0
  · have HR := Lib.hid (chk_batch (r := r) (l := l) (b := b) (by omega))
    obtain ⟨c0, c1, c2, cf⟩ := hbx.cells
    go_enter Tryd.func32, Tryd.ntmps32
    go_upto_region 1 with fail
    rw [← HW.out]
    go_wp2_with fail
    go_ret
    exact ⟨ret1 HR.out.symm, hb0⟩
  by_cases hb2 : 2147483647 < b
  · have HR := Lib.hid (chk_batch (r := r) (l := l) (b := b) (by omega))
    obtain ⟨c0, c1, c2, cf⟩ := hbx.cells
    go_enter Tryd.func32, Tryd.ntmps32
    go_upto_region 1 with fail
    rw [← HW.out]
    go_wp2_with fail
    go_ret
    exact ⟨ret1 HR.out.symm, hb0⟩
  cases hr : mayR r with
  | false =>
    have HR := Lib.hid (chk_ref (b := b) (l := l) hr)
    have HX := Lib.hid (fun W => ref_any r W)
    rw [hr] at HX
    obtain ⟨c0, c1, c2, cf⟩ := hbx.cells
    clear hr
    go_enter Tryd.func32, Tryd.ntmps32
    go_upto_region 1 with fail
    rw [← HW.out]
    go_wp2_with fail
    refine (HX.out _).mono ?_
    rintro e w1 ⟨rfl, hb3⟩
    go_wp2_with fail
    go_ret
    exact ⟨ret1 HR.out.symm, Below.on hb0 hb3⟩
  | true =>
    have HX := Lib.hid (fun W => ref_any r W)
    rw [hr] at HX
    cases hm2 : mayL l with
    | false =>
      have HR := Lib.hid (chk_lines (b := b) (r := r) hm2)
      rw [hm2] at HL
      obtain ⟨c0, c1, c2, cf⟩ := hbx.cells
      clear hr hm2
      go_enter Tryd.func32, Tryd.ntmps32
      go_upto_region 1 with fail
      rw [← HW.out]
      go_wp2_with fail
      refine (HX.out _).mono ?_
      rintro e w1 ⟨rfl, hb3⟩
      have hbx1 := hbx.below hb3 hbx.lt
      obtain ⟨d0, d1, d2, df⟩ := hbx1.cells
      go_wp2_with fail
      refine (HL.out _ (Below.on hb0 hb3)).mono ?_
      rintro e w2 ⟨rfl, hb4⟩
      go_wp2_with fail
      go_ret
      exact ⟨ret1 HR.out.symm, Below.on (Below.on hb0 hb3) hb4⟩
    | true =>
      have HR := Lib.hid (chk_sum (b := b) (by omega) hr hm2)
      rw [hm2] at HL
      obtain ⟨c0, c1, c2, cf⟩ := hbx.cells
      obtain ⟨i0, hi, hz0, hz1, hz2⟩ := info_parts Mny.info2
      clear hr hm2
      refine (callsIn_wide (n := 6)).1 ?_
      refine callsIn_of_wp_marks Tryd.func32 rfl trivial ?_ rfl
      simp only [Tryd.ntmps32, List.size_toArray, List.length_cons, List.length_nil, Nat.reduceAdd, Nat.reduceSub, Array.replicate_succ, Array.replicate_zero, List.push_toArray, List.append_toArray, List.nil_append, List.cons_append]
      gi_wp2_with fail
      rw [← HW.out]
      clear HW
      refine ⟨trivial, (callsIn_wide.2 (HX.out _)).mono ?_⟩
      rintro e w1 ⟨rfl, hb3⟩
      have hbx1 := hbx.below hb3 hbx.lt
      have hb4 := Below.on hb0 hb3
      clear hb3 c0 c1 c2 cf hbx hb0
      obtain ⟨c0, c1, c2, cf⟩ := hbx1.cells
      gi_wp2_with fail
      refine ⟨trivial, (callsIn_wide.2 (HL.out _ hb4)).mono ?_⟩
      rintro e w2 ⟨rfl, hb3⟩
      have hbx2 := hbx1.below hb3 hbx1.lt
      have hb5 := Below.on hb4 hb3
      clear hb3 c0 c1 c2 cf hbx1 hb4 HX HL
      have hb6 := hb5.alloc hb5.size (.cells #[.slice none 0 0] 56)
      have bA := Boxed.new w2 56 (.slice none 0 0)
      have hbx3 := hbx2.below ((Below.refl w2.heap.size w2).alloc (Nat.le_refl _) (.cells #[.slice none 0 0] 56)) hbx2.lt
      have hz3 : (w2.alloc (.cells #[.slice none 0 0] 56)).heap.size = w2.heap.size + 1 := World.size_alloc _ _
      clear hbx2
      obtain ⟨c0, c1, c2, cf⟩ := hbx3.cells
      gi_wp2_with fail
      refine ⟨trivial, (callsIn_wide.2 (amounts_any b r A m c _)).mono ?_⟩
      rintro e w4 ⟨rfl, hw4⟩
      have bA4 : Boxed w4 w2.heap.size 56 (.slice none 0 0) := by rw [← hw4]; exact bA.alloc _
      have hb7 : Below w.heap.size w w4 := by rw [← hw4]; exact hb6.alloc hb6.size _
      have hz4 : w4.heap.size = w2.heap.size + 2 := by rw [← hw4, World.size_alloc, hz3]
      have hbx4 : BoxE (w2.heap.size + 1) b r A m c w4 := by rw [← hw4, ← hz3]; exact BoxE.new _ _ _ _ _ _
      have hwz := hb5.size
      rw [hz3]
      clear hw4 c0 c1 c2 cf hbx3 bA hb6 hz3
      have HLN : Hid (Lns w4 w.heap.size A l) := HP.out.below hb7 (Nat.le_refl _)
      obtain ⟨d0, d1, d2, df⟩ := hbx4.cells
      have HSt := Lib.hid (amt_stops 5 (w2.heap.size + 1) w.heap.size c A l w4 (by omega) (by rw [← HM.out]; exact hl) (by rw [← HM.out]; exact d2) (by omega) HLN.out (by omega))
      have HB7 := Lib.hid hb7
      clear d0 d1 d2 df hb7
      gi_wp2_with fail
      refine' wpIn_rangeFunc_ownG (α := El l) rfl (by omega) (gf := 49) (lb := #[.pointer (some ⟨w2.heap.size + 1, 0, none⟩)]) rfl trivial (enters_of Tryd.func49 (by kernel_rfl) rfl)
        HSt.out belowK_t (belowK_b (by omega)) (Below.refl _ _) (fun _ => rfl)
        (fun pre W => (∃ v, Boxed W w2.heap.size 56 v ∧ W.ownsRow w.heap.size 2 1 v (amts (lns pre)).length ((amts (lns pre)).map (Value.int .i64)) ∧ True) ∧ Below w.heap.size w W)
        (fun _ _ _ => False)
        (OwnFrom.and (Own.from (holdsRow_own w.heap.size w2.heap.size 56 2 1 (fun pre => (amts (lns pre)).length) (fun pre => (amts (lns pre)).map (Value.int .i64)) (fun _ _ => True)) _) (ownFrom_below (Nat.le_refl _) (by omega)))
        (fun _ _ _ _ _ hs _ _ => hs)
        ⟨⟨_, bA4, World.ownsRow_nil _ _ _ _, trivial⟩, HB7.out⟩
        _ ?assign ?body ?done ?stop
      case assign =>
        intro l' x W K hK
        gi_wp2
        exact hK
      case body =>
        rintro l' pre x W ⟨⟨v, hv, hrow, -⟩, hB⟩ hlt
        have hc := hv.cell
        have hpl : (amts (lns pre)).length = pre.length := by simp [lns]
        have hlen : pre.length < m := by rw [HM.out]; exact hlt
        have HS : Hid (amts (lns (pre ++ [x])) = amts (lns pre) ++ [x.1.n]) := by show _ = _; rw [lns_snoc]; simp
        have HBB := Lib.hid hB
        have HWZ := Lib.hid hwz
        have hBs := hB.size
        generalize hg : amts (lns pre) = am at *
        have hal : am.length ≤ 1000 := by omega
        clear hg hlt hpl
        gi_wp2_with (gi_at_builtin; refine wpListIn_append_own _ rfl _ _ 56 rfl w.heap.size 2 i0 (.int .i64 0) 1 8 Tryd.underlying56 hi hz0 hz1 hz2 rfl (by decide) _ _ _ rfl (hrow.alloc _) ⟨W.heap.size, 0, none⟩ 1 1 [.int .i64 x.1.n] rfl rfl (cell_one_new _ _ _) (by simp [Value.oneCell']) (by unfold maxLen; omega) (by omega) (by simp; omega) ?_; intro v' w1' hown' hgrow _; obtain ⟨g', cap', rfl⟩ := ownsRow_succ hown'; obtain ⟨hv1, hv2, hr2, hk2, hb2⟩ := hv.appended (by decide) hrow HBB.out.size HWZ.out hown' hgrow; have hc1 := hv1.cell; have hf1 := hv1.frozen)
        refine ⟨hk2.from _, hb2, ⟨_, hv2, ?_, trivial⟩, hB.trans hb2⟩
        rw [HS.out]
        simpa using hr2
      case done =>
        rintro D ys W hD hys ⟨⟨v, hv, hrow, -⟩, hB⟩ hK
        rw [hys] at hrow
        obtain ⟨A2, c2, rfl, HI⟩ := ints_of hrow
        have hc := hv.cell
        have HSm := Lib.hid (Mny.sum_any A2 (amts l) c2 W.heap.size W HI (amts_fit HF.out) (by rw [List.length_map, ← HM.out]; omega))
        have HQ : Hid (sumL l = (amts l).sum) := rfl
        obtain ⟨k2, hk2⟩ : ∃ k2, k2 = (amts l).length := ⟨_, rfl⟩
        rw [← hk2] at hc HSm hrow
        have HD : Hid (Below w.heap.size w (W.putObj D (.deferred none))) := hB.trans (belowK_b (w := w) (Nat.le_refl _) W D _ _ (by omega) hK rfl rfl)
        rw [← HQ.out] at HSm
        clear HI hrow hv hys hk2
        gi_wp2_with fail
        refine ⟨trivial, (callsIn_wide.2 HSm.out).mono ?_⟩
        rintro e w5 ⟨rfl, rfl⟩
        by_cases hfit : Fits (sumL l)
        · rw [vOf_t hfit, eOf_t hfit]
          by_cases h0 : sumL l = 0
          · have HRR : Hid (chk b r l = 0) := by show _ = _; rw [HR.out, if_neg (not_not_intro hfit), if_pos h0]
            rw [h0]
            gi_wp2_with fail
            refine ⟨by simp, .inl ⟨_, _, rfl, run_takeDeferred hK, ?_⟩⟩
            refine ⟨_, results_tmp rfl _ _ _, ?_, HD.out⟩
            exact ret1 HRR.out.symm
          · have HRR : Hid (chk b r l = 12) := by show _ = _; rw [HR.out, if_neg (not_not_intro hfit), if_neg h0]
            have h0' : (sumL l != 0) = true := by simpa using h0
            clear h0
            gi_wp2_with fail
            refine ⟨by simp, .inl ⟨_, _, rfl, run_takeDeferred hK, ?_⟩⟩
            refine ⟨_, results_tmp rfl _ _ _, ?_, HD.out⟩
            exact ret1 HRR.out.symm
        · have HRR : Hid (chk b r l = 2) := by show _ = _; rw [HR.out, if_pos hfit]
          rw [vOf_f hfit, eOf_f hfit]
          gi_wp2_with fail
          refine ⟨by simp, .inl ⟨_, _, rfl, run_takeDeferred hK, ?_⟩⟩
          refine ⟨_, results_tmp rfl _ _ _, ?_, HD.out⟩
          exact ret1 HRR.out.symm
      case stop =>
        rintro D c pre W _ _ h _
        exact h.elim
end Go.Proofs.YtejdhemnlcbffaaDoor.Ent
