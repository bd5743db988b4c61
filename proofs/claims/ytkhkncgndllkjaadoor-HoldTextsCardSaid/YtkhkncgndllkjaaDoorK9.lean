/- Contracts: a hold of which no more is looked at than may be. Conditions: none. -/
import Derived.Test.YtkhkncgndllkjaaDoorK8
import Derived.Test.YtkhkncgndllkjaaDoorEAnyM
namespace Go.Proofs.YtkhkncgndllkjaaDoor.Hol
open Go.RowKit Cht Any

theorem BoxH.setR {g : Nat} {x : Hd} {w : World} (h : BoxH g x w) (s : ByteArray) : BoxH g ⟨s, x.a, x.p, x.ap, x.ca, x.un, x.op⟩ (w.setCell ⟨g, 0, none⟩ (.string s)) := by
  unfold BoxH at *
  simp [World.setCell, Array.getElem?_modify, h]
theorem BoxH.setA {g : Nat} {x : Hd} {w : World} (h : BoxH g x w) (s : ByteArray) : BoxH g ⟨x.r, s, x.p, x.ap, x.ca, x.un, x.op⟩ (w.setCell ⟨g, 1, none⟩ (.string s)) := by
  unfold BoxH at *
  simp [World.setCell, Array.getElem?_modify, h]
theorem BoxH.setP {g : Nat} {x : Hd} {w : World} (h : BoxH g x w) (s : ByteArray) : BoxH g ⟨x.r, x.a, s, x.ap, x.ca, x.un, x.op⟩ (w.setCell ⟨g, 2, none⟩ (.string s)) := by
  unfold BoxH at *
  simp [World.setCell, Array.getElem?_modify, h]
theorem getD_mono {listed : Array Bool} {i j : Nat} (h : listed.getD j false = true) : (listed.setIfInBounds i true).getD j false = true := by
  by_cases e : i = j
  · subst e
    refine getD_set_eq ?_
    by_cases hl : i < listed.size
    · exact hl
    · rw [Array.getD_eq_getD_getElem?, Array.getElem?_eq_none (by omega)] at h; cases h
  · rw [getD_set_ne false (by omega)]; exact h
/-- The worlds between three stores. -/
def Of (w w1 w2 w3 : World) (listed : Array Bool) (W : World) : Prop :=
  (listed.getD 10 false = true → listed.getD 1 false = true ∧ listed.getD 4 false = true ∧ listed.getD 7 false = true) ∧ (listed.getD 12 false = true → listed.getD 10 false = true) ∧ (listed.getD 14 false = true → listed.getD 12 false = true) ∧
    W = (if listed.getD 14 false = true then w3 else if listed.getD 12 false = true then w2 else if listed.getD 10 false = true then w1 else w)
theorem of_start {w w1 w2 w3 : World} {listed : Array Bool} (h : ∀ i, listed.getD i false = false) : Of w w1 w2 w3 listed w := by
  refine ⟨fun h1 => ?_, fun h1 => ?_, fun h1 => ?_, ?_⟩
  · rw [h 10] at h1; cases h1
  · rw [h 12] at h1; cases h1
  · rw [h 14] at h1; cases h1
  · rw [h 10, h 12, h 14]; rfl
theorem of_skip {w w1 w2 w3 W : World} {listed : Array Bool} {i : Nat} (h : Of w w1 w2 w3 listed W) (h1 : i ≠ 10) (h2 : i ≠ 12) (h3 : i ≠ 14) : Of w w1 w2 w3 (listed.setIfInBounds i true) W := by
  obtain ⟨k1, k2, k3, k4⟩ := h
  refine ⟨fun q => ?_, fun q => ?_, fun q => ?_, ?_⟩
  · rw [getD_set_ne false h1] at q
    obtain ⟨a, b, c⟩ := k1 q
    exact ⟨getD_mono a, getD_mono b, getD_mono c⟩
  · rw [getD_set_ne false h2] at q; exact getD_mono (k2 q)
  · rw [getD_set_ne false h3] at q; exact getD_mono (k3 q)
  · rw [getD_set_ne false h1, getD_set_ne false h2, getD_set_ne false h3]; exact k4
theorem of_low {w w1 w2 w3 W : World} {listed : Array Bool} (h : Of w w1 w2 w3 listed W) (hn : listed.getD 10 false = false) : listed.getD 12 false = false ∧ listed.getD 14 false = false := by
  obtain ⟨k1, k2, k3, k4⟩ := h
  have q : listed.getD 12 false = false := by
    cases e : listed.getD 12 false with
    | false => rfl
    | true => rw [k2 e] at hn; cases hn
  refine ⟨q, ?_⟩
  cases e : listed.getD 14 false with
  | false => rfl
  | true => rw [k3 e] at q; cases q
theorem of_is {w w1 w2 w3 W : World} {listed : Array Bool} {i : Nat} (h : Of w w1 w2 w3 listed W) (hi : i = 1 ∨ i = 4 ∨ i = 7) (hn : listed.getD i false = false) : W = w := by
  have q : listed.getD 10 false = false := by
    cases e : listed.getD 10 false with
    | false => rfl
    | true =>
      obtain ⟨a, b, c⟩ := h.1 e
      rcases hi with rfl | rfl | rfl
      · rw [a] at hn; cases hn
      · rw [b] at hn; cases hn
      · rw [c] at hn; cases hn
  obtain ⟨q1, q2⟩ := of_low h q
  have := h.2.2.2
  rw [q, q1, q2] at this
  exact this
theorem of_10 {w w1 w2 w3 W : World} {listed : Array Bool} (h : Of w w1 w2 w3 listed W) (hl : 10 < listed.size) (hn : listed.getD 10 false = false) (ha : listed.getD 1 false = true ∧ listed.getD 4 false = true ∧ listed.getD 7 false = true) : W = w ∧ Of w w1 w2 w3 (listed.setIfInBounds 10 true) w1 := by
  obtain ⟨q1, q2⟩ := of_low h hn
  have k := h.2.2.2
  rw [hn, q1, q2] at k
  refine ⟨k, fun _ => ⟨getD_mono ha.1, getD_mono ha.2.1, getD_mono ha.2.2⟩, fun _ => getD_set_eq hl, fun q => ?_, ?_⟩
  · rw [getD_set_ne false (by decide), q2] at q; cases q
  · rw [getD_set_ne false (by decide), q2, getD_set_ne false (by decide), q1, getD_set_eq hl]; rfl
theorem of_12 {w w1 w2 w3 W : World} {listed : Array Bool} (h : Of w w1 w2 w3 listed W) (hl : 12 < listed.size) (hn : listed.getD 12 false = false) (ha : listed.getD 10 false = true) : W = w1 ∧ Of w w1 w2 w3 (listed.setIfInBounds 12 true) w2 := by
  have q2 : listed.getD 14 false = false := by
    cases e : listed.getD 14 false with
    | false => rfl
    | true => rw [h.2.2.1 e] at hn; cases hn
  have k := h.2.2.2
  rw [hn, q2, ha] at k
  obtain ⟨a, b, c⟩ := h.1 ha
  refine ⟨k, fun _ => ⟨getD_mono a, getD_mono b, getD_mono c⟩, fun _ => getD_mono ha, fun _ => getD_set_eq hl, ?_⟩
  rw [getD_set_ne false (by decide), q2, getD_set_eq hl]; rfl
theorem of_14 {w w1 w2 w3 W : World} {listed : Array Bool} (h : Of w w1 w2 w3 listed W) (hl : 14 < listed.size) (hn : listed.getD 14 false = false) (ha : listed.getD 12 false = true) : W = w2 ∧ Of w w1 w2 w3 (listed.setIfInBounds 14 true) w3 := by
  have k := h.2.2.2
  rw [hn, ha] at k
  have h10 := h.2.1 ha
  obtain ⟨a, b, c⟩ := h.1 h10
  refine ⟨k, fun _ => ⟨getD_mono a, getD_mono b, getD_mono c⟩, fun _ => getD_mono h10, fun _ => getD_mono ha, ?_⟩
  rw [getD_set_eq hl]; rfl
theorem of_fin {w w1 w2 w3 W : World} {listed : Array Bool} (h : Of w w1 w2 w3 listed W) (ha : listed.getD 14 false = true) : W = w3 := by
  have k := h.2.2.2
  rw [ha] at k
  exact k

/-- A text, or what it begins with. -/
def cutS (n : Nat) (s : ByteArray) : ByteArray := if n < s.size then s.extract 0 n else s
theorem cutS_long {n : Nat} {s : ByteArray} (h : n < s.size) : cutS n s = s.extract 0 n := if_pos h
theorem cutS_short {n : Nat} {s : ByteArray} (h : ¬ n < s.size) : cutS n s = s := if_neg h
theorem cutS_size (n : Nat) (s : ByteArray) : (cutS n s).size ≤ n := by
  unfold cutS; split
  · rw [ByteArray.size_extract]; omega
  · omega
def fewH (x : Hd) : Hd := ⟨cutS 30 x.r, cutS 30 x.a, cutS 30 x.p, x.ap, x.ca, x.un, x.op⟩
theorem text_any (s : ByteArray) (w : World) (hm : s.size ≤ 9223372036854775807) : Calls Tryd.prog 16 #[.string s] w fun e w' => e = .returned (.string (cutS 30 s)) ∧ w = w' := by
  by_cases h : 30 < s.size
  · have HR := Lib.hid (cutS_long h)
    have h' : (30 : Int) < s.size := by omega
    go_enter Tryd.func16, Tryd.ntmps16
    go_wp2_with fail
    go_ret
    exact ⟨by rw [HR.out]; try rfl, rfl⟩
  · have HR := Lib.hid (cutS_short h)
    have h' : ¬ (30 : Int) < s.size := by omega
    go_enter Tryd.func16, Tryd.ntmps16
    go_wp2_with fail
    go_ret
    exact ⟨by rw [HR.out]; try rfl, rfl⟩

set_option maxRecDepth 100000 in
set_option maxHeartbeats 3200000 in
theorem few_any (x : Hd) (w : World) (h1 : x.r.size ≤ 9223372036854775807) (h2 : x.a.size ≤ 9223372036854775807) (h3 : x.p.size ≤ 9223372036854775807) :
    Calls Tryd.prog 7 #[hv x] w fun e w' => e = .returned (hv (fewH x)) ∧ Below w.heap.size w w' := by
  have HR : Hid (fewH x = ⟨cutS 30 x.r, cutS 30 x.a, cutS 30 x.p, x.ap, x.ca, x.un, x.op⟩) := rfl
  have HT1 := Lib.hid (fun W => text_any x.r W h1)
  have HT2 := Lib.hid (fun W => text_any x.a W h2)
  have HT3 := Lib.hid (fun W => text_any x.p W h3)
  have hw0 := Below.refl w.heap.size w
  obtain ⟨W, hW⟩ : ∃ W, W = ((w.alloc (.cells (hcs x) 23)).alloc (.cells #[.string ⟨#[]⟩, .string ⟨#[]⟩, .string ⟨#[]⟩, .int .i64 0, .int .i64 0, .int .i64 0, .bool false] 23)) := ⟨_, rfl⟩
  have hz0 : w.heap.size = w.heap.size := rfl
  have hz1 : (w.alloc (.cells (hcs x) 23)).heap.size = w.heap.size + 1 := by rw [World.size_alloc]
  have hz2 : ((w.alloc (.cells (hcs x) 23)).alloc (.cells #[.string ⟨#[]⟩, .string ⟨#[]⟩, .string ⟨#[]⟩, .int .i64 0, .int .i64 0, .int .i64 0, .bool false] 23)).heap.size = w.heap.size + 1 + 1 := by rw [World.size_alloc, hz1]
  obtain ⟨g1, hg1⟩ : ∃ g, g = w.heap.size + 1 := ⟨_, rfl⟩
  have q0 : BoxH w.heap.size x W := by rw [hW]; exact ((BoxH.new w x).alloc _)
  have q1 : BoxH g1 noH W := by rw [hW, hg1, ← hz1]; exact (BoxH.new (w.alloc (.cells (hcs x) 23)) noH)
  have hb : Below w.heap.size w W := by rw [hW]; exact ((hw0.alloc (Nat.le_refl _) _).alloc (by rw [hz1]; omega) _)
  have hz : W.heap.size = w.heap.size + 1 + 1 := by rw [hW]; exact hz2
  have hl1 : w.heap.size < g1 ∧ g1 < W.heap.size := by omega
  have HW := Lib.hid hW
  have HG1 := Lib.hid hg1
  clear hW hw0 hz0 hz1 hz2 hg1
  obtain ⟨c0, c1, c2, c3, c4, c5, c6, cf⟩ := q0.cells
  obtain ⟨d0, d1, d2, d3, d4, d5, d6, df⟩ := q1.cells
  go_enter Tryd.func7, Tryd.ntmps7
  go_upto_region 1 with fail
  rw [← HW.out, ← HG1.out]
  clear HW HG1
  have D0 : Hid (BoxH w.heap.size x W.drew) := q0
  have D1 : Hid (BoxH w.heap.size ⟨cutS 30 x.r, x.a, x.p, x.ap, x.ca, x.un, x.op⟩ (W.drew.setCell ⟨w.heap.size, 0, none⟩ (.string (cutS 30 x.r)))) := D0.out.setR _
  have D2 : Hid (BoxH w.heap.size ⟨cutS 30 x.r, cutS 30 x.a, x.p, x.ap, x.ca, x.un, x.op⟩ ((W.drew.setCell ⟨w.heap.size, 0, none⟩ (.string (cutS 30 x.r))).setCell ⟨w.heap.size, 1, none⟩ (.string (cutS 30 x.a)))) := D1.out.setA _
  have D3 : Hid (BoxH w.heap.size (fewH x) (((W.drew.setCell ⟨w.heap.size, 0, none⟩ (.string (cutS 30 x.r))).setCell ⟨w.heap.size, 1, none⟩ (.string (cutS 30 x.a))).setCell ⟨w.heap.size, 2, none⟩ (.string (cutS 30 x.p)))) := D2.out.setP _
  have B3 : Hid (Below w.heap.size w (((W.drew.setCell ⟨w.heap.size, 0, none⟩ (.string (cutS 30 x.r))).setCell ⟨w.heap.size, 1, none⟩ (.string (cutS 30 x.a))).setCell ⟨w.heap.size, 2, none⟩ (.string (cutS 30 x.p)))) :=
    (((drewB1 hb).setCell (p := ⟨w.heap.size, 0, none⟩) (Nat.le_refl _) _).setCell (p := ⟨w.heap.size, 1, none⟩) (Nat.le_refl _) _).setCell (p := ⟨w.heap.size, 2, none⟩) (Nat.le_refl _) _
  obtain ⟨w1, hw1⟩ : ∃ y, y = (W.drew.setCell ⟨w.heap.size, 0, none⟩ (.string (cutS 30 x.r))) := ⟨_, rfl⟩
  obtain ⟨w2, hw2⟩ : ∃ y, y = (w1.setCell ⟨w.heap.size, 1, none⟩ (.string (cutS 30 x.a))) := ⟨_, rfl⟩
  obtain ⟨w3, hw3⟩ : ∃ y, y = (w2.setCell ⟨w.heap.size, 2, none⟩ (.string (cutS 30 x.p))) := ⟨_, rfl⟩
  have E3 : Hid (BoxH g1 noH w3) := by
    show BoxH _ _ _
    rw [hw3, hw2, hw1]
    exact box_other (box_other (box_other (show BoxH g1 noH W.drew from q1) 0 _ (by omega)) 1 _ (by omega)) 2 _ (by omega)
  rw [← hw1] at D1 D2 D3 B3
  rw [← hw2] at D2 D3 B3
  rw [← hw3] at D3 B3
  have HW1 := Lib.hid hw1
  have HW2 := Lib.hid hw2
  have HW3 := Lib.hid hw3
  clear hw1 hw2 hw3
  refine wp_region_m (by kernel_rfl) (PhiM [.pointer (some ⟨w.heap.size, 0, none⟩), .string x.r, .string (cutS 30 x.r), .pointer (some ⟨w.heap.size, 1, none⟩), .string x.a, .string (cutS 30 x.a), .pointer (some ⟨w.heap.size, 2, none⟩), .string x.p, .string (cutS 30 x.p), .pointer (some ⟨w.heap.size, 0, none⟩), undef, .pointer (some ⟨w.heap.size, 1, none⟩), undef, .pointer (some ⟨w.heap.size, 2, none⟩), undef]) (Of W.drew w1 w2 w3) (by kernel_rfl) (fun _ h => of_start h) ?step ?fin
  case step =>
    intro i o listed a1 w9 ho hls hn hk hdep
    have hi : i < 15 := (Array.getElem?_eq_some_iff.1 ho).1
    have e1 := ev (show a1.eval (.tmp 1) = .pointer (some ⟨w.heap.size, 0, none⟩) from hk.frame 1 (frame_of (by kernel_rfl)))
    have hii : i = 0 ∨ i = 1 ∨ i = 2 ∨ i = 3 ∨ i = 4 ∨ i = 5 ∨ i = 6 ∨ i = 7 ∨ i = 8 ∨ i = 9 ∨ i = 10 ∨ i = 11 ∨ i = 12 ∨ i = 13 ∨ i = 14 := by omega
    rcases hii with rfl | rfl | rfl | rfl | rfl | rfl | rfl | rfl | rfl | rfl | rfl | rfl | rfl | rfl | rfl
    · cases ho
      refine wpOp_of rfl rfl (wpm_value (v := .pointer (some ⟨w.heap.size, 0, none⟩)) ?_ rfl (of_skip hk.world (by decide) (by decide) (by decide)))
      go_simp
    · cases ho
      have d0 := ev (show a1.eval (.tmp 3) = .pointer (some ⟨w.heap.size, 0, none⟩) from hk.done 0 _ 3 rfl rfl (hdep ⟨0, .data⟩ (by simp) rfl))
      refine wpOp_of rfl rfl (wpm_value (v := .string x.r) ?_ rfl (of_skip hk.world (by decide) (by decide) (by decide)))
      have hw9 := of_is hk.world (by decide) hn
      have z0 := D0.out
      rw [← hw9] at z0
      obtain ⟨t0, t1, t2, t3, t4, t5, t6, tf⟩ := z0.cells
      go_simp
    · cases ho
      have d1 := ev (show a1.eval (.tmp 4) = .string x.r from hk.done 1 _ 4 rfl rfl (hdep ⟨1, .data⟩ (by simp) rfl))
      refine wpOp_of rfl rfl ?_
      go_simp
      refine (HT1.out w9).mono ?_
      rintro e w' ⟨rfl, rfl⟩
      exact ⟨_, rfl, rfl, (of_skip hk.world (by decide) (by decide) (by decide))⟩
    · cases ho
      refine wpOp_of rfl rfl (wpm_value (v := .pointer (some ⟨w.heap.size, 1, none⟩)) ?_ rfl (of_skip hk.world (by decide) (by decide) (by decide)))
      go_simp
    · cases ho
      have d3 := ev (show a1.eval (.tmp 6) = .pointer (some ⟨w.heap.size, 1, none⟩) from hk.done 3 _ 6 rfl rfl (hdep ⟨3, .data⟩ (by simp) rfl))
      refine wpOp_of rfl rfl (wpm_value (v := .string x.a) ?_ rfl (of_skip hk.world (by decide) (by decide) (by decide)))
      have hw9 := of_is hk.world (by decide) hn
      have z0 := D0.out
      rw [← hw9] at z0
      obtain ⟨t0, t1, t2, t3, t4, t5, t6, tf⟩ := z0.cells
      go_simp
    · cases ho
      have d4 := ev (show a1.eval (.tmp 7) = .string x.a from hk.done 4 _ 7 rfl rfl (hdep ⟨4, .data⟩ (by simp) rfl))
      refine wpOp_of rfl rfl ?_
      go_simp
      refine (HT2.out w9).mono ?_
      rintro e w' ⟨rfl, rfl⟩
      exact ⟨_, rfl, rfl, (of_skip hk.world (by decide) (by decide) (by decide))⟩
    · cases ho
      refine wpOp_of rfl rfl (wpm_value (v := .pointer (some ⟨w.heap.size, 2, none⟩)) ?_ rfl (of_skip hk.world (by decide) (by decide) (by decide)))
      go_simp
    · cases ho
      have d6 := ev (show a1.eval (.tmp 9) = .pointer (some ⟨w.heap.size, 2, none⟩) from hk.done 6 _ 9 rfl rfl (hdep ⟨6, .data⟩ (by simp) rfl))
      refine wpOp_of rfl rfl (wpm_value (v := .string x.p) ?_ rfl (of_skip hk.world (by decide) (by decide) (by decide)))
      have hw9 := of_is hk.world (by decide) hn
      have z0 := D0.out
      rw [← hw9] at z0
      obtain ⟨t0, t1, t2, t3, t4, t5, t6, tf⟩ := z0.cells
      go_simp
    · cases ho
      have d7 := ev (show a1.eval (.tmp 10) = .string x.p from hk.done 7 _ 10 rfl rfl (hdep ⟨7, .data⟩ (by simp) rfl))
      refine wpOp_of rfl rfl ?_
      go_simp
      refine (HT3.out w9).mono ?_
      rintro e w' ⟨rfl, rfl⟩
      exact ⟨_, rfl, rfl, (of_skip hk.world (by decide) (by decide) (by decide))⟩
    · cases ho
      refine wpOp_of rfl rfl (wpm_value (v := .pointer (some ⟨w.heap.size, 0, none⟩)) ?_ rfl (of_skip hk.world (by decide) (by decide) (by decide)))
      go_simp
    · cases ho
      have d9 := ev (show a1.eval (.tmp 12) = .pointer (some ⟨w.heap.size, 0, none⟩) from hk.done 9 _ 12 rfl rfl (hdep ⟨9, .data⟩ (by simp) rfl))
      have d2 := ev (show a1.eval (.tmp 5) = .string (cutS 30 x.r) from hk.done 2 _ 5 rfl rfl (hdep ⟨2, .data⟩ (by simp) rfl))
      refine wpOp_of rfl rfl ?_
      have ha1 : listed.getD 1 false = true := hdep ⟨1, .phase⟩ (by simp) rfl
      have ha4 : listed.getD 4 false = true := hdep ⟨4, .phase⟩ (by simp) rfl
      have ha7 : listed.getD 7 false = true := hdep ⟨7, .phase⟩ (by simp) rfl
      obtain ⟨hw9, hom⟩ := of_10 hk.world (by omega) hn ⟨ha1, ha4, ha7⟩
      have z0 := D0.out
      rw [← hw9] at z0
      obtain ⟨t0, t1, t2, t3, t4, t5, t6, tf⟩ := z0.cells
      unfold Oper.wp
      simp [execOp, Act.eval, d9, d2, Result.andThen, go_sem, t0, tf]
      refine ⟨undef, rfl, rfl, ?_⟩
      rw [hw9, ← HW1.out]
      exact hom
    · cases ho
      refine wpOp_of rfl rfl (wpm_value (v := .pointer (some ⟨w.heap.size, 1, none⟩)) ?_ rfl (of_skip hk.world (by decide) (by decide) (by decide)))
      go_simp
    · cases ho
      have d11 := ev (show a1.eval (.tmp 13) = .pointer (some ⟨w.heap.size, 1, none⟩) from hk.done 11 _ 13 rfl rfl (hdep ⟨11, .data⟩ (by simp) rfl))
      have d5 := ev (show a1.eval (.tmp 8) = .string (cutS 30 x.a) from hk.done 5 _ 8 rfl rfl (hdep ⟨5, .data⟩ (by simp) rfl))
      refine wpOp_of rfl rfl ?_
      have ha : listed.getD 10 false = true := hdep ⟨10, .chain⟩ (by simp) rfl
      obtain ⟨hw9, hom⟩ := of_12 hk.world (by omega) hn ha
      have z0 := D1.out
      rw [← hw9] at z0
      obtain ⟨t0, t1, t2, t3, t4, t5, t6, tf⟩ := z0.cells
      unfold Oper.wp
      simp [execOp, Act.eval, d11, d5, Result.andThen, go_sem, t1, tf]
      refine ⟨undef, rfl, rfl, ?_⟩
      rw [hw9, ← HW2.out]
      exact hom
    · cases ho
      refine wpOp_of rfl rfl (wpm_value (v := .pointer (some ⟨w.heap.size, 2, none⟩)) ?_ rfl (of_skip hk.world (by decide) (by decide) (by decide)))
      go_simp
    · cases ho
      have d13 := ev (show a1.eval (.tmp 14) = .pointer (some ⟨w.heap.size, 2, none⟩) from hk.done 13 _ 14 rfl rfl (hdep ⟨13, .data⟩ (by simp) rfl))
      have d8 := ev (show a1.eval (.tmp 11) = .string (cutS 30 x.p) from hk.done 8 _ 11 rfl rfl (hdep ⟨8, .data⟩ (by simp) rfl))
      refine wpOp_of rfl rfl ?_
      have ha : listed.getD 12 false = true := hdep ⟨12, .chain⟩ (by simp) rfl
      obtain ⟨hw9, hom⟩ := of_14 hk.world (by omega) hn ha
      have z0 := D2.out
      rw [← hw9] at z0
      obtain ⟨t0, t1, t2, t3, t4, t5, t6, tf⟩ := z0.cells
      unfold Oper.wp
      simp [execOp, Act.eval, d13, d8, Result.andThen, go_sem, t2, tf]
      refine ⟨undef, rfl, rfl, ?_⟩
      rw [hw9, ← HW3.out]
      exact hom
  case fin =>
    intro listed a2 w4 hk hall
    have hw := of_fin hk.world (hall 14 (by decide))
    have hact := keptM_all [3, 4, 5, 6, 7, 8, 9, 10, 11, 12, 13, 14] hk (by kernel_rfl)
    simp only [List.foldl_cons, List.foldl_nil, List.setIfInBounds_toArray, List.set_cons_succ, List.set_cons_zero] at hact
    generalize a2.eval (.tmp 3) = u3 at hact
    generalize a2.eval (.tmp 4) = u4 at hact
    generalize a2.eval (.tmp 5) = u5 at hact
    generalize a2.eval (.tmp 6) = u6 at hact
    generalize a2.eval (.tmp 7) = u7 at hact
    generalize a2.eval (.tmp 8) = u8 at hact
    generalize a2.eval (.tmp 9) = u9 at hact
    generalize a2.eval (.tmp 10) = u10 at hact
    generalize a2.eval (.tmp 11) = u11 at hact
    generalize a2.eval (.tmp 12) = u12 at hact
    generalize a2.eval (.tmp 13) = u13 at hact
    generalize a2.eval (.tmp 14) = u14 at hact
    rw [hact]
    clear hact
    subst hw
    clear HW1 HW2 HW3 c0 c1 c2 c3 c4 c5 c6 cf d0 d1 d2 d3 d4 d5 d6 df
    obtain ⟨c0, c1, c2, c3, c4, c5, c6, cf⟩ := D3.out.cells
    obtain ⟨d0, d1, d2, d3, d4, d5, d6, df⟩ := E3.out.cells
    go_wp2_with fail
    refine bodyPost_ret (v := .agg #[.string (fewH x).r, .string (fewH x).a, .string (fewH x).p, .int .i64 (fewH x).ap, .int .i64 (fewH x).ca, .int .i64 (fewH x).un, .bool (fewH x).op]) (by simp [results, Tryd.results7, go_sem, d0, d1, d2, d3, d4, d5, d6]) rfl ⟨rfl, ?_⟩
    exact below_put7 B3.out (by omega) _ _ _ _ _ _ _
end Go.Proofs.YtkhkncgndllkjaaDoor.Hol
