/- Contract of the law's own: the chapter's examples. -/
import Derived.Test.YtjcgggheablpeaaW12
import Derived.Lib.SlBytesConst
namespace Go.Proofs.Ytjcgggheablpeaa.Wal
open Go.RowKit Dis Dis.Dk

abbrev abc : List UInt8 := [97, 98, 99]
theorem ex_first : ∃ E, appR (newD 4) 0 4 0 1 abc = (E, (0, 4, 1, 2), 0) ∧ Quiet E ∧ E.L = -1 ∧ E.S.length = 4 ∧ Holds E.S 0 4 0 1 [(1, abc)] 1 2 := by
  have hm := fit_may (newD_fit (n := 4) (by decide) (by decide)) (f := 0) (n := 4) (a := 0) (x := 1) (by decide) (by decide) (by decide) (by decide) (by rw [newD_len]; decide)
  have hr : roomB ((4 : Nat) : Int) ((0 : Nat) : Int) ((abc.length : Nat) : Int) = true := by decide
  rcases app_done (d := abc) (newD_quiet 4) hm (by decide) with ⟨_, h⟩ | ⟨_, _, h⟩ | ⟨h1, h2, h3, h4, h5, h6⟩
  · exact absurd h (by decide)
  · rw [hr] at h; cases h
  · refine ⟨(appR (newD 4) 0 4 0 1 abc).1, ?_, ?_, ?_, ?_, ?_⟩
    · have e : appR (newD 4) 0 4 0 1 abc = ((appR (newD 4) 0 4 0 1 abc).1, (appR (newD 4) 0 4 0 1 abc).2.1, (appR (newD 4) 0 4 0 1 abc).2.2) := rfl
      rw [e]
      have h5' : (appR (newD 4) 0 4 0 1 abc).2.1 = (0, 4, 1, 2) := h5
      have h4' : (appR (newD 4) 0 4 0 1 abc).2.2 = 0 := h4
      rw [h5', h4']
    · have h6' : (appR (newD 4) 0 4 0 1 abc).1 = _ := h6
      rw [h6']
      exact ⟨rfl, rfl⟩
    · have h6' : (appR (newD 4) 0 4 0 1 abc).1 = _ := h6
      rw [h6']
      rfl
    · have := (appR_fit 0 4 0 1 abc (newD_fit (n := 4) (by decide) (by decide))).2
      rw [this, newD_len]
    · have h6' : (appR (newD 4) 0 4 0 1 abc).1 = _ := h6
      rw [h6']
      exact (newD_holds (m := 4) (f := 0) (n := 4) (x := 1) (by decide) (by decide)).app (fit_sec (newD_fit (n := 4) (by decide) (by decide))) h1 (by decide) (by decide) h3
set_option maxRecDepth 20000 in
theorem ex_full {E : DD} {t : Nat} (hq : Quiet E) (hL : E.L = -1) (hf : Fit E t) (hl : E.S.length = 4) : ∃ R g, appR E 0 4 1 2 (List.replicate 200 0) = (R, g, 9) := by
  have hm := fit_may hf (f := 0) (n := 4) (a := 1) (x := 2) (by decide) (by decide) (by decide) (by decide) (by rw [hl]; decide)
  have hr : roomB ((4 : Nat) : Int) ((1 : Nat) : Int) (((List.replicate 200 (0 : UInt8)).length : Nat) : Int) = false := by rw [List.length_replicate]; decide
  rcases app_done (d := List.replicate 200 0) hq hm (by rw [hL]; decide) with ⟨_, h⟩ | ⟨h, _⟩ | ⟨_, h, _⟩
  · rw [List.length_replicate] at h; exact absurd h (by decide)
  · exact ⟨_, _, Prod.ext rfl (Prod.ext rfl h)⟩
  · rw [hr] at h; cases h
/-- The three octets of the example. -/
def lfAbc (H : Nat) (k : Option Nat) : LeftK := ⟨fun v w => ∃ g fr, v = .slice (some ⟨g, 0, none⟩) 3 3 ∧ H ≤ g ∧ w.heap[g]? = some (.cells c3 5 fr), k, fun _ _ _ hb ⟨g, fr, e, h, h1⟩ => ⟨g, fr, e, h, box_at h1 hb⟩,
  fun _ _ _ _ _ hr ⟨g, fr, e, h, h1⟩ => by
    rcases hr.at_ g _ h1 with ⟨h2, o', h3, h4⟩ | h2
    · have := shp_same h2 (show Shp 2 (.cells c3 5 fr) from ⟨fr, rfl⟩)
      subst this
      obtain ⟨fr', rfl⟩ := h4
      exact ⟨g, fr', e, h, h3⟩
    · exact ⟨g, fr, e, h, h2⟩⟩
theorem abc_octs {w : World} {g : Nat} {fr : Nat × Nat} (h : w.heap[g]? = some (.cells c3 5 fr)) : Octs w w.heap.size (some ⟨g, 0, none⟩) abc := fun i hi => by
  refine ⟨g, 0, rfl, lt_of_at h, ?_⟩
  rw [cell_of_row w g (0 + i) _ _ _ h]
  have hi3 : i < 3 := hi
  have : i = 0 ∨ i = 1 ∨ i = 2 := by omega
  rcases this with rfl | rfl | rfl <;> rfl
theorem mark_at {w : World} {g : Nat} {fr : Nat × Nat} (h : w.heap[g]? = some (.cells c3 5 fr)) : ∃ fr', (w.freeze ⟨g, 3, none⟩ 1).heap[g]? = some (.cells c3 5 fr') := by
  obtain ⟨lo, hi⟩ := fr
  refine ⟨if lo == hi then (3, 3 + 1) else (min lo 3, max hi (3 + 1)), ?_⟩
  simp [World.freeze, Array.getElem?_modify, h]
theorem mark_far (w : World) {g b : Nat} (h : b ≠ g) : (w.freeze ⟨g, 3, none⟩ 1).heap[b]? = w.heap[b]? := by
  simp [World.freeze, Array.getElem?_modify, Ne.symm h]
theorem mark_size (w : World) (g : Nat) : (w.freeze ⟨g, 3, none⟩ 1).heap.size = w.heap.size := by simp [World.freeze]
theorem mark_rk {w : World} {g : Nat} {fr : Nat × Nat} (h : w.heap[g]? = some (.cells c3 5 fr)) : RK 2 w (w.freeze ⟨g, 3, none⟩ 1) :=
  ⟨by rw [mark_size]; exact Nat.le_refl _, fun b o hb => by
    by_cases hbg : b = g
    · subst hbg
      rw [h] at hb
      cases hb
      obtain ⟨fr', h'⟩ := mark_at h
      exact .inl ⟨⟨_, rfl⟩, _, h', ⟨_, rfl⟩⟩
    · exact .inr (by rw [mark_far w hbg]; exact hb)⟩
theorem mark_below {w : World} {lo g : Nat} (hg : lo ≤ g) : Below lo w (w.freeze ⟨g, 3, none⟩ 1) := ⟨rfl, rfl, rfl, by rw [mark_size]; exact Nat.le_refl _, fun b hb => mark_far w (by omega)⟩
theorem conv_mark {w : World} {g : Nat} {fr : Nat × Nat} (h : w.heap[g]? = some (.cells c3 5 fr)) : (convert 28 28 (.slice (some ⟨g, 0, none⟩) 3 3)).run Try.prog w = .ok (.slice (some ⟨g, 0, none⟩) 3 3) (w.freeze ⟨g, 3, none⟩ 1) := by
  have hsh : w.shape? g = some (5, 3) := by
    unfold World.shape?
    rw [h]
    rfl
  simp [convert, run_underlying Try.underlying28, run_underlying Try.underlying5, markStringish, hsh]
set_option maxRecDepth 100000 in
set_option maxHeartbeats 8000000 in
theorem awake_any (w : World) : Calls Try.prog 20 #[] w fun e w' => e = .returned (.bool true) ∧ Below w.heap.size w w' := by
  obtain ⟨E, hE, hEq, hEL, hEl, hEh⟩ := ex_first
  obtain ⟨w1, hw1⟩ : ∃ w1, w1 = w.alloc (lgo 0 4 0 1) := ⟨_, rfl⟩
  have hX : w1.heap[w.heap.size]? = some (lgo 0 4 0 1) := by rw [hw1]; exact heap_alloc_new _ _
  have HB : Hid (Below w.heap.size w w1) := by rw [hw1]; exact (Below.refl _ _).alloc (Nat.le_refl _) _
  have HX := Lib.hid hX
  have HW := Lib.hid hw1
  have hsz : w1.heap.size = w.heap.size + 1 := by rw [hw1]; simp
  have hgl : w.heap.size < w1.heap.size := by omega
  clear hX hw1 hsz
  rcases hRRa : appR (newD 4) 0 4 0 1 abc with ⟨Ea, ⟨g0a, g1a, g2a, g3a⟩, ea⟩
  have hfEa : Fit Ea (0 + 500) := by have := (appR_fit 0 4 0 1 abc (newD_fit (n := 4) (by decide) (by decide))).1; rw [hRRa] at this; exact this
  have hsEa : Ea.S.length = ((newD 4)).S.length := by have := (appR_fit 0 4 0 1 abc (newD_fit (n := 4) (by decide) (by decide))).2; rw [hRRa] at this; exact this
  have HAPa : Hid (∀ (W : World) (v : Value) (A : Option Addr) (c : Nat), Okd W v (newD 4) → Octs W W.heap.size A abc → Calls Try.prog 13 #[v, lgv 0 4 0 1, .slice A 3 c] W fun e w' => ∃ v', e = .returned (.tuple #[v', lgv g0a g1a g2a g3a, .int .i64 ea]) ∧ OkE w' v' Ea ea ∧ Below W.heap.size W w') := fun W v A c h1 h2 => by
    have := append_at W v (newD 4) 0 0 4 0 1 A abc 3 c rfl h1 (newD_fit (n := 4) (by decide) (by decide)) (by decide) (by rw [newD_len]; decide) (by decide) (by decide) (by decide) (by decide) (by decide) (by decide) (by decide) (by decide) h2 (by decide)
    unfold AppP at this
    rw [hRRa] at this
    exact this
  have HRRa := Lib.hid hRRa
  have HSEa := Lib.hid hsEa
  clear hRRa hsEa
  have hEa : Ea = E ∧ g0a = 0 ∧ g1a = 4 ∧ g2a = 1 ∧ g3a = 2 ∧ ea = 0 := by
    have h1 := HRRa.out.symm.trans hE
    simp only [Prod.mk.injEq] at h1
    obtain ⟨q1, ⟨q2, q3, q4, q5⟩, q6⟩ := h1
    exact ⟨q1, q2, q3, q4, q5, q6⟩
  have HEA := Lib.hid hEa
  clear hE hEa
  go_enter Try.func20, Try.ntmps20
  go_upto_region 2 with fail
  rw [← HW.out]
  refine wp_region_acts2 (by kernel_rfl) (w1.heap.size) (Nat.le_refl _) [lfE (newD 4) 0 (newD_fit (n := 4) (by decide) (by decide)) 0, kv (lgv 0 4 0 1), lfAbc w1.heap.size none, lfAbc w1.heap.size (some 2), lfT3 Ea (0 + 500) hfEa (lgv g0a g1a g2a g3a) ea, lfT3 Ea (0 + 500) hfEa (lgv g0a g1a g2a g3a) ea, lfE Ea (0 + 500) hfEa ea, kv (lgv g0a g1a g2a g3a), kv (.int .i64 ea), lfBox 0 w1.heap.size, lfBox 1 w1.heap.size, lfSD w1.heap.size Ea (0 + 500) hfEa ea, lfSL w1.heap.size g0a g1a g2a g3a, kv (.int .i64 ea)] [13, 14, 15, 16, 17, 12, 18, 19, 20, 2, 3, 2, 3, 4] [none, none, none, some 2, none, none, none, none, none, none, none, some 0, some 1, none] rfl (fun _ _ => True) ?hgam2 (by kernel_rfl) (backsB_spec (by kernel_rfl)) ?start2 ?step2 ?conv2 ?store2 ?fin2
  case hgam2 =>
    intro listed i w2 w3 hki hlo2 hb2 hg2
    exact trivial
  case start2 => exact trivial
  case step2 =>
    intro i o listed a1 w2 hki ho h0 hclo hk hdep
    have hi : i < 14 := (Array.getElem?_eq_some_iff.1 ho).1
    have e1 := ev (show a1.eval (.tmp 1) = .pointer (some ⟨w.heap.size, 0, none⟩) from hk.frame 1 (frame_of (by kernel_rfl)))
    have hii : i = 0 ∨ i = 1 ∨ i = 2 ∨ i = 3 ∨ i = 4 ∨ i = 5 ∨ i = 6 ∨ i = 7 ∨ i = 8 ∨ i = 9 ∨ i = 10 ∨ i = 11 ∨ i = 12 ∨ i = 13 := by omega
    rcases hii with rfl | rfl | rfl | rfl | rfl | rfl | rfl | rfl | rfl | rfl | rfl | rfl | rfl | rfl
    · cases ho
      refine wpOp_of rfl rfl ?_
      go_simp
      refine (some_any 4 w2 (by decide) (by decide) (by decide)).mono ?_
      rintro e w3 ⟨v0, rfl, hok3, hb3⟩
      exact ⟨_, rfl, hok3, hb3⟩
    · cases ho
      obtain ⟨k0, k1, k2, k3, kf⟩ := cells_log (box_at HX.out hk.below)
      refine wpOp_of rfl rfl (wp_value (v := lgv 0 4 0 1) ?_ rfl)
      go_simp
    · cases ho
      refine wpOp_of rfl rfl ?_
      go_simp
      exact ⟨_, rfl, ⟨_, _, rfl, hk.below.size, box_new _ _⟩, (Below.refl _ _).alloc (Nat.le_refl _) _⟩
    · exact absurd hki (by simp)
    · cases ho
      have d1 := ev (show a1.eval (.tmp 14) = lgv 0 4 0 1 from hk.done 1 _ 14 rfl rfl (hdep ⟨1, .data⟩ (by simp) rfl))
      have hx : OkE w2 (a1.eval (.tmp 13)) (newD 4) 0 := hk.done 0 _ 13 rfl rfl (hdep ⟨0, .data⟩ (by simp) rfl)
      obtain ⟨⟨Ax, nx, cx, Ax', mx, cx', Lx, Ox, hv, hnx⟩, hx2⟩ := hx
      have d0 := ev hv
      have hokx := hx2 (.inl rfl)
      rw [hv] at hokx
      clear hx2
      obtain ⟨gd, frd, hvd, -, hgd⟩ := hk.done 3 _ 16 rfl rfl (hdep ⟨3, .data⟩ (by simp) rfl)
      have d3 := ev hvd
      have hox := abc_octs hgd
      clear hgd
      have HC := Lib.hid (fun c => HAPa.out w2 _ _ c hokx hox)
      clear hokx hox
      refine wpOp_of rfl rfl ?_
      go_simp
      refine (HC.out _).mono ?_
      rintro e w3 ⟨v', rfl, hok3, hb3⟩
      exact ⟨_, rfl, ⟨_, rfl, hok3⟩, hb3⟩
    · cases ho
      obtain ⟨xx, hv, hx⟩ := hk.done 4 _ 17 rfl rfl (hdep ⟨4, .data⟩ (by simp) rfl)
      have d4 := ev hv
      refine wpOp_of rfl rfl (wp_value ?_ ⟨xx, rfl, hx⟩)
      simp [execOp, d4, Act.eval]
    · cases ho
      obtain ⟨xx, hv, hx⟩ := hk.done 5 _ 12 rfl rfl (hdep ⟨5, .data⟩ (by simp) rfl)
      have d5 := ev hv
      refine wpOp_of rfl rfl (wp_value (v := xx) ?_ hx)
      clear hx
      go_simp
    · cases ho
      obtain ⟨xx, hv, hx⟩ := hk.done 5 _ 12 rfl rfl (hdep ⟨5, .data⟩ (by simp) rfl)
      have d5 := ev hv
      clear hx
      refine wpOp_of rfl rfl (wp_value (v := lgv g0a g1a g2a g3a) ?_ rfl)
      go_simp
    · cases ho
      obtain ⟨xx, hv, hx⟩ := hk.done 5 _ 12 rfl rfl (hdep ⟨5, .data⟩ (by simp) rfl)
      have d5 := ev hv
      clear hx
      refine wpOp_of rfl rfl (wp_value (v := .int .i64 ea) ?_ rfl)
      go_simp
    · cases ho
      refine wpOp_of rfl rfl ?_
      go_simp
      exact ⟨_, rfl, ⟨_, _, rfl, hk.below.size, box_new _ _, shp0 _ _ _ _ _ _ _ _ (by decide)⟩, (Below.refl _ _).alloc (Nat.le_refl _) _⟩
    · cases ho
      refine wpOp_of rfl rfl ?_
      go_simp
      exact ⟨_, rfl, ⟨_, _, rfl, hk.below.size, box_new _ _, shp1 _ _ _ _⟩, (Below.refl _ _).alloc (Nat.le_refl _) _⟩
    · exact absurd hki (by simp)
    · exact absurd hki (by simp)
    · cases ho
      have d8 := ev (show a1.eval (.tmp 20) = .int .i64 ea from hk.done 8 _ 20 rfl rfl (hdep ⟨8, .data⟩ (by simp) rfl))
      refine wpOp_of rfl rfl (wp_value (v := .int .i64 ea) ?_ rfl)
      simp [execOp, d8, Act.eval]
  case conv2 =>
    intro i K t9 o listed a1 w2 hki ho hdt h0 hclo hk hdep
    have hi : i < 14 := (Array.getElem?_eq_some_iff.1 ho).1
    have e1 := ev (show a1.eval (.tmp 1) = .pointer (some ⟨w.heap.size, 0, none⟩) from hk.frame 1 (frame_of (by kernel_rfl)))
    have hii : i = 0 ∨ i = 1 ∨ i = 2 ∨ i = 3 ∨ i = 4 ∨ i = 5 ∨ i = 6 ∨ i = 7 ∨ i = 8 ∨ i = 9 ∨ i = 10 ∨ i = 11 ∨ i = 12 ∨ i = 13 := by omega
    rcases hii with rfl | rfl | rfl | rfl | rfl | rfl | rfl | rfl | rfl | rfl | rfl | rfl | rfl | rfl
    · exact absurd hki (by simp)
    · exact absurd hki (by simp)
    · exact absurd hki (by simp)
    · cases hki
      cases ho
      obtain ⟨g, fr, hg, hge, hgo⟩ := hk.done 2 _ 15 rfl rfl (hdep ⟨2, .data⟩ (by simp) rfl)
      have d2 := ev hg
      have hcm := conv_mark hgo
      have HGO := Lib.hid hgo
      clear hgo
      refine wpOp_of rfl rfl ?_
      go_simp
      exact ⟨_, rfl, ⟨g, _, rfl, hge, (mark_at HGO.out).choose_spec⟩, mark_below hge, mark_rk HGO.out⟩
    · exact absurd hki (by simp)
    · exact absurd hki (by simp)
    · exact absurd hki (by simp)
    · exact absurd hki (by simp)
    · exact absurd hki (by simp)
    · exact absurd hki (by simp)
    · exact absurd hki (by simp)
    · cases ho; cases hdt
    · cases ho; cases hdt
    · exact absurd hki (by simp)
  case store2 =>
    intro i K o listed a1 w2 hki hdn ho h0 hclo hk hdep
    have hi : i < 14 := (Array.getElem?_eq_some_iff.1 ho).1
    have e1 := ev (show a1.eval (.tmp 1) = .pointer (some ⟨w.heap.size, 0, none⟩) from hk.frame 1 (frame_of (by kernel_rfl)))
    have hii : i = 0 ∨ i = 1 ∨ i = 2 ∨ i = 3 ∨ i = 4 ∨ i = 5 ∨ i = 6 ∨ i = 7 ∨ i = 8 ∨ i = 9 ∨ i = 10 ∨ i = 11 ∨ i = 12 ∨ i = 13 := by omega
    rcases hii with rfl | rfl | rfl | rfl | rfl | rfl | rfl | rfl | rfl | rfl | rfl | rfl | rfl | rfl
    · exact absurd hki (by simp)
    · exact absurd hki (by simp)
    · exact absurd hki (by simp)
    · cases ho; cases hdn
    · exact absurd hki (by simp)
    · exact absurd hki (by simp)
    · exact absurd hki (by simp)
    · exact absurd hki (by simp)
    · exact absurd hki (by simp)
    · exact absurd hki (by simp)
    · exact absurd hki (by simp)
    · cases hki
      cases ho
      have hx : OkE w2 (a1.eval (.tmp 18)) Ea ea := hk.done 6 _ 18 rfl rfl (hdep ⟨6, .data⟩ (by simp) rfl)
      obtain ⟨⟨Ax, nx, cx, Ax', mx, cx', Lx, Ox, hv, hnx⟩, hx2⟩ := hx
      have d6 := ev hv
      have HX : Hid (OkE w2 (dv Ax nx cx Ax' mx cx' Lx Ox) Ea ea) := by rw [← hv]; exact ⟨⟨_, _, _, _, _, _, _, _, hv, hnx⟩, hx2⟩
      obtain ⟨g, o1, hg, hge, hgo, hgs⟩ := hk.done 9 _ 2 rfl rfl (hdep ⟨9, .data⟩ (by simp) rfl)
      have d9 := ev hg
      obtain ⟨y0, y1, y2, y3, j0, j1, j2, j3, jf⟩ := cells_any0 hgo hgs
      have HGO := Lib.hid hgo
      have HGS := Lib.hid hgs
      clear hx2 hgo hgs
      refine wpOp_of rfl rfl ?_
      go_simp
      exact ⟨rfl, ⟨g, hg, hge, dbox_st HGO.out HGS.out hfEa hnx HX.out⟩, st4_below (Below.refl _ _) hge _ _ _ _, rk_disk HGO.out HGS.out _ _ _ _ _ _ _ _ hnx, trivial⟩
    · cases hki
      cases ho
      have d7 := ev (show a1.eval (.tmp 19) = lgv g0a g1a g2a g3a from hk.done 7 _ 19 rfl rfl (hdep ⟨7, .data⟩ (by simp) rfl))
      obtain ⟨g, o1, hg, hge, hgo, hgs⟩ := hk.done 10 _ 3 rfl rfl (hdep ⟨10, .data⟩ (by simp) rfl)
      have d10 := ev hg
      obtain ⟨y0, y1, y2, y3, j0, j1, j2, j3, jf⟩ := cells_any1 hgo hgs
      refine wpOp_of rfl rfl ?_
      go_simp
      exact ⟨rfl, ⟨g, hg, hge, log_at hgo hgs _ _ _ _⟩, st4_below (Below.refl _ _) hge _ _ _ _, rk_log hgo hgs _ _ _ _, trivial⟩
    · exact absurd hki (by simp)
  case fin2 =>
    intro listed a2 w2 hall hk
    have hact := keptA_all [13, 14, 15, 16, 17, 12, 18, 19, 20, 2, 3, 4] hk (by kernel_rfl)
    have h13 := hk.done 0 _ 13 rfl rfl (hall 0 (by decide))
    have h14 := hk.done 1 _ 14 rfl rfl (hall 1 (by decide))
    have h15 := hk.done 2 _ 15 rfl rfl (hall 2 (by decide))
    have h16 := hk.done 3 _ 16 rfl rfl (hall 3 (by decide))
    have h17 := hk.done 4 _ 17 rfl rfl (hall 4 (by decide))
    have h12 := hk.done 5 _ 12 rfl rfl (hall 5 (by decide))
    have h18 := hk.done 6 _ 18 rfl rfl (hall 6 (by decide))
    have h19 := hk.done 7 _ 19 rfl rfl (hall 7 (by decide))
    have h20 := hk.done 8 _ 20 rfl rfl (hall 8 (by decide))
    have h2 := hk.done 9 _ 2 rfl rfl (hall 9 (by decide))
    have h3 := hk.done 10 _ 3 rfl rfl (hall 10 (by decide))
    have h4 := hk.done 13 _ 4 rfl rfl (hall 13 (by decide))
    have s11 := hk.acts 11 _ rfl rfl (hall 11 (by decide))
    change PhK _ 11 (a2.eval (.tmp 2)) w2 at s11
    have s12 := hk.acts 12 _ rfl rfl (hall 12 (by decide))
    change PhK _ 12 (a2.eval (.tmp 3)) w2 at s12
    have HB := Lib.hid hk.below
    simp only [List.foldl_cons, List.foldl_nil, List.setIfInBounds_toArray, List.set_cons_succ, List.set_cons_zero] at hact
    generalize a2.eval (.tmp 13) = u13 at hact h13
    generalize a2.eval (.tmp 14) = u14 at hact h14
    generalize a2.eval (.tmp 15) = u15 at hact h15
    generalize a2.eval (.tmp 16) = u16 at hact h16
    generalize a2.eval (.tmp 17) = u17 at hact h17
    generalize a2.eval (.tmp 12) = u12 at hact h12
    generalize a2.eval (.tmp 18) = u18 at hact h18
    generalize a2.eval (.tmp 19) = u19 at hact h19
    generalize a2.eval (.tmp 20) = u20 at hact h20
    generalize a2.eval (.tmp 2) = u2 at hact h2 s11
    generalize a2.eval (.tmp 3) = u3 at hact h3 s12
    generalize a2.eval (.tmp 4) = u4 at hact h4
    rw [hact]
    clear hact
    obtain rfl : u4 = .int .i64 ea := h4
    obtain ⟨g2, rfl, hg2, hd2⟩ := s11
    obtain ⟨g3, rfl, hg3, hl3⟩ := s12
    clear h2 h3 h12 h13 h14 h15 h16 h17 h18 h19 h20 hk
    obtain ⟨q1, q2, q3, q4, q5, q6⟩ := HEA.out
    subst q1 q2 q3 q4 q5 q6
    obtain ⟨w3, rfl⟩ : ∃ x, x = w2 := ⟨w2, rfl⟩
    obtain ⟨Aq, nq, cq, Aq', mq, cq', Lq, Oq, hbq, hnq, hokq⟩ := hd2
    have HBQ := Lib.hid hbq
    have HOKQ := Lib.hid (hokq.2 (.inl rfl))
    have HL3 := Lib.hid hl3
    have HX3 := Lib.hid (box_at HX.out HB.out)
    have HBB3 : Hid (Below w.heap.size w w3) := by
      have := (‹Hid (Below w.heap.size w w1)›).out
      exact this.trans (HB.out.mono this.size)
    have hg2l := lt_of_at hbq
    have hg3l := lt_of_at hl3
    clear hbq hokq hl3
    have HSC := Lib.hid (fun (W : World) (hb : Below w3.heap.size w3 W) => scan_any W (dv Aq nq cq Aq' mq cq' Lq Oq) Ea (0 + 500) 0 4 0 1 [(1, abc)] ((1 : Nat) : Int) ((2 : Nat) : Int) (HOKQ.out.below hb) hfEa (by decide) hEq.1 hEq.2 (by decide) (by decide) (by decide) (by decide) (by rw [hEl]; decide) (hEh.scan (fit_sec hfEa)))
    obtain ⟨k0, k1, k2, k3, kf⟩ := cells_log HX3.out
    obtain ⟨p0, p1, p2, p3, pf⟩ := cells_of4 HBQ.out
    go_wp2_with fail
    refine (HSC.out w3 (Below.refl _ _)).mono ?_
    rintro e w4 ⟨Ax, cx, rfl, hpx, hcx, hcx2, hb4⟩
    obtain ⟨W5, hW5⟩ : ∃ W5, W5 = w4.alloc (lgo 0 4 1 2) := ⟨_, rfl⟩
    have hb5 : Below w4.heap.size w4 W5 := by rw [hW5]; exact (Below.refl _ _).alloc (Nat.le_refl _) _
    have hb35 : Below w3.heap.size w3 W5 := hb4.trans (hb5.mono hb4.size)
    have HX6 : Hid (W5.heap[w4.heap.size]? = some (lgo 0 4 1 2)) := by show _ = _; rw [hW5]; exact heap_alloc_new _ _
    have HPX := Lib.hid ((hpx.below hb5 (Nat.le_refl _)).more hb5.size)
    have HBQ5 := Lib.hid (box_at HBQ.out hb35)
    have HOK5 := Lib.hid (HOKQ.out.below hb35)
    have HL5 := Lib.hid (box_at HL3.out hb35)
    have HBB5 := Lib.hid (HBB3.out.trans (hb35.mono HBB3.out.size))
    have HW5 := Lib.hid hW5
    have hg6l : w4.heap.size < W5.heap.size := lt_of_at HX6.out
    have hs35 := hb35.size
    clear hpx hb4 hb5 hb35 hW5 k0 k1 k2 k3 kf p0 p1 p2 p3 pf
    obtain ⟨R, gR, hFULL⟩ := ex_full hEq hEL hfEa hEl
    obtain ⟨dN, hdN⟩ : ∃ dN : List UInt8, dN = List.replicate 200 0 := ⟨_, rfl⟩
    have hdl : dN.length = 200 := by rw [hdN, List.length_replicate]
    rw [← hdN] at hFULL
    have HDN := Lib.hid hdN
    clear hdN
    rcases hRRb : appR Ea 0 4 1 2 dN with ⟨Eb, ⟨g0b, g1b, g2b, g3b⟩, eb⟩
    have hfEb : Fit Eb ((0 + 500) + 500) := by have := (appR_fit 0 4 1 2 dN hfEa).1; rw [hRRb] at this; exact this
    have hsEb : Eb.S.length = (Ea).S.length := by have := (appR_fit 0 4 1 2 dN hfEa).2; rw [hRRb] at this; exact this
    have HAPb : Hid (∀ (W : World) (v : Value) (A : Option Addr) (c : Nat), Okd W v Ea → Octs W W.heap.size A dN → Calls Try.prog 13 #[v, lgv 0 4 1 2, .slice A 200 c] W fun e w' => ∃ v', e = .returned (.tuple #[v', lgv g0b g1b g2b g3b, .int .i64 eb]) ∧ OkE w' v' Eb eb ∧ Below W.heap.size W w') := fun W v A c h1 h2 => by
      have := append_at W v Ea (0 + 500) 0 4 1 2 A dN 200 c hdl h1 hfEa (by decide) (by rw [hEl]; decide) (by decide) (by decide) (by decide) (by decide) (by decide) (by decide) (by decide) (by decide) h2 (by decide)
      unfold AppP at this
      rw [hRRb] at this
      exact this
    have HRRb := Lib.hid hRRb
    have HSEb := Lib.hid hsEb
    clear hRRb hsEb
    have HEB : Hid (eb = 9) := by
      have h1 := HRRb.out.symm.trans hFULL
      simp only [Prod.mk.injEq] at h1
      exact h1.2.2
    have HMK := Lib.hid (fun (W : World) => make5 200 (by decide) W)
    clear hFULL
    go_upto_region 4 with fail
    rw [← HW5.out]
    refine wp_region_acts (by kernel_rfl) (W5.heap.size) (Nat.le_refl _) [kv (dv Aq nq cq Aq' mq cq' Lq Oq), kv (lgv 0 4 1 2), lfOctN 200 dN, lfT3 Eb ((0 + 500) + 500) hfEb (lgv g0b g1b g2b g3b) eb, lfT3 Eb ((0 + 500) + 500) hfEb (lgv g0b g1b g2b g3b) eb, lfE Eb ((0 + 500) + 500) hfEb eb, kv (lgv g0b g1b g2b g3b), kv (.int .i64 eb), lfBox 0 W5.heap.size, lfBox 1 W5.heap.size, lfSD W5.heap.size Eb ((0 + 500) + 500) hfEb eb, lfSL W5.heap.size g0b g1b g2b g3b, kv (.int .i64 eb)] [29, 30, 31, 32, 28, 33, 34, 35, 8, 9, 8, 9, 10] [none, none, none, none, none, none, none, none, none, none, some 0, some 1, none] rfl (fun _ _ => True) ?hgam4 (by kernel_rfl) (backsB_spec (by kernel_rfl)) ?start4 ?step4  ?store4 ?fin4
    case hgam4 =>
      intro listed i w2 w3 hki hlo2 hb2 hg2
      exact trivial
    case start4 => exact trivial
    case step4 =>
      intro i o listed a1 w2 hki ho h0 hclo hk hdep
      have hi : i < 13 := (Array.getElem?_eq_some_iff.1 ho).1
      have e2 := ev (show a1.eval (.tmp 2) = .pointer (some ⟨g2, 0, none⟩) from hk.frame 2 (frame_of (by kernel_rfl)))
      have e3 := ev (show a1.eval (.tmp 3) = .pointer (some ⟨g3, 0, none⟩) from hk.frame 3 (frame_of (by kernel_rfl)))
      have hii : i = 0 ∨ i = 1 ∨ i = 2 ∨ i = 3 ∨ i = 4 ∨ i = 5 ∨ i = 6 ∨ i = 7 ∨ i = 8 ∨ i = 9 ∨ i = 10 ∨ i = 11 ∨ i = 12 := by omega
      rcases hii with rfl | rfl | rfl | rfl | rfl | rfl | rfl | rfl | rfl | rfl | rfl | rfl | rfl
      · cases ho
        obtain ⟨k0, k1, k2, k3, kf⟩ := cells_of4 (box_at HBQ5.out hk.below)
        refine wpOp_of rfl rfl (wp_value (v := dv Aq nq cq Aq' mq cq' Lq Oq) ?_ rfl)
        go_simp
      · cases ho
        obtain ⟨k0, k1, k2, k3, kf⟩ := cells_log (box_at HL5.out hk.below)
        refine wpOp_of rfl rfl (wp_value (v := lgv 0 4 1 2) ?_ rfl)
        go_simp
      · cases ho
        have hmk := HMK.out w2
        refine wpOp_of rfl rfl ?_
        go_simp
        refine ⟨_, rfl, ⟨_, _, rfl, by rw [HDN.out]; exact (octs_made w2 200).more (by simp)⟩, (Below.refl _ _).alloc (Nat.le_refl _) _⟩
      · cases ho
        have d0 := ev (show a1.eval (.tmp 29) = dv Aq nq cq Aq' mq cq' Lq Oq from hk.done 0 _ 29 rfl rfl (hdep ⟨0, .data⟩ (by simp) rfl))
        have d1 := ev (show a1.eval (.tmp 30) = lgv 0 4 1 2 from hk.done 1 _ 30 rfl rfl (hdep ⟨1, .data⟩ (by simp) rfl))
        have hokx := HOK5.out.below hk.below
        obtain ⟨Ad, cd, hvd, hox⟩ := hk.done 2 _ 31 rfl rfl (hdep ⟨2, .data⟩ (by simp) rfl)
        have d2 := ev hvd
        have HC := Lib.hid (fun c => HAPb.out w2 _ _ c hokx hox)
        clear hokx hox
        refine wpOp_of rfl rfl ?_
        go_simp
        refine (HC.out _).mono ?_
        rintro e w3 ⟨v', rfl, hok3, hb3⟩
        exact ⟨_, rfl, ⟨_, rfl, hok3⟩, hb3⟩
      · cases ho
        obtain ⟨xx, hv, hx⟩ := hk.done 3 _ 32 rfl rfl (hdep ⟨3, .data⟩ (by simp) rfl)
        have d3 := ev hv
        refine wpOp_of rfl rfl (wp_value ?_ ⟨xx, rfl, hx⟩)
        simp [execOp, d3, Act.eval]
      · cases ho
        obtain ⟨xx, hv, hx⟩ := hk.done 4 _ 28 rfl rfl (hdep ⟨4, .data⟩ (by simp) rfl)
        have d4 := ev hv
        refine wpOp_of rfl rfl (wp_value (v := xx) ?_ hx)
        clear hx
        go_simp
      · cases ho
        obtain ⟨xx, hv, hx⟩ := hk.done 4 _ 28 rfl rfl (hdep ⟨4, .data⟩ (by simp) rfl)
        have d4 := ev hv
        clear hx
        refine wpOp_of rfl rfl (wp_value (v := lgv g0b g1b g2b g3b) ?_ rfl)
        go_simp
      · cases ho
        obtain ⟨xx, hv, hx⟩ := hk.done 4 _ 28 rfl rfl (hdep ⟨4, .data⟩ (by simp) rfl)
        have d4 := ev hv
        clear hx
        refine wpOp_of rfl rfl (wp_value (v := .int .i64 eb) ?_ rfl)
        go_simp
      · cases ho
        refine wpOp_of rfl rfl ?_
        go_simp
        exact ⟨_, rfl, ⟨_, _, rfl, hk.below.size, box_new _ _, shp0 _ _ _ _ _ _ _ _ (by decide)⟩, (Below.refl _ _).alloc (Nat.le_refl _) _⟩
      · cases ho
        refine wpOp_of rfl rfl ?_
        go_simp
        exact ⟨_, rfl, ⟨_, _, rfl, hk.below.size, box_new _ _, shp1 _ _ _ _⟩, (Below.refl _ _).alloc (Nat.le_refl _) _⟩
      · exact absurd hki (by simp)
      · exact absurd hki (by simp)
      · cases ho
        have d7 := ev (show a1.eval (.tmp 35) = .int .i64 eb from hk.done 7 _ 35 rfl rfl (hdep ⟨7, .data⟩ (by simp) rfl))
        refine wpOp_of rfl rfl (wp_value (v := .int .i64 eb) ?_ rfl)
        simp [execOp, d7, Act.eval]
    case store4 =>
      intro i K o listed a1 w2 hki ho h0 hclo hk hdep
      have hi : i < 13 := (Array.getElem?_eq_some_iff.1 ho).1
      have e2 := ev (show a1.eval (.tmp 2) = .pointer (some ⟨g2, 0, none⟩) from hk.frame 2 (frame_of (by kernel_rfl)))
      have e3 := ev (show a1.eval (.tmp 3) = .pointer (some ⟨g3, 0, none⟩) from hk.frame 3 (frame_of (by kernel_rfl)))
      have hii : i = 0 ∨ i = 1 ∨ i = 2 ∨ i = 3 ∨ i = 4 ∨ i = 5 ∨ i = 6 ∨ i = 7 ∨ i = 8 ∨ i = 9 ∨ i = 10 ∨ i = 11 ∨ i = 12 := by omega
      rcases hii with rfl | rfl | rfl | rfl | rfl | rfl | rfl | rfl | rfl | rfl | rfl | rfl | rfl
      · exact absurd hki (by simp)
      · exact absurd hki (by simp)
      · exact absurd hki (by simp)
      · exact absurd hki (by simp)
      · exact absurd hki (by simp)
      · exact absurd hki (by simp)
      · exact absurd hki (by simp)
      · exact absurd hki (by simp)
      · exact absurd hki (by simp)
      · exact absurd hki (by simp)
      · cases hki
        cases ho
        have hx : OkE w2 (a1.eval (.tmp 33)) Eb eb := hk.done 5 _ 33 rfl rfl (hdep ⟨5, .data⟩ (by simp) rfl)
        obtain ⟨⟨Ax, nx, cx, Ax', mx, cx', Lx, Ox, hv, hnx⟩, hx2⟩ := hx
        have d5 := ev hv
        have HX : Hid (OkE w2 (dv Ax nx cx Ax' mx cx' Lx Ox) Eb eb) := by rw [← hv]; exact ⟨⟨_, _, _, _, _, _, _, _, hv, hnx⟩, hx2⟩
        obtain ⟨g, o1, hg, hge, hgo, hgs⟩ := hk.done 8 _ 8 rfl rfl (hdep ⟨8, .data⟩ (by simp) rfl)
        have d8 := ev hg
        obtain ⟨y0, y1, y2, y3, j0, j1, j2, j3, jf⟩ := cells_any0 hgo hgs
        have HGO := Lib.hid hgo
        have HGS := Lib.hid hgs
        clear hx2 hgo hgs
        refine wpOp_of rfl rfl ?_
        go_simp
        exact ⟨rfl, ⟨g, hg, hge, dbox_st HGO.out HGS.out hfEb hnx HX.out⟩, st4_below (Below.refl _ _) hge _ _ _ _, rk_disk HGO.out HGS.out _ _ _ _ _ _ _ _ hnx, trivial⟩
      · cases hki
        cases ho
        have d6 := ev (show a1.eval (.tmp 34) = lgv g0b g1b g2b g3b from hk.done 6 _ 34 rfl rfl (hdep ⟨6, .data⟩ (by simp) rfl))
        obtain ⟨g, o1, hg, hge, hgo, hgs⟩ := hk.done 9 _ 9 rfl rfl (hdep ⟨9, .data⟩ (by simp) rfl)
        have d9 := ev hg
        obtain ⟨y0, y1, y2, y3, j0, j1, j2, j3, jf⟩ := cells_any1 hgo hgs
        refine wpOp_of rfl rfl ?_
        go_simp
        exact ⟨rfl, ⟨g, hg, hge, log_at hgo hgs _ _ _ _⟩, st4_below (Below.refl _ _) hge _ _ _ _, rk_log hgo hgs _ _ _ _, trivial⟩
      · exact absurd hki (by simp)
    case fin4 =>
      intro listed a2 w2 hall hk
      have hact := keptA_all [29, 30, 31, 32, 28, 33, 34, 35, 8, 9, 10] hk (by kernel_rfl)
      have h29 := hk.done 0 _ 29 rfl rfl (hall 0 (by decide))
      have h30 := hk.done 1 _ 30 rfl rfl (hall 1 (by decide))
      have h31 := hk.done 2 _ 31 rfl rfl (hall 2 (by decide))
      have h32 := hk.done 3 _ 32 rfl rfl (hall 3 (by decide))
      have h28 := hk.done 4 _ 28 rfl rfl (hall 4 (by decide))
      have h33 := hk.done 5 _ 33 rfl rfl (hall 5 (by decide))
      have h34 := hk.done 6 _ 34 rfl rfl (hall 6 (by decide))
      have h35 := hk.done 7 _ 35 rfl rfl (hall 7 (by decide))
      have h8 := hk.done 8 _ 8 rfl rfl (hall 8 (by decide))
      have h9 := hk.done 9 _ 9 rfl rfl (hall 9 (by decide))
      have h10 := hk.done 12 _ 10 rfl rfl (hall 12 (by decide))
      have s10 := hk.acts 10 _ rfl rfl (hall 10 (by decide))
      change PhK _ 10 (a2.eval (.tmp 8)) w2 at s10
      have s11 := hk.acts 11 _ rfl rfl (hall 11 (by decide))
      change PhK _ 11 (a2.eval (.tmp 9)) w2 at s11
      have HB := Lib.hid hk.below
      simp only [List.foldl_cons, List.foldl_nil, List.setIfInBounds_toArray, List.set_cons_succ, List.set_cons_zero] at hact
      generalize a2.eval (.tmp 29) = u29 at hact h29
      generalize a2.eval (.tmp 30) = u30 at hact h30
      generalize a2.eval (.tmp 31) = u31 at hact h31
      generalize a2.eval (.tmp 32) = u32 at hact h32
      generalize a2.eval (.tmp 28) = u28 at hact h28
      generalize a2.eval (.tmp 33) = u33 at hact h33
      generalize a2.eval (.tmp 34) = u34 at hact h34
      generalize a2.eval (.tmp 35) = u35 at hact h35
      generalize a2.eval (.tmp 8) = u8 at hact h8 s10
      generalize a2.eval (.tmp 9) = u9 at hact h9 s11
      generalize a2.eval (.tmp 10) = u10 at hact h10
      rw [hact]
      clear hact
      obtain rfl : u10 = .int .i64 eb := h10
      obtain ⟨w6, rfl⟩ : ∃ x, x = w2 := ⟨w2, rfl⟩
      have HX7 := Lib.hid (box_at HX6.out HB.out)
      have HL7 := Lib.hid (box_at HL5.out HB.out)
      have hpx7 := (HPX.out.below HB.out (Nat.le_refl _))
      obtain ⟨b0, o0, A0, c0, rfl, hb0, f0, f1, hoct, -⟩ := hpx7 0 (by decide)
      have HBB7 := Lib.hid (HBB5.out.trans (HB.out.mono HBB5.out.size))
      have f0' : w6.cell? ⟨b0, o0, none⟩ = some (.int .i64 1) := f0
      have f1' : w6.cell? ⟨b0, o0 + 1, none⟩ = some (.slice A0 3 c0) := f1
      have HTX : Hid ((convert 28 9 (.slice A0 3 c0)).run Try.prog w6 = .ok (.string (text abc)) w6) := octs_text hoct
      clear hpx7 hoct hk s10 s11 f0 f1 h28 h29 h30 h31 h32 h33 h34 h35 h8 h9
      obtain rfl : eb = 9 := HEB.out
      obtain ⟨k0, k1, k2, k3, kf⟩ := cells_log HX7.out
      obtain ⟨p0, p1, p2, p3, pf⟩ := cells_log HL7.out
      have htx := HTX.out
      have hte : text abc = { data := #[97, 98, 99] } := rfl
      rw [hte] at htx
      clear HTX
      go_wp2_with fail
      go_ret
      exact ⟨rfl, HBB7.out⟩
end Go.Proofs.Ytjcgggheablpeaa.Wal
