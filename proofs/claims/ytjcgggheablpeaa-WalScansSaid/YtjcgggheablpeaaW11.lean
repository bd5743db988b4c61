/- Contract of wal: Clear, on any disk. -/
import Derived.Test.YtjcgggheablpeaaW10
namespace Go.Proofs.Ytjcgggheablpeaa.Wal
open Go.RowKit Dis Dis.Dk

def clSteps (i : Nat) : List (DD → DD × Int) := [wrC (i : Int) [nz], flD]
theorem clear_fit {D : DD} {t i : Nat} (hf : Fit D t) (hi : i + 1 ≤ D.S.length) : Fit (runD (clSteps i) D).1 (t + 200) ∧ (runD (clSteps i) D).1.S.length = D.S.length ∧ ((runD (clSteps i) D).2 = 0 ∨ (runD (clSteps i) D).2 = 10) := by
  have h2 : ∀ b ∈ [nz], b.length = 64 := fun b hb => by rw [List.mem_singleton.1 hb]; exact nz_len
  have h := runD_fit D.S.length (clSteps i) (fun δ hδ E t' hE hEs => by
    simp only [clSteps, List.mem_cons, List.not_mem_nil, or_false] at hδ
    rcases hδ with rfl | rfl
    · have := hE.wr i _ h2 (by simp; omega)
      exact ⟨this.1.more (by simp), this.2 ▸ hEs⟩
    · exact ⟨hE.fl.1.more (by omega), hE.fl.2.trans hEs⟩) D t hf rfl
  refine ⟨h.1.more (by simp [clSteps]), h.2, runD_err _ (fun δ hδ E => ?_) D⟩
  simp only [clSteps, List.mem_cons, List.not_mem_nil, or_false] at hδ
  rcases hδ with rfl | rfl
  · exact wrC_err _ _ _
  · exact flD_err _
theorem steps2 {w : World} {v : Value} {D : DD} {t : Nat} {i : Nat} {gs : Nat} {v1 : Value} (h : Okd w v D) (hf : Fit D t) (ht : t ≤ 10000) (h64 : D.S.length ≠ 64) (hi : i + 1 ≤ D.S.length)
    (hg : w.heap[gs]? = some (.cells #[v1, f37] 79 (0, 0))) (h1 : FnO w v1 (i : Int) nz) :
    Calls Try.prog 34 #[v, .slice (some ⟨gs, 0, none⟩) 2 2] w fun e w' => ∃ v', e = .returned (.tuple #[v', .int .i64 (runD (clSteps i) D).2]) ∧ Okd w' v' (runD (clSteps i) D).1 ∧ Below w.heap.size w w' := by
  obtain ⟨c1, rfl, o1⟩ := stp_write (s := D.S.length) (N := 1) h1 nz_len (by omega) (by omega) h64
  have hc : chunks nz 1 = [nz] := by decide
  have hq := do_any w v D t D.S.length gs [⟨57, c1, wrC (i : Int) (chunks nz 1)⟩, ⟨37, #[], flD⟩] h hf ht rfl h64 (fun q hq => by
    simp only [List.mem_cons, List.not_mem_nil, or_false] at hq
    rcases hq with rfl | rfl
    · exact o1
    · exact stp_flush _ _) (by simp) ⟨lt_of_at hg, fun j hj => by
      rw [cell_of_row w gs j _ _ _ hg]
      simp only [List.length_cons, List.length_nil] at hj
      have : j = 0 ∨ j = 1 := by omega
      rcases this with rfl | rfl <;> rfl⟩
  simp only [List.map_cons, List.map_nil, hc] at hq
  exact hq
/-- What Clear answers. -/
def clR (D : DD) (f n a x : Int) : DD × Int := if mayLB D.S D.W D.L f n a x = false then (D, 1) else runD (clSteps (f + a).toNat) D
def ClP (w : World) (D : DD) (f n a x : Int) (e : Ending) (w' : World) : Prop :=
  ∃ v', e = .returned (.tuple #[v', .int .i64 (clR D f n a x).2]) ∧ OkE w' v' (clR D f n a x).1 (clR D f n a x).2 ∧ Below w.heap.size w w'
structure CB (w0 : World) (od ol : Obj) (w : World) : Prop where
  d : w.heap[w0.heap.size]? = some od
  l : w.heap[w0.heap.size + 1]? = some ol
  rl : w.heap[w0.heap.size + 1 + 1]? = some zdo
  b : Below w0.heap.size w0 w
theorem CB.below {w0 w w' : World} {od ol : Obj} (h : CB w0 od ol w) (hb : Below w.heap.size w w') : CB w0 od ol w' := ⟨box_at h.d hb, box_at h.l hb, box_at h.rl hb, h.b.trans (hb.mono h.b.size)⟩
theorem CB.new (w : World) (od ol : Obj) : CB w od ol (((w.alloc od).alloc ol).alloc zdo) := by
  have h1 : Below w.heap.size w (w.alloc od) := (Below.refl _ _).alloc (Nat.le_refl _) _
  refine ⟨?_, ?_, ?_, (h1.alloc (by simp <;> omega) _).alloc (by simp <;> omega) _⟩
  · rw [Below.heap_alloc _ _ _ (by simp <;> omega), Below.heap_alloc _ _ _ (by simp)]; exact heap_alloc_new _ _
  · rw [Below.heap_alloc _ _ _ (by simp)]; have := heap_alloc_new (w.alloc od) ol; simpa using this
  · have := heap_alloc_new ((w.alloc od).alloc ol) zdo; simpa using this
set_option maxRecDepth 100000 in
set_option maxHeartbeats 8000000 in
theorem clear_any (w : World) (v : Value) (D : DD) (t : Nat) (f n a x : Int) (h : Okd w v D) (hf : Fit D t) (ht : t ≤ 9000) (h64 : D.S.length ≠ 64) (hn2 : n ≤ 9223372036854775807) (ha2 : a ≤ 9223372036854775807) (hf0 : -9223372036854775808 ≤ f) (hf2 : f ≤ 9223372036854775807) :
    Calls Try.prog 24 #[v, lgv f n a x] w (ClP w D f n a x) := by
  obtain ⟨Ad, cd, Ad', cd', hv, hd, hz⟩ := h
  have hok : Okd w v D := ⟨Ad, cd, Ad', cd', hv, hd, hz⟩
  subst hv
  have hS4096 : D.S.length ≤ 4096 := ((may_iff _ _ _).1 hf.may).2.1
  have hm9 : D.W.length ≤ 9000 := by have := hf.w_; omega
  obtain ⟨n0, hn0'⟩ : ∃ n0, n0 = D.S.length := ⟨_, rfl⟩
  obtain ⟨m0, hm0⟩ : ∃ m0, m0 = D.W.length := ⟨_, rfl⟩
  obtain ⟨L0, hL0⟩ : ∃ L0, L0 = D.L := ⟨_, rfl⟩
  obtain ⟨O0, hO0⟩ : ∃ O0, O0 = D.O := ⟨_, rfl⟩
  obtain ⟨w1, hw1⟩ : ∃ w1, w1 = ((w.alloc (.cells #[.slice Ad n0 cd, .slice Ad' m0 cd', .int .i64 L0, .bool O0] 25 (0, 0))).alloc (lgo f n a x)).alloc zdo := ⟨_, rfl⟩
  have X1 : Hid (CB w (.cells #[.slice Ad n0 cd, .slice Ad' m0 cd', .int .i64 L0, .bool O0] 25 (0, 0)) (lgo f n a x) w1) := by show CB _ _ _ _; rw [hw1]; exact CB.new _ _ _
  rw [← hn0', ← hm0, ← hL0, ← hO0] at hok ⊢
  rw [← hn0', ← hm0] at hd
  rw [← hn0'] at h64 hS4096
  rw [← hm0] at hm9
  have HOK := Lib.hid hok
  have HF := Lib.hid hf
  have HW := Lib.hid hw1
  have HN0 : Hid (n0 = D.S.length ∧ L0 = D.L) := ⟨hn0', hL0⟩
  have HDsk : Hid (Dsk w Ad n0 cd Ad' m0 cd' D.S D.W) := hd
  clear hd hz hok hw1 hn0' hm0 hL0 hO0 hf
  obtain ⟨k0, k1, k2, k3, kf⟩ := cells_log X1.out.l
  obtain ⟨q0, q1, q2, q3, qf⟩ := cells_of4 X1.out.d
  go_enter Try.func24, Try.ntmps24
  go_upto_region 1 with fail
  rw [← HW.out]
  go_wp2_with fail
  refine (may_l L0 O0 f n a x (HDsk.out.below X1.out.b) (by omega) (by omega) hf0 hf2).mono ?_
  rintro e w2 ⟨rfl, hb2⟩
  have X2 := Lib.hid (X1.out.below hb2)
  clear hb2 k0 k1 k2 k3 kf q0 q1 q2 q3 qf
  obtain ⟨r0, r1, r2, r3, rf⟩ := cells_of4 X2.out.rl
  cases hML : mayLB D.S D.W L0 f n a x with
  | false =>
    have HR : Hid (clR D f n a x = (D, 1)) := by
      show _ = _
      unfold clR
      rw [← HN0.out.2, hML]
      rfl
    clear hML
    go_wp2_with fail
    refine bodyPost_ret (v := .tuple #[dz, .int .i64 1]) (by simp [results, Try.results24, go_sem, r0, r1, r2, r3]) rfl ⟨dz, by rw [HR.out], ?_, ?_⟩
    · rw [HR.out]; exact OkE.none_ (e := 1) (by decide) (by decide)
    · exact st4_below X2.out.b (by omega) _ _ _ _
  | true =>
    obtain ⟨hmay, p1, p2, p3, p4, p5, p6, p7⟩ := mayLB_iff.1 hML
    obtain ⟨sx, hi⟩ : ∃ sx : Nat, f + a = (sx : Int) := ⟨(f + a).toNat, by omega⟩
    obtain ⟨q, hq⟩ : ∃ q, q = runD (clSteps sx) D := ⟨_, rfl⟩
    have HR : Hid (clR D f n a x = q) := by
      show _ = _
      unfold clR
      rw [← HN0.out.2, hML, hi, hq]
      rfl
    have hsl : sx + 1 ≤ n0 := by have := HN0.out.1; omega
    have hfa : 0 ≤ f + a ∧ f + a ≤ 4096 := by have := HN0.out.1; omega
    have hfit := clear_fit (i := sx) HF.out (by rw [← HN0.out.1]; exact hsl)
    rw [← hq] at hfit
    obtain ⟨hfq, hsq, heq⟩ := hfit
    have HSQ : Hid (q.1.S.length ≠ 64) := by show q.1.S.length ≠ 64; rw [hsq, ← HN0.out.1]; exact h64
    have HQ := Lib.hid hq
    have HHI := Lib.hid hi
    clear hML hmay hq hsq r0 r1 r2 r3 rf hi
    go_upto_region 3 with fail
    refine wp_region_acts (by kernel_rfl) (w.heap.size) (X2.out.b.size) [kv (dv Ad n0 cd Ad' m0 cd' L0 O0), kv (.pointer (some ⟨w.heap.size + 1, 0, none⟩)), kv (.int .i64 f), kv (.pointer (some ⟨w.heap.size + 1, 2, none⟩)), kv (.int .i64 a), kv (.int .i64 (sx : Int)), lfNz, lfFn (sx : Int) nz, lfRow2 (sx : Int) nz, lfT2 q.1 (t + 200) hfq q.2, lfE q.1 (t + 200) hfq q.2, kv (.int .i64 q.2), lfDAt (w.heap.size + 1 + 1) q.1 (t + 200) hfq q.2, kv (.int .i64 q.2)] [11, 12, 13, 14, 15, 16, 17, 18, 19, 20, 21, 22, 4, 5] [none, none, none, none, none, none, none, none, none, none, none, none, some 0, none] rfl (fun (_ : Array Bool) (w' : World) => Okd w' (dv Ad n0 cd Ad' m0 cd' L0 O0) D ∧ w'.heap[w.heap.size]? = some (.cells #[.slice Ad n0 cd, .slice Ad' m0 cd', .int .i64 L0, .bool O0] 25 (0, 0)) ∧ w'.heap[w.heap.size + 1]? = some (lgo f n a x) ∧ (∃ o, w'.heap[w.heap.size + 1 + 1]? = some o ∧ Shp 0 o)) ?hgam3 (by kernel_rfl) (backsB_spec (by kernel_rfl)) ?start3 ?step3 ?store3 ?fin3
    case hgam3 =>
      intro listed i w2 w3 hki hlo2 hb2 hg2
      obtain ⟨g1, g2, g3, ⟨o4, g4, g4s⟩⟩ := hg2
      exact ⟨g1.below hb2, box_at g2 hb2, box_at g3 hb2, ⟨o4, box_at g4 hb2, g4s⟩⟩
    case start3 => exact ⟨HOK.out.below (X2.out.b.trans ((below_dr0 _).mono X2.out.b.size)), X2.out.d, X2.out.l, ⟨_, X2.out.rl, shp0 _ _ _ _ _ _ _ _ (by decide)⟩⟩
    case step3 =>
      intro i o listed a1 w2 hki ho h0 hclo hk hdep
      have hi : i < 14 := (Array.getElem?_eq_some_iff.1 ho).1
      have e2 := ev (show a1.eval (.tmp 2) = .pointer (some ⟨w.heap.size, 0, none⟩) from hk.frame 2 (frame_of (by kernel_rfl)))
      have e3 := ev (show a1.eval (.tmp 3) = .pointer (some ⟨w.heap.size + 1, 0, none⟩) from hk.frame 3 (frame_of (by kernel_rfl)))
      have e4 := ev (show a1.eval (.tmp 4) = .pointer (some ⟨w.heap.size + 1 + 1, 0, none⟩) from hk.frame 4 (frame_of (by kernel_rfl)))
      have hii : i = 0 ∨ i = 1 ∨ i = 2 ∨ i = 3 ∨ i = 4 ∨ i = 5 ∨ i = 6 ∨ i = 7 ∨ i = 8 ∨ i = 9 ∨ i = 10 ∨ i = 11 ∨ i = 12 ∨ i = 13 := by omega
      rcases hii with rfl | rfl | rfl | rfl | rfl | rfl | rfl | rfl | rfl | rfl | rfl | rfl | rfl | rfl
      · cases ho
        obtain ⟨k0, k1, k2, k3, kf⟩ := cells_of4 hk.gam.2.1
        refine wpOp_of rfl rfl (wp_value (v := dv Ad n0 cd Ad' m0 cd' L0 O0) ?_ rfl)
        go_simp
      · cases ho
        refine wpOp_of rfl rfl (wp_value (v := .pointer (some ⟨w.heap.size + 1, 0, none⟩)) ?_ rfl)
        go_simp
      · cases ho
        have d1 := ev (show a1.eval (.tmp 12) = .pointer (some ⟨w.heap.size + 1, 0, none⟩) from hk.done 1 _ 12 rfl rfl (hdep ⟨1, .data⟩ (by simp) rfl))
        obtain ⟨k0, k1, k2, k3, kf⟩ := cells_log hk.gam.2.2.1
        refine wpOp_of rfl rfl (wp_value (v := .int .i64 f) ?_ rfl)
        go_simp
      · cases ho
        refine wpOp_of rfl rfl (wp_value (v := .pointer (some ⟨w.heap.size + 1, 2, none⟩)) ?_ rfl)
        go_simp
      · cases ho
        have d3 := ev (show a1.eval (.tmp 14) = .pointer (some ⟨w.heap.size + 1, 2, none⟩) from hk.done 3 _ 14 rfl rfl (hdep ⟨3, .data⟩ (by simp) rfl))
        obtain ⟨k0, k1, k2, k3, kf⟩ := cells_log hk.gam.2.2.1
        refine wpOp_of rfl rfl (wp_value (v := .int .i64 a) ?_ rfl)
        go_simp
      · cases ho
        have d2 := ev (show a1.eval (.tmp 13) = .int .i64 f from hk.done 2 _ 13 rfl rfl (hdep ⟨2, .data⟩ (by simp) rfl))
        have d4 := ev (show a1.eval (.tmp 15) = .int .i64 a from hk.done 4 _ 15 rfl rfl (hdep ⟨4, .data⟩ (by simp) rfl))
        refine wpOp_of rfl rfl (wp_value (v := .int .i64 (sx : Int)) ?_ rfl)
        go_simp
        rw [← HHI.out, IntKind.wrap_i64]; omega
      · cases ho
        refine wpOp_of rfl rfl ?_
        go_simp
        refine (noughts_any w2).mono ?_
        rintro e w3 ⟨rfl, ho3, hb3⟩
        exact ⟨_, rfl, ⟨_, rfl, ho3⟩, hb3⟩
      · cases ho
        have d5 := ev (show a1.eval (.tmp 16) = .int .i64 (sx : Int) from hk.done 5 _ 16 rfl rfl (hdep ⟨5, .data⟩ (by simp) rfl))
        obtain ⟨gz, hgz, hoz⟩ := hk.done 6 _ 17 rfl rfl (hdep ⟨6, .data⟩ (by simp) rfl)
        have d6 := ev hgz
        refine wpOp_of rfl rfl ?_
        go_simp
        refine (write_fn (sx : Int) (some ⟨gz, 0, none⟩) 64 64 w2).mono ?_
        rintro e w3 ⟨rfl, hga, hgb, hb3⟩
        exact ⟨_, rfl, ⟨_, _, _, _, rfl, hga, hgb, (hoz.below hb3 (Nat.le_refl _)).more hb3.size, by rw [nz_len]; decide, by decide⟩, hb3⟩
      · cases ho
        obtain hf1 := hk.done 7 _ 18 rfl rfl (hdep ⟨7, .data⟩ (by simp) rfl)
        obtain ⟨y1, hy1⟩ : ∃ y, a1.eval (.tmp 18) = y := ⟨_, rfl⟩
        rw [hy1] at hf1
        obtain ⟨ga1, gb1, A1, c1, rfl, hr1⟩ := id hf1
        have d7 := ev hy1
        have F1 := Lib.hid hf1
        clear hf1 hr1 hy1
        refine wpOp_of rfl rfl ?_
        go_simp
        have hba : ∀ o, Below w2.heap.size w2 (w2.alloc o) := fun o => (Below.refl _ _).alloc (Nat.le_refl _) _
        exact ⟨_, rfl, ⟨_, _, rfl, box_new _ _, F1.out.below (hba _)⟩, hba _⟩
      · cases ho
        have d0 := ev (show a1.eval (.tmp 11) = dv Ad n0 cd Ad' m0 cd' L0 O0 from hk.done 0 _ 11 rfl rfl (hdep ⟨0, .data⟩ (by simp) rfl))
        obtain ⟨gs, v1, hgs, hrow, hf1⟩ := hk.done 8 _ 19 rfl rfl (hdep ⟨8, .data⟩ (by simp) rfl)
        have d8 := ev hgs
        have hst := steps2 (i := sx) hk.gam.1 HF.out (by omega) (by rw [← HN0.out.1]; exact h64) (by rw [← HN0.out.1]; exact hsl) hrow hf1
        rw [← HQ.out] at hst
        have HST := Lib.hid hst
        clear hst hrow hf1
        refine wpOp_of rfl rfl ?_
        go_simp
        refine HST.out.mono ?_
        rintro e w3 ⟨v', rfl, hok3, hb3⟩
        exact ⟨_, rfl, ⟨_, rfl, OkE.of _ hok3 HSQ.out⟩, hb3⟩
      · cases ho
        obtain ⟨xx, hv, hx⟩ := hk.done 9 _ 20 rfl rfl (hdep ⟨9, .data⟩ (by simp) rfl)
        have d9 := ev hv
        refine wpOp_of rfl rfl (wp_value (v := xx) ?_ hx)
        clear hx
        go_simp
      · cases ho
        obtain ⟨xx, hv, hx⟩ := hk.done 9 _ 20 rfl rfl (hdep ⟨9, .data⟩ (by simp) rfl)
        have d9 := ev hv
        clear hx
        refine wpOp_of rfl rfl (wp_value (v := .int .i64 q.2) ?_ rfl)
        go_simp
      · exact absurd hki (by simp)
      · cases ho
        have d11 := ev (show a1.eval (.tmp 22) = .int .i64 q.2 from hk.done 11 _ 22 rfl rfl (hdep ⟨11, .data⟩ (by simp) rfl))
        refine wpOp_of rfl rfl (wp_value (v := .int .i64 q.2) ?_ rfl)
        simp [execOp, d11, Act.eval]
    case store3 =>
      intro i K o listed a1 w2 hki ho h0 hclo hk hdep
      have hi : i < 14 := (Array.getElem?_eq_some_iff.1 ho).1
      have e2 := ev (show a1.eval (.tmp 2) = .pointer (some ⟨w.heap.size, 0, none⟩) from hk.frame 2 (frame_of (by kernel_rfl)))
      have e3 := ev (show a1.eval (.tmp 3) = .pointer (some ⟨w.heap.size + 1, 0, none⟩) from hk.frame 3 (frame_of (by kernel_rfl)))
      have e4 := ev (show a1.eval (.tmp 4) = .pointer (some ⟨w.heap.size + 1 + 1, 0, none⟩) from hk.frame 4 (frame_of (by kernel_rfl)))
      have hii : i = 0 ∨ i = 1 ∨ i = 2 ∨ i = 3 ∨ i = 4 ∨ i = 5 ∨ i = 6 ∨ i = 7 ∨ i = 8 ∨ i = 9 ∨ i = 10 ∨ i = 11 ∨ i = 12 ∨ i = 13 := by omega
      rcases hii with rfl | rfl | rfl | rfl | rfl | rfl | rfl | rfl | rfl | rfl | rfl | rfl | rfl | rfl
      · exact absurd hki (by simp)
      · exact absurd hki (by simp)
      · exact absurd hki (by simp)
      · exact absurd hki (by simp)
      · exact absurd hki (by simp)
      · exact absurd hki (by simp)
      · exact absurd hki (by simp)
      · exact absurd hki (by simp)
      · exact absurd hki (by simp)
      · exact absurd hki (by simp)
      · exact absurd hki (by simp)
      · exact absurd hki (by simp)
      · cases hki
        cases ho
        have hx : OkE w2 (a1.eval (.tmp 21)) q.1 q.2 := hk.done 10 _ 21 rfl rfl (hdep ⟨10, .data⟩ (by simp) rfl)
        obtain ⟨⟨Ax, nx, cx, Ax', mx, cx', Lx, Ox, hv, hnx⟩, hx2⟩ := hx
        have d10 := ev hv
        have HX : Hid (OkE w2 (dv Ax nx cx Ax' mx cx' Lx Ox) q.1 q.2) := by rw [← hv]; exact ⟨⟨_, _, _, _, _, _, _, _, hv, hnx⟩, hx2⟩
        obtain ⟨hg1, hg2, hg3, ⟨od, hg4, hg4s⟩⟩ := hk.gam
        have G1 := Lib.hid hg1
        have G2 := Lib.hid hg2
        have G3 := Lib.hid hg3
        have G4 := Lib.hid hg4
        have GS := Lib.hid hg4s
        obtain ⟨y0, y1, y2, y3, j0, j1, j2, j3, jf⟩ := cells_any0 hg4 hg4s
        clear hx2 hg1 hg2 hg3 hg4 hg4s
        refine wpOp_of rfl rfl ?_
        go_simp
        have hrk := rk_disk G4.out GS.out Ax nx cx Ax' mx cx' Lx Ox hnx
        exact ⟨rfl, dbox_st G4.out GS.out hfq hnx HX.out, st4_below (Below.refl _ _) (by omega) _ _ _ _, hrk, G1.out.rk HF.out hrk, (st4_far _ _ _ _ _ (by omega)).trans G2.out, (st4_far _ _ _ _ _ (by omega)).trans G3.out, ⟨_, disk_at G4.out GS.out _ _ _ _ _ _ _ _, shp0 _ _ _ _ _ _ _ _ hnx⟩⟩
      · exact absurd hki (by simp)
    case fin3 =>
      intro listed a2 w2 hall hk
      have hact := keptA_all [11, 12, 13, 14, 15, 16, 17, 18, 19, 20, 21, 22, 5] hk (by kernel_rfl)
      have h11 := hk.done 0 _ 11 rfl rfl (hall 0 (by decide))
      have h12 := hk.done 1 _ 12 rfl rfl (hall 1 (by decide))
      have h13 := hk.done 2 _ 13 rfl rfl (hall 2 (by decide))
      have h14 := hk.done 3 _ 14 rfl rfl (hall 3 (by decide))
      have h15 := hk.done 4 _ 15 rfl rfl (hall 4 (by decide))
      have h16 := hk.done 5 _ 16 rfl rfl (hall 5 (by decide))
      have h17 := hk.done 6 _ 17 rfl rfl (hall 6 (by decide))
      have h18 := hk.done 7 _ 18 rfl rfl (hall 7 (by decide))
      have h19 := hk.done 8 _ 19 rfl rfl (hall 8 (by decide))
      have h20 := hk.done 9 _ 20 rfl rfl (hall 9 (by decide))
      have h21 := hk.done 10 _ 21 rfl rfl (hall 10 (by decide))
      have h22 := hk.done 11 _ 22 rfl rfl (hall 11 (by decide))
      have h5 := hk.done 13 _ 5 rfl rfl (hall 13 (by decide))
      have s12 := hk.acts 12 _ rfl rfl (hall 12 (by decide))
      change PhK _ 12 (a2.eval (.tmp 4)) w2 at s12
      have HB := Lib.hid hk.below
      simp only [List.foldl_cons, List.foldl_nil, List.setIfInBounds_toArray, List.set_cons_succ, List.set_cons_zero] at hact
      generalize a2.eval (.tmp 11) = u11 at hact h11
      generalize a2.eval (.tmp 12) = u12 at hact h12
      generalize a2.eval (.tmp 13) = u13 at hact h13
      generalize a2.eval (.tmp 14) = u14 at hact h14
      generalize a2.eval (.tmp 15) = u15 at hact h15
      generalize a2.eval (.tmp 16) = u16 at hact h16
      generalize a2.eval (.tmp 17) = u17 at hact h17
      generalize a2.eval (.tmp 18) = u18 at hact h18
      generalize a2.eval (.tmp 19) = u19 at hact h19
      generalize a2.eval (.tmp 20) = u20 at hact h20
      generalize a2.eval (.tmp 21) = u21 at hact h21
      generalize a2.eval (.tmp 22) = u22 at hact h22
      generalize a2.eval (.tmp 5) = u5 at hact h5
      rw [hact]
      clear hact
      obtain rfl : u5 = .int .i64 q.2 := h5
      obtain ⟨Ar, nr, cr, Ar', mr, cr', Lr, Or, hbr, hnr, hokr⟩ := s12
      have HBR := Lib.hid hbr
      have HOKR := Lib.hid hokr
      have HBB := Lib.hid (X2.out.b.trans HB.out)
      clear hbr hokr hk h11 h12 h13 h14 h15 h16 h17 h18 h19 h20 h21 h22
      obtain ⟨r0, r1, r2, r3, rf⟩ := cells_of4 HBR.out
      obtain ⟨e9, he9⟩ : ∃ e9, e9 = q.2 := ⟨_, rfl⟩
      rw [← he9]
      have HE9 := Lib.hid he9
      clear he9
      go_wp2_with fail
      refine bodyPost_ret (v := .tuple #[dv Ar nr cr Ar' mr cr' Lr Or, .int .i64 e9]) (by simp [results, Try.results24, go_sem, r0, r1, r2, r3]) rfl ⟨_, by rw [HR.out, HE9.out], ?_, HBB.out⟩
      rw [HR.out]
      exact HOKR.out
end Go.Proofs.Ytjcgggheablpeaa.Wal
