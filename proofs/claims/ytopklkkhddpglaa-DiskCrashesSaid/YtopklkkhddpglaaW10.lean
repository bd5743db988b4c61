/- Contracts: Crash. -/
import Derived.Test.YtopklkkhddpglaaW9
import Derived.Deep.DeepCutAuto
namespace Go.Proofs.Ytopklkkhddpglaa
open Go.RowKit Dk

set_option maxHeartbeats 400000 in
theorem crash_yes (A : Option Addr) (n c : Nat) (A' : Option Addr) (m c' : Nat) (S : List (List UInt8)) (W : Ws) (L : Int) (O : Bool) (AK : Option Addr) (K : List Bool) (ck : Nat) (w : World) (h : Dsk w A n c A' m c' S W) (hy : may S W L = true) (hm : m ≤ 1000000000) (hK : Bools w w.heap.size AK K) :
    Calls Try.prog 11 #[dv A n c A' m c' L O, .slice AK K.length ck] w fun e w' => ∃ g cap, e = .returned (dv (some ⟨g, 0, none⟩) n cap none 0 0 (-1) false) ∧ Dsk w' (some ⟨g, 0, none⟩) n cap none 0 0 (done (keepB K) 0 W S) [] ∧ Below w.heap.size w w' := by
  have hn : n ≤ 4096 := by have := (may_iff S W L).1 hy; rw [h.hn] at this; exact this.2.1
  have hm2 : m ≤ 2305843009213693952 := by omega
  have X0 : Hid (Bx w (w.heap.size + 1 + 1) (.slice A n c) (.slice A' m c') (.int .i64 L) (.bool O) _) := Lib.hid (Bx.new2 w (.slice A n c) (.slice A' m c') (.int .i64 L) (.bool O) (.cells #[.slice AK K.length ck] 26))
  have G0 : Hid ((((w.alloc (.cells #[.slice A n c, .slice A' m c', .int .i64 L, .bool O] 25)).alloc (.cells #[.slice AK K.length ck] 26)).alloc (.cells #[.slice none 0 0, .slice none 0 0, .int .i64 0, .bool false] 25)).cell? ⟨w.heap.size + 1, 0, none⟩ = some (.slice AK K.length ck)) := by
    show _ = _
    rw [World.cell?_alloc_lt _ _ _ (by simp)]
    simp
  have H := Lib.hid h
  have HY := Lib.hid hy
  have HK := Lib.hid hK
  clear h hy hK
  go_enter Try.func11, Try.ntmps11
  go_wp2_with fail
  obtain ⟨w0, hw0⟩ : ∃ w0, w0 = (((w.alloc (.cells #[.slice A n c, .slice A' m c', .int .i64 L, .bool O] 25)).alloc (.cells #[.slice AK K.length ck] 26)).alloc (.cells #[.slice none 0 0, .slice none 0 0, .int .i64 0, .bool false] 25)) := ⟨_, rfl⟩
  rw [← hw0] at X0 G0 ⊢
  clear hw0
  refine ((H.out.below X0.out.b).may L O (by omega) hm2).mono ?_
  rintro e w1 ⟨rfl, hb1⟩
  rw [HY.out]
  have X1 := Lib.hid (X0.out.below hb1)
  have G1 := Lib.hid ((hb1.cell (p := ⟨w.heap.size + 1, 0, none⟩) (by have := X0.out.hi; simp only; omega)).trans G0.out)
  clear hb1
  obtain ⟨k0, k1, k2, k3, kf⟩ := cells_of4 X1.out.d
  go_wp2_with fail
  clear k0 k1 k2 k3 kf
  refine ((H.out.below X1.out.b).some_ L L O (w.heap.size + 1) ck K AK (by have := X1.out.hi; omega) G1.out ((HK.out.below X1.out.b (Nat.le_refl _)).more X1.out.b.size) HY.out hm).mono ?_
  rintro e w4 ⟨g, cap, rfl, hg, hD, hb4⟩
  have X4 := Lib.hid (X1.out.below hb4)
  have HD := Lib.hid hD
  have hg2 := X1.out.hi
  clear hb4 hD
  obtain ⟨k0, k1, k2, k3, kf⟩ := cells_of4 X4.out.d
  go_upto_region 4 with (fail)
  clear k0 k1 k2 k3 kf
  have X5 := Lib.hid (X4.out.set (.slice (some ⟨g, 0, none⟩) n cap) (.slice none 0 0) (.int .i64 L) (.bool O))
  have p5 := HD.out.s.st4 X4.out.d (by omega) (nu_sl _ _ _) (nu_sl _ _ _) (nu_i _) (nu_b _) (.slice (some ⟨g, 0, none⟩) n cap) (.slice none 0 0) (.int .i64 L) (.bool O)
  rw [← st4_size w4 w.heap.size (.slice (some ⟨g, 0, none⟩) n cap) (.slice none 0 0) (.int .i64 L) (.bool O)] at p5
  have P5 := Lib.hid p5
  clear p5
  obtain ⟨w5, hw5⟩ : ∃ w5, w5 = st4 w4 w.heap.size (.slice (some ⟨g, 0, none⟩) n cap) (.slice none 0 0) (.int .i64 L) (.bool O) := ⟨_, rfl⟩
  rw [← hw5] at X5 P5
  unfold st4 at hw5
  rw [← hw5]
  clear hw5
  obtain ⟨k0, k1, k2, k3, kf⟩ := cells_of4 X5.out.d
  obtain ⟨r0, r1, r2, r3, rf⟩ := cells_of4 X5.out.r_
  go_wp2_with fail
  have hlo := X5.out.lo
  refine bodyPost_ret (v := dv (some ⟨g, 0, none⟩) n cap none 0 0 (-1) false) (by simp [results, Try.results11, go_sem, r0, r1, r2, r3]) rfl ⟨g, cap, rfl, ?_, ?_⟩
  · have p1 := P5.out.setFar (p := ⟨w.heap.size, 2, none⟩) k2 (nu_i _) (by simp only; omega) (.int .i64 (-1))
    have p2 := p1.setFar (p := ⟨w.heap.size, 3, none⟩) ((World.cell?_setCell_other _ _ _ _ (by simp)).trans k3) (nu_b _) (by simp only; omega) (.bool false)
    have e2 : ((w5.setCell ⟨w.heap.size, 2, none⟩ (.int .i64 (-1))).setCell ⟨w.heap.size, 3, none⟩ (.bool false)).heap[w.heap.size + 1 + 1]? = _ := ((Below.heap_setCell _ _ _ _ (by simp; omega)).trans (Below.heap_setCell w5 _ _ _ (by simp; omega))).trans X5.out.r_
    have p3 := p2.st4 e2 (by omega) (nu_sl _ _ _) (nu_sl _ _ _) (nu_i _) (nu_b _) (.slice (some ⟨g, 0, none⟩) n cap) (.slice none 0 0) (.int .i64 (-1)) (.bool false)
    exact ⟨by simpa using p3, (fun i hi => by cases hi), HD.out.hn, rfl, HD.out.hc, Nat.le_refl _⟩
  · exact st4_below ((X5.out.b.setCell (by simp) _).setCell (by simp) _) (by omega) _ _ _ _
end Go.Proofs.Ytopklkkhddpglaa
