/- Contracts: Few, one way. -/
import Derived.Test.YtopklkkhddpglaaW30
namespace Go.Proofs.Ytopklkkhddpglaa
open Go.RowKit Dk
set_option maxHeartbeats 6400000 in
theorem few_b (A : Option Addr) (n c : Nat) (A' : Option Addr) (m c' : Nat) (S : List (List UInt8)) (W : Ws) (L : Int) (O : Bool) (w : World) (h : Dsk w A n c A' m c' S W) (hA : n ≤ 60) (hM : 40 < m) :
    Calls Try.prog 7 #[dv A n c A' m c' L O] w fun e w' => e = .returned (dv A (fewS n) c A' (fewW m) c' L O) ∧ Below w.heap.size w w' := by
  have X0 := Lib.hid (Bx.new w (.slice A n c) (.slice A' m c') (.int .i64 L) (.bool O))
  have hc := h.hc
  have hc' := h.hc'
  have HA : Hid (0 < n → ∃ b o, A = some ⟨b, o, none⟩) := fun hp => by
    obtain ⟨b, o, _, _, e, _⟩ := part_at h.s h.hn hp
    exact ⟨b, o, e⟩
  have HB : Hid (0 < m → ∃ b o, A' = some ⟨b, o, none⟩) := fun hp => by
    obtain ⟨b, o, _, _, e, _⟩ := pend_at2 h.w_ h.hm hp
    exact ⟨b, o, e⟩
  clear h
  have HN : Hid (fewS n = n) := by show _ = _; unfold fewS; rw [if_neg (by omega), if_neg (by omega)]
  have HM : Hid (fewW m = 40) := by show _ = _; unfold fewW; rw [if_pos hM]
  rw [HN.out, HM.out]
  clear HN HM HA HB
  go_enter Try.func7, Try.ntmps7
  go_upto_region 1 with fail
  obtain ⟨w0, hw0⟩ : ∃ w0, w0 = ((w.alloc (.cells #[.slice A n c, .slice A' m c', .int .i64 L, .bool O] 25)).alloc (.cells #[.slice none 0 0, .slice none 0 0, .int .i64 0, .bool false] 25)) := ⟨_, rfl⟩
  rw [← hw0] at X0 ⊢
  clear hw0
  obtain ⟨k0, k1, k2, k3, kf⟩ := cells_of4 X0.out.d
  obtain ⟨r0, r1, r2, r3, rf⟩ := cells_of4 X0.out.r_
  go_wp2_with fail
  refine bodyPost_ret (v := dv A n c A' 40 c' L O) (by simp [results, Try.results7, go_sem, r0, r1, r2, r3]) rfl ⟨rfl, ?_⟩
  exact st4_below (X0.out.b.setCell (by simp) _) (by omega) _ _ _ _
end Go.Proofs.Ytopklkkhddpglaa
