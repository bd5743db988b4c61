/- Contracts of wal: behind. -/
import Derived.Test.YtjcgggheablpeaaW5
import Derived.Deep.RegionWith
namespace Go.Proofs.Ytjcgggheablpeaa.Wal
open Go.RowKit Dis Dis.Dk

set_option maxHeartbeats 1600000 in
theorem behind_any (f n a x k : Int) (w : World) (ha : -9223372036854775808 ≤ a) (ha2 : a ≤ 9223372036854775000) (hx : -9223372036854775808 ≤ x) (hx2 : x ≤ 9223372036854775000) :
    Calls Try.prog 33 #[lgv f n a x, .int .i64 k] w fun e w' => e = .returned (lgv f n (a + sectZ k) (x + 1)) ∧ Below w.heap.size w w' := by
  obtain ⟨s, hs⟩ : ∃ s, s = sectZ k := ⟨_, rfl⟩
  have hs1 := sectZ_rng k
  have HS : Hid (∀ W : World, Calls Try.prog 42 #[.int .i64 k] W fun e w' => e = .returned (.int .i64 s) ∧ W = w') := fun W => by rw [hs]; exact sect_z k W
  rw [← hs] at hs1 ⊢
  clear hs
  obtain ⟨w1, hw1⟩ : ∃ w1, w1 = (w.alloc (lgo f n a x)).alloc (lgo 0 0 0 0) := ⟨_, rfl⟩
  have hB0 : Below w.heap.size w (w.alloc (lgo f n a x)) := (Below.refl _ _).alloc (Nat.le_refl _) _
  have hB : Below w.heap.size w w1 := by rw [hw1]; exact hB0.alloc (by simp) _
  have hX : w1.heap[w.heap.size]? = some (lgo f n a x) := by rw [hw1, Below.heap_alloc _ _ _ (by simp)]; exact heap_alloc_new _ _
  have hY : w1.heap[w.heap.size + 1]? = some (lgo 0 0 0 0) := by rw [hw1]; have := heap_alloc_new (w.alloc (lgo f n a x)) (lgo 0 0 0 0); simpa using this
  have HB := Lib.hid hB
  have HW := Lib.hid hw1
  obtain ⟨k0, k1, k2, k3, kf⟩ := cells_log hX
  obtain ⟨r0, r1, r2, r3, rf⟩ := cells_log hY
  clear hB0 hB hX hY hw1
  go_enter Try.func33, Try.ntmps33
  go_upto_region 1 with fail
  rw [← HW.out]
  go_region_with (go_at_call 42; refine (HS.out _).mono ?_; rintro e w' ⟨rfl, rfl⟩)
  all_goals
    have e1 : IntKind.i64.wrap (a + s) = a + s := by rw [IntKind.wrap_i64]; omega
    rw [e1]
    go_wp2_with fail
    refine bodyPost_ret (v := lgv f n (a + s) (x + 1)) (by simp [results, Try.results33, go_sem, r0, r1, r2, r3]) rfl ⟨rfl, ?_⟩
  all_goals exact Fra.below_d (st4_below ((HB.out.setCell (by simp) _).setCell (by simp) _) (by omega) _ _ _ _)
end Go.Proofs.Ytjcgggheablpeaa.Wal
