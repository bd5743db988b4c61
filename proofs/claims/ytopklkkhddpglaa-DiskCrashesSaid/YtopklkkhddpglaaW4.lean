/- Contracts: May. -/
import Derived.Test.YtopklkkhddpglaaW3
namespace Go.Proofs.Ytopklkkhddpglaa
open Go.RowKit Dk

theorem cells4 (w : World) (a b c d : Value) (t : TypeId) : (w.alloc (.cells #[a, b, c, d] t)).cell? ⟨w.heap.size, 0, none⟩ = some a ∧ (w.alloc (.cells #[a, b, c, d] t)).cell? ⟨w.heap.size, 1, none⟩ = some b ∧
    (w.alloc (.cells #[a, b, c, d] t)).cell? ⟨w.heap.size, 2, none⟩ = some c ∧ (w.alloc (.cells #[a, b, c, d] t)).cell? ⟨w.heap.size, 3, none⟩ = some d := by
  refine ⟨?_, ?_, ?_, ?_⟩ <;> rw [World.cell?_alloc_new] <;> rfl

set_option maxHeartbeats 1600000 in
theorem may_any (A : Option Addr) (S : List (List UInt8)) (c : Nat) (A' : Option Addr) (W : Ws) (c' : Nat) (L : Int) (O : Bool) (w : World) (hs : Parts w w.heap.size A S) (hw : Pend w w.heap.size A' W)
    (hn : S.length ≤ 4611686018427387904) (hm : W.length ≤ 2305843009213693952) :
    Calls Try.prog 21 #[dv A S.length c A' W.length c' L O] w fun e w' => e = .returned (.bool (may S W L)) ∧ Below w.heap.size w w' := by
  have hb : Below w.heap.size w (w.alloc (.cells #[.slice A S.length c, .slice A' W.length c', .int .i64 L, .bool O] 25)) := (Below.refl _ _).alloc (Nat.le_refl _) _
  have HB := Lib.hid hb
  obtain ⟨k0, k1, k2, k3⟩ := cells4 w (.slice A S.length c) (.slice A' W.length c') (.int .i64 L) (.bool O) 25
  have hz : (w.alloc (.cells #[.slice A S.length c, .slice A' W.length c', .int .i64 L, .bool O] 25)).heap.size = w.heap.size + 1 := by simp
  by_cases h1 : 1 ≤ S.length
  · by_cases h2 : S.length ≤ 4096
    · by_cases h3 : -1 ≤ L
      · have HM : Hid (may S W L = (secs S && okW S.length W)) := by show _ = _; simp [may, h1, h2, h3]
        have hb2 : Below w.heap.size w ((w.alloc (.cells #[.slice A S.length c, .slice A' W.length c', .int .i64 L, .bool O] 25)).alloc (.cells #[.func (.func 30) #[] #[]] 58)) := hb.alloc hb.size _
        have HB2 := Lib.hid hb2
        have hS : Hid (∀ w' : World, Below w.heap.size w w' → Calls Try.prog 32 #[.slice A S.length c, .func (.func 30) #[] #[]] w' fun e w'' => e = .returned (.bool (S.any badS)) ∧ Below w'.heap.size w' w'') := fun w' h =>
          hasS_any A S c w' ((hs.below h (Nat.le_refl _)).more h.size) hn
        have hW : Hid (∀ w' : World, Below (w.heap.size + 2) ((w.alloc (.cells #[.slice A S.length c, .slice A' W.length c', .int .i64 L, .bool O] 25)).alloc (.cells #[.func (.func 30) #[] #[]] 58)) w' → Below w.heap.size w w' →
            Calls Try.prog 33 #[.slice A' W.length c', .func (.func 31) #[] #[.pointer (some ⟨w.heap.size + 1, 0, none⟩), .pointer (some ⟨w.heap.size, 0, none⟩)]] w' fun e w'' => e = .returned (.bool (W.any (badW S.length))) ∧ Below w.heap.size w w'') := fun w' h h0 => by
          have hz2 : ((w.alloc (.cells #[.slice A S.length c, .slice A' W.length c', .int .i64 L, .bool O] 25)).alloc (.cells #[.func (.func 30) #[] #[]] 58)).heap.size = w.heap.size + 2 := by simp
          have hsz := h.size
          have cc : ∀ (p : Addr) v, p.block < w.heap.size + 1 → (w.alloc (.cells #[.slice A S.length c, .slice A' W.length c', .int .i64 L, .bool O] 25)).cell? p = some v → w'.cell? p = some v := fun p v hp hv =>
            ((h.cell (by omega)).trans (World.cell?_alloc_lt _ _ _ (by rw [hz]; omega))).trans hv
          have hx := World.cell?_alloc_new (w.alloc (.cells #[.slice A S.length c, .slice A' W.length c', .int .i64 L, .bool O] 25)) #[.func (.func 30) #[] #[]] 58 0
          rw [hz] at hx
          exact (hasW_any A' W c' w.heap.size (w.heap.size + 1) A S.length c A' W.length c' L O w' ((hw.below h0 (Nat.le_refl _)).more h0.size) hm hn ((h.cell (p := ⟨w.heap.size + 1, 0, none⟩) (by simp)).trans hx) (by omega) (by omega)
            (cc _ _ (by simp) k0) (cc _ _ (by simp) k1) (cc _ _ (by simp) k2) (cc _ _ (by simp) k3)).mono fun e w'' ⟨he, hb'⟩ => ⟨he, h0.trans (hb'.mono h0.size)⟩
        have h2' : ¬ 4096 < S.length := by omega
        have hz2 : ((w.alloc (.cells #[.slice A S.length c, .slice A' W.length c', .int .i64 L, .bool O] 25)).alloc (.cells #[.func (.func 30) #[] #[]] 58)).heap.size = w.heap.size + 2 := by simp
        have HZ := Lib.hid hz2
        clear hb hb2 hz2 hs hw k0 k1 k2 k3 hz
        cases hbad : S.any badS with
        | true =>
          have HX : Hid ((secs S && okW S.length W) = false) := by show _ = _; simp [secs, hbad]
          have HY := Lib.hid hbad
          clear hbad
          go_enter Try.func21, Try.ntmps21
          go_wp2_with fail
          refine (hS.out _ HB2.out).mono ?_
          rintro e w1 ⟨rfl, hb1⟩
          have HB3 := Lib.hid (HB2.out.trans (hb1.mono HB2.out.size))
          clear hb1
          rw [HY.out]
          go_wp2_with fail
          go_ret
          exact ⟨retb (by rw [HM.out, HX.out]), HB3.out⟩
        | false =>
          have HX : Hid ((secs S && okW S.length W) = !(W.any (badW S.length))) := by show _ = _; simp [secs, okW, hbad]
          have HY := Lib.hid hbad
          clear hbad
          go_enter Try.func21, Try.ntmps21
          go_wp2_with fail
          refine (hS.out _ HB2.out).mono ?_
          rintro e w1 ⟨rfl, hb1⟩
          have HB3 := Lib.hid (HB2.out.trans (hb1.mono HB2.out.size))
          have HB4 := Lib.hid (hb1.mono (Nat.le_of_eq HZ.out.symm))
          have hc1 : w1.cell? ⟨w.heap.size, 1, none⟩ = some (.slice A' W.length c') := by
            refine (hb1.cell (p := ⟨w.heap.size, 1, none⟩) (by rw [HZ.out]; simp)).trans ?_
            rw [World.cell?_alloc_lt _ _ _ (by simp)]
            exact (cells4 w (.slice A S.length c) (.slice A' W.length c') (.int .i64 L) (.bool O) 25).2.1
          clear hb1
          rw [HY.out]
          go_wp2_with fail
          refine (hW.out _ HB4.out HB3.out).mono ?_
          rintro e w2 ⟨rfl, hb5⟩
          have HB5 := Lib.hid hb5
          clear hb5
          go_wp2_with fail
          go_ret
          exact ⟨retb (by rw [HM.out, HX.out]), HB5.out⟩
      · have HM : Hid (may S W L = false) := by show _ = _; simp [may, h3]
        have h3' : L < -1 := by omega
        have h2' : ¬ 4096 < S.length := by omega
        clear hb hs hw k0 k1 k2 k3 hz
        go_enter Try.func21, Try.ntmps21
        go_wp2
        go_ret
        exact ⟨retb HM.out.symm, HB.out⟩
    · have HM : Hid (may S W L = false) := by show _ = _; simp [may, h2]
      have h2' : 4096 < S.length := by omega
      clear hb hs hw k0 k1 k2 k3 hz
      go_enter Try.func21, Try.ntmps21
      go_wp2
      go_ret
      exact ⟨retb HM.out.symm, HB.out⟩
  · have HM : Hid (may S W L = false) := by show _ = _; simp [may, h1]
    have h1' : S.length < 1 := by omega
    clear hb hs hw k0 k1 k2 k3 hz
    go_enter Try.func21, Try.ntmps21
    go_wp2
    go_ret
    exact ⟨retb HM.out.symm, HB.out⟩
end Go.Proofs.Ytopklkkhddpglaa
