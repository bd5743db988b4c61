/- Contracts of wal: placed, Room, May, noughts. -/
import Derived.Test.YtjcgggheablpeaaW1
namespace Go.Proofs.Ytjcgggheablpeaa.Wal
open Go.RowKit Dis Dis.Dk

abbrev lgv (f n a x : Int) : Value := .agg #[.int .i64 f, .int .i64 n, .int .i64 a, .int .i64 x]
abbrev lgo (f n a x : Int) : Obj := .cells #[.int .i64 f, .int .i64 n, .int .i64 a, .int .i64 x] 27 (0, 0)

theorem placed_any (f n a x : Int) (w : World) : Calls Try.prog 40 #[lgv f n a x] w fun e w' => e = .returned (.bool (placedB n a)) ∧ Below w.heap.size w w' := by
  have hB : Below w.heap.size w (w.alloc (lgo f n a x)) := (Below.refl _ _).alloc (Nat.le_refl _) _
  have HB := Lib.hid hB
  clear hB
  by_cases h1 : 2 ≤ n
  · by_cases h2 : 0 ≤ a
    · by_cases h3 : a < n
      · have HT : Hid (placedB n a = true) := placedB_iff.2 ⟨h1, h2, h3⟩
        go_enter Try.func40, Try.ntmps40
        go_wp2
        go_ret
        exact ⟨retb HT.out.symm, HB.out⟩
      · have HT : Hid (placedB n a = false) := by show _ = _; simp [placedB, h3]
        have h3' : decide (a < n) = false := by simpa using h3
        go_enter Try.func40, Try.ntmps40
        go_wp2
        go_ret
        exact ⟨retb HT.out.symm, HB.out⟩
    · have HT : Hid (placedB n a = false) := by show _ = _; simp [placedB, h2]
      have h2' : decide (0 ≤ a) = false := by simpa using h2
      go_enter Try.func40, Try.ntmps40
      go_wp2
      go_ret
      exact ⟨retb HT.out.symm, HB.out⟩
  · have HT : Hid (placedB n a = false) := by show _ = _; simp [placedB, h1]
    have h1' : decide (2 ≤ n) = false := by simpa using h1
    go_enter Try.func40, Try.ntmps40
    go_wp2
    go_ret
    exact ⟨retb HT.out.symm, HB.out⟩
theorem cells_log {w : World} {g : Nat} {f n a x : Int} (h : w.heap[g]? = some (lgo f n a x)) :
    w.cell? ⟨g, 0, none⟩ = some (.int .i64 f) ∧ w.cell? ⟨g, 1, none⟩ = some (.int .i64 n) ∧ w.cell? ⟨g, 2, none⟩ = some (.int .i64 a) ∧ w.cell? ⟨g, 3, none⟩ = some (.int .i64 x) ∧ ∀ j, w.frozen? ⟨g, j, none⟩ = false := cells_of4 h
theorem sect_z (k : Int) (w : World) : Calls Try.prog 42 #[.int .i64 k] w fun e w' => e = .returned (.int .i64 (sectZ k)) ∧ w = w' := Fra.sect_any k w
theorem sectZ_rng (k : Int) : 0 ≤ sectZ k ∧ sectZ k ≤ 96 := by unfold sectZ; split <;> omega

set_option maxHeartbeats 800000 in
theorem room_any (f n a x k : Int) (w : World) (hn : -9223372036854775808 ≤ n) (hn2 : n ≤ 9223372036854775807) (ha : -9223372036854775808 ≤ a) (ha2 : a ≤ 9223372036854775807) :
    Calls Try.prog 18 #[lgv f n a x, .int .i64 k] w fun e w' => e = .returned (.bool (roomB n a k)) ∧ Below w.heap.size w w' := by
  obtain ⟨s, hs⟩ : ∃ s, s = sectZ k := ⟨_, rfl⟩
  have hs1 := sectZ_rng k
  have HS : Hid (∀ W : World, Calls Try.prog 42 #[.int .i64 k] W fun e w' => e = .returned (.int .i64 s) ∧ W = w') := fun W => by rw [hs]; exact sect_z k W
  have HR : Hid (roomB n a k = (placedB n a && (decide (0 < s) && decide (s < n - a)))) := by show _ = _; rw [hs]; rfl
  rw [← hs] at hs1
  clear hs
  obtain ⟨w1, hw1⟩ : ∃ w1, w1 = w.alloc (lgo f n a x) := ⟨_, rfl⟩
  have hB : Below w.heap.size w w1 := by rw [hw1]; exact (Below.refl _ _).alloc (Nat.le_refl _) _
  have hX : w1.heap[w.heap.size]? = some (lgo f n a x) := by rw [hw1]; exact heap_alloc_new _ _
  have HB := Lib.hid hB
  have HX := Lib.hid hX
  have HW := Lib.hid hw1
  clear hB hX hw1
  go_enter Try.func18, Try.ntmps18
  go_wp2_with fail
  rw [← HW.out]
  refine (HS.out _).mono ?_
  rintro e w' ⟨rfl, rfl⟩
  obtain ⟨k0, k1, k2, k3, kf⟩ := cells_log HX.out
  go_wp2_with fail
  refine (placed_any f n a x w1).mono ?_
  rintro e w2 ⟨rfl, hb2⟩
  have HB2 := Lib.hid (HB.out.trans (hb2.mono HB.out.size))
  obtain ⟨k0, k1, k2, k3, kf⟩ := cells_log (box_at HX.out hb2)
  clear hb2
  cases hp : placedB n a with
  | false =>
    have HT : Hid (roomB n a k = false) := by show _ = _; rw [HR.out, hp]; rfl
    clear hp
    go_wp2
    go_ret
    exact ⟨retb HT.out.symm, HB2.out⟩
  | true =>
    obtain ⟨p1, p2, p3⟩ := placedB_iff.1 hp
    by_cases h1 : 0 < s
    · by_cases h2 : s < n - a
      · have HT : Hid (roomB n a k = true) := by show _ = _; rw [HR.out, hp]; simp [h1, h2]
        clear hp
        go_wp2
        go_ret
        exact ⟨retb HT.out.symm, HB2.out⟩
      · have HT : Hid (roomB n a k = false) := by show _ = _; rw [HR.out, hp]; simp [h2]
        have h2' : decide (s < n - a) = false := by simpa using h2
        clear hp
        go_wp2
        go_ret
        exact ⟨retb HT.out.symm, HB2.out⟩
    · have HT : Hid (roomB n a k = false) := by show _ = _; rw [HR.out, hp]; simp [h1]
      have h1' : decide (0 < s) = false := by simpa using h1
      clear hp
      go_wp2
      go_ret
      exact ⟨retb HT.out.symm, HB2.out⟩

def mayLB (S : List (List UInt8)) (W : Ws) (L f n a x : Int) : Bool := may S W L && (placedB n a && (decide (1 ≤ x) && (decide (x ≤ 281474976710655) && (decide (0 ≤ f) && decide (n ≤ (S.length : Int) - f)))))
theorem mayLB_iff {S : List (List UInt8)} {W : Ws} {L f n a x : Int} : mayLB S W L f n a x = true ↔ may S W L = true ∧ 2 ≤ n ∧ 0 ≤ a ∧ a < n ∧ 1 ≤ x ∧ x ≤ 281474976710655 ∧ 0 ≤ f ∧ n ≤ (S.length : Int) - f := by
  unfold mayLB
  rw [Bool.and_eq_true, Bool.and_eq_true, placedB_iff]
  simp [and_assoc]
set_option maxHeartbeats 1600000 in
theorem may_l {w : World} {A : Option Addr} {c : Nat} {A' : Option Addr} {c' n m : Nat} {S : List (List UInt8)} {W : Ws} (L : Int) (O : Bool) (f n' a x : Int) (h : Dsk w A n c A' m c' S W) (hn : n ≤ 4611686018427387904) (hm : m ≤ 2305843009213693952)
    (hf : -9223372036854775808 ≤ f) (hf2 : f ≤ 9223372036854775807) :
    Calls Try.prog 16 #[dv A n c A' m c' L O, lgv f n' a x] w fun e w' => e = .returned (.bool (mayLB S W L f n' a x)) ∧ Below w.heap.size w w' := by
  have HSn := Lib.hid h.hn
  obtain ⟨w1, hw1⟩ : ∃ w1, w1 = (w.alloc (.cells #[.slice A n c, .slice A' m c', .int .i64 L, .bool O] 25)).alloc (lgo f n' a x) := ⟨_, rfl⟩
  have hB0 : Below w.heap.size w (w.alloc (.cells #[.slice A n c, .slice A' m c', .int .i64 L, .bool O] 25)) := (Below.refl _ _).alloc (Nat.le_refl _) _
  have hB : Below w.heap.size w w1 := by rw [hw1]; exact hB0.alloc (by simp) _
  have hX : w1.heap[w.heap.size]? = some (.cells #[.slice A n c, .slice A' m c', .int .i64 L, .bool O] 25 (0, 0)) := by rw [hw1, Below.heap_alloc _ _ _ (by simp)]; exact heap_alloc_new _ _
  have hY : w1.heap[w.heap.size + 1]? = some (lgo f n' a x) := by rw [hw1]; have := heap_alloc_new (w.alloc (.cells #[.slice A n c, .slice A' m c', .int .i64 L, .bool O] 25)) (lgo f n' a x); simpa using this
  have HD := Lib.hid (h.below hB)
  have HB := Lib.hid hB
  have HX := Lib.hid hX
  have HY := Lib.hid hY
  have HW := Lib.hid hw1
  clear hB0 hB hX hY hw1 h
  go_enter Try.func16, Try.ntmps16
  go_wp2_with fail
  rw [← HW.out]
  refine (HD.out.may L O hn hm).mono ?_
  rintro e w2 ⟨rfl, hb2⟩
  have HB2 := Lib.hid (HB.out.trans (hb2.mono HB.out.size))
  have HX2 := Lib.hid (box_at HX.out hb2)
  have HY2 := Lib.hid (box_at HY.out hb2)
  clear hb2
  obtain ⟨mb, hmb⟩ : ∃ mb, mb = may S W L := ⟨_, rfl⟩
  have HM : Hid (mayLB S W L f n' a x = (mb && (placedB n' a && (decide (1 ≤ x) && (decide (x ≤ 281474976710655) && (decide (0 ≤ f) && decide (n' ≤ (S.length : Int) - f))))))) := by show _ = _; rw [hmb]; rfl
  rw [← hmb]
  clear hmb
  cases mb with
  | false =>
    have HT : Hid (mayLB S W L f n' a x = false) := by show _ = _; rw [HM.out]; rfl
    go_wp2
    go_ret
    exact ⟨retb HT.out.symm, HB2.out⟩
  | true =>
    obtain ⟨k0, k1, k2, k3, kf⟩ := cells_log HY2.out
    go_wp2_with fail
    refine (placed_any f n' a x w2).mono ?_
    rintro e w3 ⟨rfl, hb3⟩
    have HB3 := Lib.hid (HB2.out.trans (hb3.mono HB2.out.size))
    obtain ⟨k0, k1, k2, k3, kf⟩ := cells_log (box_at HY2.out hb3)
    obtain ⟨q0, q1, q2, q3, qf⟩ := cells_of4 (box_at HX2.out hb3)
    clear hb3
    cases hp : placedB n' a with
    | false =>
      have HT : Hid (mayLB S W L f n' a x = false) := by show _ = _; rw [HM.out, hp]; rfl
      clear hp
      go_wp2
      go_ret
      exact ⟨retb HT.out.symm, HB3.out⟩
    | true =>
      by_cases h1 : x < 1
      · have HT : Hid (mayLB S W L f n' a x = false) := by show _ = _; rw [HM.out]; simp; omega
        clear hp
        go_wp2
        go_ret
        exact ⟨retb HT.out.symm, HB3.out⟩
      · have h1' : decide (x < 1) = false := by simpa using h1
        by_cases h2 : 281474976710655 < x
        · have HT : Hid (mayLB S W L f n' a x = false) := by show _ = _; rw [HM.out]; simp; omega
          clear hp
          go_wp2
          go_ret
          exact ⟨retb HT.out.symm, HB3.out⟩
        · have h2' : decide (281474976710655 < x) = false := by simpa using h2
          by_cases h3 : 0 ≤ f
          · by_cases h4 : n' ≤ (n : Int) - f
            · have HT : Hid (mayLB S W L f n' a x = true) := by show _ = _; rw [HM.out, hp, HSn.out]; simp; omega
              clear hp
              go_wp2
              go_ret
              exact ⟨retb HT.out.symm, HB3.out⟩
            · have HT : Hid (mayLB S W L f n' a x = false) := by show _ = _; rw [HM.out, HSn.out]; simp; omega
              have h4' : decide (n' ≤ (n : Int) - f) = false := by simpa using h4
              clear hp
              go_wp2
              go_ret
              exact ⟨retb HT.out.symm, HB3.out⟩
          · have HT : Hid (mayLB S W L f n' a x = false) := by show _ = _; rw [HM.out]; simp; omega
            have h3' : decide (0 ≤ f) = false := by simpa using h3
            clear hp
            go_wp2
            go_ret
            exact ⟨retb HT.out.symm, HB3.out⟩

theorem noughts_any (w : World) : Calls Try.prog 36 #[] w fun e w' => e = .returned (.slice (some ⟨w.heap.size, 0, none⟩) 64 64) ∧ Octs w' w'.heap.size (some ⟨w.heap.size, 0, none⟩) nz ∧ Below w.heap.size w w' := by
  have hk : (Instr.makeSlice 28 (.int .i64 64) (.int .i64 64)).run Try.prog w = .ok (.slice (some ⟨w.heap.size, 0, none⟩) 64 64) (w.alloc (.cells (made5 64) 5)) := make5 64 (by decide) w
  have HO : Hid (Octs (w.alloc (.cells (made5 64) 5)) (w.alloc (.cells (made5 64) 5)).heap.size (some ⟨w.heap.size, 0, none⟩) nz) := (octs_made w 64).more (by simp)
  have HB : Hid (Below w.heap.size w (w.alloc (.cells (made5 64) 5))) := (Below.refl _ _).alloc (Nat.le_refl _) _
  go_enter Try.func36, Try.ntmps36
  go_wp2_with fail
  go_ret
  exact ⟨rfl, HO.out, HB.out⟩
end Go.Proofs.Ytjcgggheablpeaa.Wal
