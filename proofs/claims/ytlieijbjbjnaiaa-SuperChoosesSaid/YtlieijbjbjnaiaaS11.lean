/- Contracts: the document's Choose. -/
import Derived.Test.YtlieijbjbjnaiaaS8
import Derived.Test.YtlieijbjbjnaiaaS10
namespace Go.Proofs.Ytlieijbjbjnaiaa.Sup
open Go.RowKit Crc Chk Frm Fra

theorem inPlace_of {k : Int} {l : List UInt8} {x : Sp} {e : Int} (h : decS l = (x, e)) : inPlace k l = (decide (e = 0) && decide (x.g % 2 = k)) := by unfold inPlace; rw [h]
set_option maxHeartbeats 6400000 in
theorem rchoose_any (a b : List UInt8) (w : World) :
    Calls Try.prog 18 #[.string (text a), .string (text b)] w fun e w' => e = .returned (.tuple #[sv (chooseS a b).1, .bool (chooseS a b).2]) ∧ Below w.heap.size w w' := by
  obtain ⟨x, e, hxe⟩ : ∃ x e, decS a = (x, e) := ⟨_, _, rfl⟩
  obtain ⟨y, f, hyf⟩ : ∃ x e, decS b = (x, e) := ⟨_, _, rfl⟩
  have HA : Hid (∀ W, Calls Try.prog 11 #[.string (text a)] W fun e' w' => e' = .returned (.tuple #[.agg #[.int .i64 x.g, .int .i64 x.h, .int .i64 x.n, .int .i64 x.p], .int .i64 e]) ∧ Below W.heap.size W w') := fun W => by
    have := rdec_any a W
    rw [hxe] at this
    exact this
  have HB : Hid (∀ W, Calls Try.prog 11 #[.string (text b)] W fun e' w' => e' = .returned (.tuple #[.agg #[.int .i64 y.g, .int .i64 y.h, .int .i64 y.n, .int .i64 y.p], .int .i64 f]) ∧ Below W.heap.size W w') := fun W => by
    have := rdec_any b W
    rw [hyf] at this
    exact this
  have hge : e = 0 → 1 ≤ x.g ∧ x.g ≤ 281474976710655 := fun h => by
    have := may_iff.1 (dec_ok (l := a) (by rw [hxe]; exact h)).1
    rw [hxe] at this
    exact this.1
  have hgf : f = 0 → 1 ≤ y.g ∧ y.g ≤ 281474976710655 := fun h => by
    have := may_iff.1 (dec_ok (l := b) (by rw [hyf]; exact h)).1
    rw [hyf] at this
    exact this.1
  have PA := Lib.hid (inPlace_of (k := 0) hxe)
  have PB := Lib.hid (inPlace_of (k := 1) hyf)
  obtain ⟨R, q, hR⟩ : ∃ R q, chooseS a b = (R, q) := ⟨_, _, rfl⟩
  rw [hR]
  dsimp only
  unfold chooseS at hR
  rw [hxe, hyf] at hR
  dsimp only at hR
  have HR := Lib.hid hR
  obtain ⟨ta, hta⟩ : ∃ t, t = text a := ⟨_, rfl⟩
  obtain ⟨tb, htb⟩ : ∃ t, t = text b := ⟨_, rfl⟩
  rw [← hta] at HA ⊢
  rw [← htb] at HB ⊢
  clear hta htb hxe hyf hR
  obtain ⟨W0, hW0⟩ : ∃ W0, W0 = w.alloc (.cells #[.int .i64 0, .int .i64 0, .int .i64 0, .int .i64 0] 23) := ⟨_, rfl⟩
  have HT0 : Hid (BoxH w.heap.size Sp.nil W0) := by rw [hW0]; exact boxH_zero w
  have HZ0 : Hid (Below w.heap.size w W0) := by rw [hW0]; exact (Below.refl _ _).alloc (Nat.le_refl _) _
  have HW0 := Lib.hid hW0
  clear hW0
  go_enter Try.func18, Try.ntmps18
  go_wp2_with fail
  rw [← HW0.out]
  refine (HA.out _).mono ?_
  rintro e' w1 ⟨rfl, hb1⟩
  have HT1 := Lib.hid (HT0.out.below hb1 HT0.out.lt)
  have HZ1 := Lib.hid (step' HZ0.out hb1 HZ0.out.size)
  clear hb1
  obtain ⟨W2, hW2⟩ : ∃ W2, W2 = w1.alloc (.cells #[.int .i64 x.g, .int .i64 x.h, .int .i64 x.n, .int .i64 x.p] 23) := ⟨_, rfl⟩
  have HX2 : Hid (BoxH w1.heap.size x W2) := by rw [hW2]; exact boxH_new w1 x
  have HA2 : Hid (Below w1.heap.size w1 W2) := by rw [hW2]; exact (Below.refl _ _).alloc (Nat.le_refl _) _
  have HT2 := Lib.hid (HT1.out.below HA2.out HT1.out.lt)
  have HZ2 := Lib.hid (step' HZ1.out HA2.out HZ1.out.size)
  have HW2 := Lib.hid hW2
  clear hW2
  go_wp2_with fail
  rw [← HW2.out]
  refine (HB.out _).mono ?_
  rintro e' w3 ⟨rfl, hb3⟩
  have HX3 := Lib.hid (HX2.out.below hb3 HX2.out.lt)
  have HT3 := Lib.hid (HT2.out.below hb3 HT2.out.lt)
  have HZ3 := Lib.hid (step' HZ2.out hb3 HZ2.out.size)
  clear hb3
  obtain ⟨W4, hW4⟩ : ∃ W4, W4 = w3.alloc (.cells #[.int .i64 y.g, .int .i64 y.h, .int .i64 y.n, .int .i64 y.p] 23) := ⟨_, rfl⟩
  have HY4 : Hid (BoxH w3.heap.size y W4) := by rw [hW4]; exact boxH_new w3 y
  have HA4 : Hid (Below w3.heap.size w3 W4) := by rw [hW4]; exact (Below.refl _ _).alloc (Nat.le_refl _) _
  have HX4 := Lib.hid (HX3.out.below HA4.out HX3.out.lt)
  have HT4 := Lib.hid (HT3.out.below HA4.out HT3.out.lt)
  have HZ4 := Lib.hid (step' HZ3.out HA4.out HZ3.out.size)
  have HW4 := Lib.hid hW4
  clear hW4
  go_upto_region 3 with fail
  rw [← HW4.out]
  obtain ⟨x0, x1, x2, x3, x4⟩ := HX4.out.cells
  obtain ⟨y0, y1, y2, y3, y4⟩ := HY4.out.cells
  obtain ⟨t0, t1, t2, t3, t4⟩ := HT4.out.cells
  dsimp only [Sp.nil] at t0 t1 t2 t3
  clear HX4 HY4 HX3 HX2 HA2 HA4 HW4 HW2 HT3 HT2 HT1
  by_cases he : e = 0
  · obtain ⟨g1, g2⟩ := hge he
    subst he
    clear hge
    by_cases hp : x.g % 2 = 0
    ·
      by_cases hf : f = 0
      · obtain ⟨g3, g4⟩ := hgf hf
        subst hf
        clear hgf
        by_cases hq : y.g % 2 = 1
        ·
          by_cases hgt : y.g < x.g
          ·
            go_wp2_with fail
            refine bodyPost_ret (v := .tuple #[sv x, .bool true]) (by simp [results, Try.results18, go_sem, t0, t1, t2, t3]) rfl ⟨?_, st4s_below HZ4.out (Nat.le_refl _) x⟩
            have hh := HR.out
            simp [PA.out, PB.out, hp, hq] at hh
            first | rw [if_pos hgt] at hh | rw [if_neg hgt] at hh | rw [if_pos (by omega)] at hh | rw [if_neg (by omega)] at hh
            skip
            obtain ⟨rfl, rfl⟩ := hh
            rfl
          ·
            go_wp2_with fail
            refine bodyPost_ret (v := .tuple #[sv y, .bool true]) (by simp [results, Try.results18, go_sem, t0, t1, t2, t3]) rfl ⟨?_, st4s_below HZ4.out (Nat.le_refl _) y⟩
            have hh := HR.out
            simp [PA.out, PB.out, hp, hq] at hh
            first | rw [if_pos hgt] at hh | rw [if_neg hgt] at hh | rw [if_pos (by omega)] at hh | rw [if_neg (by omega)] at hh
            skip
            obtain ⟨rfl, rfl⟩ := hh
            rfl
        ·
          go_wp2_with fail
          refine bodyPost_ret (v := .tuple #[sv x, .bool true]) (by simp [results, Try.results18, go_sem, t0, t1, t2, t3]) rfl ⟨?_, st4s_below HZ4.out (Nat.le_refl _) x⟩
          have hh := HR.out
          simp [PA.out, PB.out, hp, hq] at hh
          skip
          skip
          obtain ⟨rfl, rfl⟩ := hh
          rfl
      · have hf' : (f == 0) = false := by simpa using hf
        clear hgf
        go_wp2_with fail
        refine bodyPost_ret (v := .tuple #[sv x, .bool true]) (by simp [results, Try.results18, go_sem, t0, t1, t2, t3]) rfl ⟨?_, st4s_below HZ4.out (Nat.le_refl _) x⟩
        have hh := HR.out
        simp [PA.out, PB.out, hp, hf] at hh
        skip
        skip
        obtain ⟨rfl, rfl⟩ := hh
        rfl
    ·
      by_cases hf : f = 0
      · obtain ⟨g3, g4⟩ := hgf hf
        subst hf
        clear hgf
        by_cases hq : y.g % 2 = 1
        ·
          go_wp2_with fail
          refine bodyPost_ret (v := .tuple #[sv y, .bool true]) (by simp [results, Try.results18, go_sem, t0, t1, t2, t3]) rfl ⟨?_, st4s_below HZ4.out (Nat.le_refl _) y⟩
          have hh := HR.out
          simp [PA.out, PB.out, hp, hq] at hh
          skip
          skip
          obtain ⟨rfl, rfl⟩ := hh
          rfl
        ·
          go_wp2_with fail
          refine bodyPost_ret (v := .tuple #[sv Sp.nil, .bool false]) (by simp [results, Try.results18, go_sem, Sp.nil, t0, t1, t2, t3]) rfl ⟨?_, st4s_below HZ4.out (Nat.le_refl _) Sp.nil⟩
          have hh := HR.out
          simp [PA.out, PB.out, hp, hq] at hh
          skip
          skip
          obtain ⟨rfl, rfl⟩ := hh
          rfl
      · have hf' : (f == 0) = false := by simpa using hf
        clear hgf
        go_wp2_with fail
        refine bodyPost_ret (v := .tuple #[sv Sp.nil, .bool false]) (by simp [results, Try.results18, go_sem, Sp.nil, t0, t1, t2, t3]) rfl ⟨?_, st4s_below HZ4.out (Nat.le_refl _) Sp.nil⟩
        have hh := HR.out
        simp [PA.out, PB.out, hp, hf] at hh
        skip
        skip
        obtain ⟨rfl, rfl⟩ := hh
        rfl
  · have he' : (e == 0) = false := by simpa using he
    clear hge
    by_cases hf : f = 0
    · obtain ⟨g3, g4⟩ := hgf hf
      subst hf
      clear hgf
      by_cases hq : y.g % 2 = 1
      ·
        go_wp2_with fail
        refine bodyPost_ret (v := .tuple #[sv y, .bool true]) (by simp [results, Try.results18, go_sem, t0, t1, t2, t3]) rfl ⟨?_, st4s_below HZ4.out (Nat.le_refl _) y⟩
        have hh := HR.out
        simp [PA.out, PB.out, he, hq] at hh
        skip
        skip
        obtain ⟨rfl, rfl⟩ := hh
        rfl
      ·
        go_wp2_with fail
        refine bodyPost_ret (v := .tuple #[sv Sp.nil, .bool false]) (by simp [results, Try.results18, go_sem, Sp.nil, t0, t1, t2, t3]) rfl ⟨?_, st4s_below HZ4.out (Nat.le_refl _) Sp.nil⟩
        have hh := HR.out
        simp [PA.out, PB.out, he, hq] at hh
        skip
        skip
        obtain ⟨rfl, rfl⟩ := hh
        rfl
    · have hf' : (f == 0) = false := by simpa using hf
      clear hgf
      go_wp2_with fail
      refine bodyPost_ret (v := .tuple #[sv Sp.nil, .bool false]) (by simp [results, Try.results18, go_sem, Sp.nil, t0, t1, t2, t3]) rfl ⟨?_, st4s_below HZ4.out (Nat.le_refl _) Sp.nil⟩
      have hh := HR.out
      simp [PA.out, PB.out, he, hf] at hh
      skip
      skip
      obtain ⟨rfl, rfl⟩ := hh
      rfl
end Go.Proofs.Ytlieijbjbjnaiaa.Sup
