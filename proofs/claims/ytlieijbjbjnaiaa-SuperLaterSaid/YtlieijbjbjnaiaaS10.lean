/- Contracts: Choose. -/
import Derived.Test.YtlieijbjbjnaiaaS7
import Derived.LoopTactic
import Derived.Deep.DeepCutAuto
namespace Go.Proofs.Ytlieijbjbjnaiaa.Sup
open Go.RowKit Crc Chk Frm Fra

theorem info24 : (Try.prog.info? 24).map (fun i => (i.zero, i.size, i.bytes)) = some (some (.slice none 0 0), 1, 24) := by kernel_rfl
theorem ix0 (A B : Option Addr) (n c m d : Nat) (W : World) : (Instr.index 51 (.agg #[.slice A n c, .slice B m d]) (.int .i64 0)).run Try.prog W = .ok (.slice A n c) W := by
  obtain ⟨i0, hi, hz0, hz1, hz2⟩ := info_parts info24
  simp [Instr.index, run_underlying Try.underlying51, asIntOf, sizeOf, typeInfo, hi, hz1, go_sem]
theorem ix1 (A B : Option Addr) (n c m d : Nat) (W : World) : (Instr.index 51 (.agg #[.slice A n c, .slice B m d]) (.int .i64 1)).run Try.prog W = .ok (.slice B m d) W := by
  obtain ⟨i0, hi, hz0, hz1, hz2⟩ := info_parts info24
  simp [Instr.index, run_underlying Try.underlying51, asIntOf, sizeOf, typeInfo, hi, hz1, go_sem]
/-- What is chosen behind so many places. -/
def chosenN (a b : List UInt8) (k : Nat) : Sp := if k = 0 then Sp.nil else if k = 1 then stepC 0 a Sp.nil else stepC 1 b (stepC 0 a Sp.nil)
theorem BoxH.toS {r : Nat} {s : Sp} {w : World} (h : BoxH r s w) : BoxS r s w := ⟨h.cells.1, h.cells.2.1, h.cells.2.2.1, h.cells.2.2.2.1⟩
theorem BoxH.lt {r : Nat} {s : Sp} {w : World} (h : BoxH r s w) : r < w.heap.size := by
  unfold BoxH at h
  rcases Nat.lt_or_ge r w.heap.size with h1 | h1
  · exact h1
  · rw [Array.getElem?_eq_none h1] at h; cases h
theorem sp_eq {s t : Sp} : (s.g == t.g && (s.h == t.h && (s.n == t.n && s.p == t.p))) = decide (s = t) := by
  obtain ⟨a, b, c, d⟩ := s
  obtain ⟨a', b', c', d'⟩ := t
  rw [Bool.eq_iff_iff]
  simp
/-- What the loop of Choose keeps: the three boxes. -/
structure ChI (w : World) (a b : List UInt8) (k : Nat) (W : World) : Prop where
  r : BoxH w.heap.size Sp.nil W
  n : BoxH (w.heap.size + 1) Sp.nil W
  c : BoxH (w.heap.size + 1 + 1) (chosenN a b k) W
  b : Below w.heap.size w W
theorem stepC_gen {k : Int} {l : List UInt8} {c : Sp} (h : c = Sp.nil ∨ 1 ≤ c.g) : stepC k l c = Sp.nil ∨ 1 ≤ (stepC k l c).g := by
  unfold stepC
  by_cases hp : inPlace k l = true ∧ c.g < (decS l).1.g
  · rw [if_pos hp]
    exact .inr (inPlace_gen hp.1).1
  · rw [if_neg hp]
    exact h
theorem ChI.next {w : World} {a b : List UInt8} {k : Nat} {W W' : World} (h : ChI w a b k W) (hb : Below W.heap.size W W') (j : Nat) (hj : chosenN a b j = chosenN a b k) : ChI w a b j W' := by
  have l1 := h.r.lt
  have l2 := h.n.lt
  have l3 := h.c.lt
  exact ⟨h.r.below hb l1, h.n.below hb l2, by rw [hj]; exact h.c.below hb l3, step' h.b hb h.b.size⟩
theorem ChI.put {w : World} {a b : List UInt8} {k : Nat} {W : World} (h : ChI w a b k W) (s : Sp) (j : Nat) (hj : chosenN a b j = s) : ChI w a b j (st4s W (w.heap.size + 1 + 1) s) := by
  subst hj
  exact ⟨h.r.far4 _ (by omega), h.n.far4 _ (by omega), h.c.st4 _, st4s_below h.b (by omega) _⟩
theorem place_no {k : Int} {l : List UInt8} {x : Sp} {e : Int} (h : decS l = (x, e)) (c : Sp) (hn : ¬ (e = 0 ∧ x.g % 2 = k ∧ c.g < x.g)) : stepC k l c = c := by
  unfold stepC inPlace
  rw [h, if_neg]
  simp only [Bool.and_eq_true, decide_eq_true_eq]
  exact fun ⟨⟨a, b⟩, d⟩ => hn ⟨a, b, d⟩
theorem place_yes {k : Int} {l : List UInt8} {x : Sp} {e : Int} (h : decS l = (x, e)) (c : Sp) (h1 : e = 0) (h2 : x.g % 2 = k) (h3 : c.g < x.g) : stepC k l c = x := by
  unfold stepC inPlace
  rw [h, if_pos]
  simp [h1, h2, h3]
set_option maxHeartbeats 3200000 in
theorem choose_any (A B : Option Addr) (a b : List UInt8) (n m c d B0 B1 : Nat) (w : World) (ha : Octs w B0 A a) (hb : Octs w B1 B b) (h0 : B0 ≤ w.heap.size) (h1 : B1 ≤ w.heap.size) (hn : a.length = n) (hm : b.length = m) (hc : n ≤ c) (hd : m ≤ d) (hn9 : n ≤ 900000) (hm9 : m ≤ 900000) :
    Calls Try.prog 17 #[.slice A n c, .slice B m d] w fun e w' => e = .returned (.tuple #[sv (chooseS a b).1, .int .i64 (if (chooseS a b).2 = true then 0 else 7)]) ∧ Below w.heap.size w w' := by
  have HA : Hid (∀ W, Below w.heap.size w W → Calls Try.prog 10 #[.slice A n c] W (DecD W (decS a))) := fun W hW => dec_any A a n c B0 W (ha.below hW h0) (by have := hW.size; omega) hn hc hn9
  have HB : Hid (∀ W, Below w.heap.size w W → Calls Try.prog 10 #[.slice B m d] W (DecD W (decS b))) := fun W hW => dec_any B b m d B1 W (hb.below hW h1) (by have := hW.size; omega) hm hd hm9
  clear ha hb hn hm
  obtain ⟨ER, hER⟩ : ∃ x : Int, x = if (chooseS a b).2 = true then 0 else 7 := ⟨_, rfl⟩
  rw [← hER]
  have HER := Lib.hid hER
  clear hER
  have z1 : (w.alloc (.cells #[.int .i64 0, .int .i64 0, .int .i64 0, .int .i64 0] 23)).heap.size = w.heap.size + 1 := alloc_size _ _
  have z2 : ((w.alloc (.cells #[.int .i64 0, .int .i64 0, .int .i64 0, .int .i64 0] 23)).alloc (.cells #[.int .i64 0, .int .i64 0, .int .i64 0, .int .i64 0] 23)).heap.size = w.heap.size + 2 := by rw [alloc_size, z1]
  obtain ⟨W0, hW0⟩ : ∃ W0, W0 = ((w.alloc (.cells #[.int .i64 0, .int .i64 0, .int .i64 0, .int .i64 0] 23)).alloc (.cells #[.int .i64 0, .int .i64 0, .int .i64 0, .int .i64 0] 23)).alloc (.cells #[.int .i64 0, .int .i64 0, .int .i64 0, .int .i64 0] 23) := ⟨_, rfl⟩
  have HI0 : Hid (ChI w a b 0 W0) := by
    rw [hW0]
    have e1 := (Below.refl w.heap.size w).alloc (Nat.le_refl _) (.cells #[.int .i64 0, .int .i64 0, .int .i64 0, .int .i64 0] 23)
    have e2 := e1.alloc (by omega) (.cells #[.int .i64 0, .int .i64 0, .int .i64 0, .int .i64 0] 23)
    have e3 := e2.alloc (by omega) (.cells #[.int .i64 0, .int .i64 0, .int .i64 0, .int .i64 0] 23)
    have f1 := boxH_zero w
    have f2 := boxH_zero (w.alloc (.cells #[.int .i64 0, .int .i64 0, .int .i64 0, .int .i64 0] 23))
    have f3 := boxH_zero ((w.alloc (.cells #[.int .i64 0, .int .i64 0, .int .i64 0, .int .i64 0] 23)).alloc (.cells #[.int .i64 0, .int .i64 0, .int .i64 0, .int .i64 0] 23))
    rw [z1] at f2
    rw [z2] at f3
    have g2 : ∀ (V : World) (o : Obj), Below V.heap.size V (V.alloc o) := fun V o => (Below.refl _ _).alloc (Nat.le_refl _) o
    exact ⟨(f1.below (g2 _ _) (by omega)).below (g2 _ _) (by omega), f2.below (g2 _ _) (by omega), f3, e3⟩
  have HW0 := Lib.hid hW0
  clear hW0 z1 z2
  go_enter Try.func17, Try.ntmps17
  go_wp2_with fail
  go_loopw [17] (fun i wr => ∃ k : Nat, k ≤ 2 ∧ i = .int .i64 k ∧ Hid (ChI w a b k wr)) (fun i _ => 2 - (intOf i).toNat)
  case atStart => exact ⟨0, by omega, rfl, by rw [← HW0.out]; exact HI0⟩
  case round =>
    obtain ⟨k, hk, rfl, HI⟩ := hrel
    have hkk : k = 0 ∨ k = 1 ∨ k = 2 := by omega
    rcases hkk with rfl | rfl | rfl
    · have hci := HI.out.c.cells
      obtain ⟨x, e, hxe⟩ : ∃ x e, decS a = (x, e) := ⟨_, _, rfl⟩
      have HDX := Lib.hid (HA.out wr HI.out.b)
      rw [hxe] at HDX
      have HXE := Lib.hid hxe
      obtain ⟨C, hC⟩ : ∃ C, C = chosenN a b 0 := ⟨_, rfl⟩
      have hge : e = 0 → 1 ≤ x.g ∧ x.g ≤ 281474976710655 := fun h => by
        have := may_iff.1 (dec_ok (l := a) (by rw [hxe]; exact h)).1
        rw [hxe] at this
        exact this.1
      have HCC := Lib.hid hC
      clear hxe hC hci
      have hix := ix0 A B n c m d wr
      go_wp2_with fail
      refine HDX.out.mono ?_
      rintro e' w1 ⟨rfl, hb1⟩
      have HI1 := Lib.hid (HI.out.next hb1 0 rfl)
      clear hb1 HDX
      obtain ⟨W2, hW2⟩ : ∃ W2, W2 = w1.alloc (.cells #[.int .i64 x.g, .int .i64 x.h, .int .i64 x.n, .int .i64 x.p] 23) := ⟨_, rfl⟩
      have hz2 : W2.heap.size = w1.heap.size + 1 := by rw [hW2]; exact alloc_size _ _
      have HI2 : Hid (ChI w a b 0 W2) := HI1.out.next (by rw [hW2]; exact (Below.refl _ _).alloc (Nat.le_refl _) _) 0 rfl
      have HX2 : Hid (BoxH w1.heap.size x W2) := by rw [hW2]; exact boxH_new w1 x
      have HW2 := Lib.hid hW2
      have HZ2 := Lib.hid hz2
      have hlt1 := HI1.out.c.lt
      obtain ⟨x0, x1, x2, x3, x4⟩ := HX2.out.cells
      obtain ⟨c0, c1, c2, c3, c4⟩ := HI2.out.c.cells
      rw [← HCC.out] at c0 c1 c2 c3
      clear hW2 hz2
      go_upto_region 7 with fail
      rw [← HW2.out]
      by_cases he : e = 0
      · obtain ⟨g1, g2⟩ := hge he
        subst he
        clear hge
        by_cases hp : x.g % 2 = 0
        · by_cases hgt : C.g < x.g
          · go_wp2_with fail
            go_roundw
            case rel => exact ⟨1, by omega, by go_num, HI2.out.put x 1 (place_yes HXE.out (chosenN a b 0) rfl hp (by rw [← HCC.out]; exact hgt))⟩
            case measure => simp [intOf]
          · go_wp2_with fail
            go_roundw
            case rel => exact ⟨1, by omega, by go_num, HI2.out.next (Below.refl _ _) 1 (place_no HXE.out (chosenN a b 0) (fun h => hgt (by rw [HCC.out]; exact h.2.2)))⟩
            case measure => simp [intOf]
        · go_wp2_with fail
          go_roundw
          case rel => exact ⟨1, by omega, by go_num, HI2.out.next (Below.refl _ _) 1 (place_no HXE.out (chosenN a b 0) (fun h => hp h.2.1))⟩
          case measure => simp [intOf]
      · have he' : (e == 0) = false := by simpa using he
        clear hge
        go_wp2_with fail
        go_roundw
        case rel => exact ⟨1, by omega, by go_num, HI2.out.next (Below.refl _ _) 1 ( (place_no HXE.out _ (fun h => he h.1)))⟩
        case measure => simp [intOf]
    · have hci := HI.out.c.cells
      obtain ⟨x, e, hxe⟩ : ∃ x e, decS b = (x, e) := ⟨_, _, rfl⟩
      have HDX := Lib.hid (HB.out wr HI.out.b)
      rw [hxe] at HDX
      have HXE := Lib.hid hxe
      obtain ⟨C, hC⟩ : ∃ C, C = chosenN a b 1 := ⟨_, rfl⟩
      have hge : e = 0 → 1 ≤ x.g ∧ x.g ≤ 281474976710655 := fun h => by
        have := may_iff.1 (dec_ok (l := b) (by rw [hxe]; exact h)).1
        rw [hxe] at this
        exact this.1
      have HCC := Lib.hid hC
      clear hxe hC hci
      have hix := ix1 A B n c m d wr
      go_wp2_with fail
      refine HDX.out.mono ?_
      rintro e' w1 ⟨rfl, hb1⟩
      have HI1 := Lib.hid (HI.out.next hb1 1 rfl)
      clear hb1 HDX
      obtain ⟨W2, hW2⟩ : ∃ W2, W2 = w1.alloc (.cells #[.int .i64 x.g, .int .i64 x.h, .int .i64 x.n, .int .i64 x.p] 23) := ⟨_, rfl⟩
      have hz2 : W2.heap.size = w1.heap.size + 1 := by rw [hW2]; exact alloc_size _ _
      have HI2 : Hid (ChI w a b 1 W2) := HI1.out.next (by rw [hW2]; exact (Below.refl _ _).alloc (Nat.le_refl _) _) 1 rfl
      have HX2 : Hid (BoxH w1.heap.size x W2) := by rw [hW2]; exact boxH_new w1 x
      have HW2 := Lib.hid hW2
      have HZ2 := Lib.hid hz2
      have hlt1 := HI1.out.c.lt
      obtain ⟨x0, x1, x2, x3, x4⟩ := HX2.out.cells
      obtain ⟨c0, c1, c2, c3, c4⟩ := HI2.out.c.cells
      rw [← HCC.out] at c0 c1 c2 c3
      clear hW2 hz2
      go_upto_region 7 with fail
      rw [← HW2.out]
      by_cases he : e = 0
      · obtain ⟨g1, g2⟩ := hge he
        subst he
        clear hge
        by_cases hp : x.g % 2 = 1
        · by_cases hgt : C.g < x.g
          · go_wp2_with fail
            go_roundw
            case rel => exact ⟨2, by omega, by go_num, HI2.out.put x 2 (place_yes HXE.out (chosenN a b 1) rfl hp (by rw [← HCC.out]; exact hgt))⟩
            case measure => simp [intOf]
          · go_wp2_with fail
            go_roundw
            case rel => exact ⟨2, by omega, by go_num, HI2.out.next (Below.refl _ _) 2 (place_no HXE.out (chosenN a b 1) (fun h => hgt (by rw [HCC.out]; exact h.2.2)))⟩
            case measure => simp [intOf]
        · go_wp2_with fail
          go_roundw
          case rel => exact ⟨2, by omega, by go_num, HI2.out.next (Below.refl _ _) 2 (place_no HXE.out (chosenN a b 1) (fun h => hp h.2.1))⟩
          case measure => simp [intOf]
      · have he' : (e == 0) = false := by simpa using he
        clear hge
        go_wp2_with fail
        go_roundw
        case rel => exact ⟨2, by omega, by go_num, HI2.out.next (Below.refl _ _) 2 ( (place_no HXE.out _ (fun h => he h.1)))⟩
        case measure => simp [intOf]
    · obtain ⟨c0, c1, c2, c3, c4⟩ := HI.out.c.cells
      obtain ⟨n0, n1, n2, n3, n4⟩ := HI.out.n.cells
      obtain ⟨r0, r1, r2, r3, r4⟩ := HI.out.r.cells
      obtain ⟨C, hC⟩ : ∃ C, C = chosenN a b 2 := ⟨_, rfl⟩
      rw [← hC] at c0 c1 c2 c3
      have hcs := choose_steps a b
      have hC1 : C = (chooseS a b).1 := by rw [hC, ← hcs.1]; rfl
      have hC2 : C = Sp.nil ∨ 1 ≤ C.g := by rw [hC]; exact stepC_gen (stepC_gen (.inl rfl))
      rw [← hC1] at hcs
      have HCS := Lib.hid hcs.2
      have HC1 := Lib.hid hC1
      have HI2 := Lib.hid HI.out.b
      dsimp only [Sp.nil] at n0 n1 n2 n3 r0 r1 r2 r3
      clear hcs hC1 hC HI
      by_cases hz : C = Sp.nil
      · have HF : Hid ((chooseS a b).2 = false) := HCS.out.2 hz
        subst hz
        dsimp only [Sp.nil] at c0 c1 c2 c3
        go_wp2_with fail
        refine bodyPost_ret (v := .tuple #[sv Sp.nil, .int .i64 7]) (by simp [results, Try.results17, go_sem, Sp.nil, r0, r1, r2, r3]) rfl ⟨by rw [HER.out, HF.out, ← HC1.out]; rfl, ?_⟩
        exact st4s_below HI2.out (Nat.le_refl _) Sp.nil
      · have HF : Hid ((chooseS a b).2 = true) := by
          cases hx : (chooseS a b).2 with
          | true => rfl
          | false => exact absurd (HCS.out.1 hx) hz
        have hg : (C.g == 0) = false := by
          rcases hC2 with h | h
          · exact absurd h hz
          · simp; omega
        clear hz hC2
        go_wp2_with fail
        refine bodyPost_ret (v := .tuple #[sv C, .int .i64 0]) (by simp [results, Try.results17, go_sem, r0, r1, r2, r3]) rfl ⟨by rw [HER.out, HF.out, ← HC1.out]; rfl, ?_⟩
        exact st4s_below HI2.out (Nat.le_refl _) C
end Go.Proofs.Ytlieijbjbjnaiaa.Sup
