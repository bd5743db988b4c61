/- Contracts: bytes.Equal, Decode. -/
import Derived.Test.YtckbehojcjhcgaaN9
namespace Go.Proofs.Ytckbehojcjhcgaa.Nod
open Go.RowKit Crc Chk Frm Fra

theorem eq_any (A A' : Option Addr) (l m : List UInt8) (n n' c c' B B' : Nat) (w : World) (hn : l.length = n) (hn' : m.length = n') (h : Octs w B A l) (h' : Octs w B' A' m) :
    Calls Try.prog 27 #[.slice A n c, .slice A' n' c'] w fun e w' => e = .returned (.bool (decide (l = m))) ∧ w = w' := by
  subst hn
  subst hn'
  have HA := Lib.hid (octs_text (c := c) h)
  have HA' := Lib.hid (octs_text (c := c') h')
  have HE : Hid (((⟨l.toArray⟩ : ByteArray).toList == (⟨m.toArray⟩ : ByteArray).toList) = decide (l = m)) := by
    show _ = _
    rw [show (⟨l.toArray⟩ : ByteArray).toList = l from text_toList l, show (⟨m.toArray⟩ : ByteArray).toList = m from text_toList m]
    rw [Bool.eq_iff_iff]; simp
  obtain ⟨s, hs⟩ : ∃ s : ByteArray, s = ⟨l.toArray⟩ := ⟨_, rfl⟩
  obtain ⟨t, ht⟩ : ∃ t : ByteArray, t = ⟨m.toArray⟩ := ⟨_, rfl⟩
  obtain ⟨b, hb⟩ : ∃ b, b = decide (l = m) := ⟨_, rfl⟩
  rw [← hs] at HA HE
  rw [← ht] at HA' HE
  rw [← hb] at HE ⊢
  obtain ⟨n, hn⟩ : ∃ n, n = l.length := ⟨_, rfl⟩
  obtain ⟨n', hn'⟩ : ∃ n, n = m.length := ⟨_, rfl⟩
  rw [← hn] at HA ⊢
  rw [← hn'] at HA' ⊢
  clear hs ht hb h h' hn hn'
  have c1 := HA.out
  have c2 := HA'.out
  clear HA HA'
  go_enter Try.func27, Try.ntmps27
  go_wp2_with fail
  go_ret
  exact ⟨retb HE.out, rfl⟩
/-- What Decode leaves. -/
def DecD (w : World) (r : Nd × Int) (e : Ending) (w' : World) : Prop := ∃ A1 n1 c1 A2 n2 c2 A3 n3 c3, e = .returned (.tuple #[nv A1 n1 c1 A2 n2 c2 A3 n3 c3, .int .i64 r.2]) ∧ IsN w' w'.heap.size r.1 A1 n1 c1 A2 n2 c2 A3 n3 c3 ∧ Below w.heap.size w w'
theorem isN_nil (w : World) (B : Nat) : IsN w B Nd.nil none 0 0 none 0 0 none 0 0 :=
  ⟨(fun i hi => by cases hi), (fun i hi => by cases hi), (fun i hi => by cases hi), rfl, rfl, rfl, Nat.le_refl _, Nat.le_refl _, Nat.le_refl _, by omega, by omega, by omega⟩
theorem dec_at_short (A : Option Addr) (n c : Nat) (w : World) (hn : n ≠ 512) :
    Calls Try.prog 17 #[.slice A n c] w (DecD w (Nd.nil, 3)) := by
  have h1 : ((n : Int) != 512) = true := by simp; omega
  go_enter Try.func17, Try.ntmps17
  go_wp2_with fail
  refine bodyPost_ret (v := .tuple #[nv none 0 0 none 0 0 none 0 0, .int .i64 3]) (by simp [results, Try.results17, go_sem]) rfl ⟨none, 0, 0, none, 0, 0, none, 0, 0, rfl, isN_nil _ _, ?_⟩
  exact (Below.refl _ _).alloc (Nat.le_refl _) _
theorem sum_split {l : T} (h : l.length = 512) : (l.take 508 ++ l.drop 508 = l) ∧ (l.take 508).length = 508 ∧ (l.drop 508).length = 4 := ⟨List.take_append_drop _ _, by simp; omega, by simp; omega⟩
set_option maxHeartbeats 800000 in
theorem dec_at_sum (ad : Addr) (l : T) (c B : Nat) (w : World) (h : Octs w B (some ad) l) (hB : B ≤ w.heap.size) (hl : l.length = 512) (hc : 512 ≤ c) (hs : soundB l = false) :
    Calls Try.prog 17 #[.slice (some ad) 512 c] w (DecD w (Nd.nil, 6)) := by
  obtain ⟨e, l1, l2⟩ := sum_split hl
  have HO := Lib.hid h
  have HX : Hid (∀ W, Below w.heap.size w W → Calls Try.prog 25 #[.slice (some ad) 512 c] W fun e w' => e = .returned (.tuple #[.slice none 0 0, .int .i64 6]) ∧ Below W.heap.size W w') := fun W hW => open_no ad (l.take 508) (l.drop 508) 512 c B W (by rw [e]; exact HO.out.below hW hB) (by have := hW.size; omega) l2 (by omega) hc (by omega) (fun e2 => by unfold soundB at hs; rw [decide_eq_true e2] at hs; cases hs)
  have HB0 : Hid (Below w.heap.size w (w.alloc (.cells nil3 26))) := (Below.refl _ _).alloc (Nat.le_refl _) _
  have HZ : Hid (BoxN w.heap.size none 0 0 none 0 0 none 0 0 (w.alloc (.cells nil3 26))) := boxN_new w ..
  clear h e l1 l2 hs hl
  go_enter Try.func17, Try.ntmps17
  go_wp2_with fail
  refine (HX.out _ HB0.out).mono ?_
  rintro e w1 ⟨rfl, hb1⟩
  have HZ1 := Lib.hid (HZ.out.below hb1 (by rw [alloc_size]; omega))
  have HB1 := Lib.hid (below_box hb1)
  clear hb1
  obtain ⟨k0, k1, k2, k4⟩ := HZ1.out.cells
  go_wp2_with fail
  refine bodyPost_ret (v := .tuple #[nv none 0 0 none 0 0 none 0 0, .int .i64 6]) (by simp [results, Try.results17, go_sem, k0, k1, k2]) rfl ⟨none, 0, 0, none, 0, 0, none, 0, 0, rfl, isN_nil _ _, ?_⟩
  exact stN_below HB1.out (Nat.le_refl _) (.slice none 0 0) (.slice none 0 0) (.slice none 0 0)
theorem grown_stN (w : World) (z : Nat) (a b d : Value) : w.grownBy (stN w z a b d) (some z) := by
  have g : ∀ (W : World) (j : Nat) (v : Value), W.grownBy (W.setCell ⟨z, j, none⟩ v) (some z) := fun W j v =>
    ⟨rfl, rfl, rfl, by simp [World.setCell], fun i hi hne => Below.heap_setCell W ⟨z, j, none⟩ v i (fun e => hne (by rw [e]))⟩
  exact ((g w 0 a).trans (g _ 1 b)).trans (g _ 2 d)
theorem cell_stN {w : World} {z : Nat} {x y u : Value} {fr : Nat × Nat} (hz : w.heap[z]? = some (.cells #[x, y, u] 26 fr)) (hx : ∀ t, x ≠ .string t) (hy : ∀ t, y ≠ .string t) (hu : ∀ t, u ≠ .string t) (hx' : ∀ k t, x ≠ .int k t) (hy' : ∀ k t, y ≠ .int k t) (hu' : ∀ k t, u ≠ .int k t)
    (a b d : Value) (blk o : Nat) (v : Value) (hv : (∃ t, v = .string t) ∨ ∃ k t, v = .int k t) (hb : blk < w.heap.size) (h : w.cell? ⟨blk, o, none⟩ = some v) : (stN w z a b d).cell? ⟨blk, o, none⟩ = some v := by
  rw [(grown_stN w z a b d).cell_far ⟨blk, o, none⟩ hb (fun e => ?_)]
  · exact h
  · injection e with e
    have e' : blk = z := e
    subst e'
    rw [cell_of_row w blk o _ _ _ hz] at h
    rcases o with _ | _ | _ | o
    · have hh : x = v := by simpa using h
      rcases hv with ⟨t, rfl⟩ | ⟨k, t, rfl⟩
      · exact hx _ hh
      · exact hx' _ _ hh
    · have hh : y = v := by simpa using h
      rcases hv with ⟨t, rfl⟩ | ⟨k, t, rfl⟩
      · exact hy _ hh
      · exact hy' _ _ hh
    · have hh : u = v := by simpa using h
      rcases hv with ⟨t, rfl⟩ | ⟨k, t, rfl⟩
      · exact hu _ hh
      · exact hu' _ _ hh
    · simp at h
theorem isN_st {w : World} {B z : Nat} {n : Nd} {A1 : Option Addr} {n1 c1 : Nat} {A2 : Option Addr} {n2 c2 : Nat} {A3 : Option Addr} {n3 c3 : Nat} (h : IsN w B n A1 n1 c1 A2 n2 c2 A3 n3 c3) (hB : B ≤ w.heap.size)
    {X1 : Option Addr} {x1 y1 : Nat} {X2 : Option Addr} {x2 y2 : Nat} {X3 : Option Addr} {x3 y3 : Nat} (hz : BoxN z X1 x1 y1 X2 x2 y2 X3 x3 y3 w) (a b d : Value) : IsN (stN w z a b d) B n A1 n1 c1 A2 n2 c2 A3 n3 c3 := by
  have key := fun blk o v hv hb h => cell_stN (show w.heap[z]? = _ from hz) (by simp) (by simp) (by simp) (by simp) (by simp) (by simp) a b d blk o v hv hb h
  refine ⟨fun i hi => ?_, fun i hi => ?_, fun i hi => ?_, h.l1, h.l2, h.l3, h.r1, h.r2, h.r3, h.m1, h.m2, h.m3⟩
  · obtain ⟨b0, o, e, h1, h2, h3⟩ := h.ps i hi
    exact ⟨b0, o, e, h1, key _ _ _ (.inl ⟨_, rfl⟩) (by omega) h2, key _ _ _ (.inl ⟨_, rfl⟩) (by omega) h3⟩
  · obtain ⟨b0, o, e, h1, h2⟩ := h.ks i hi
    exact ⟨b0, o, e, h1, key _ _ _ (.inl ⟨_, rfl⟩) (by omega) h2⟩
  · obtain ⟨b0, o, e, h1, h2, h3⟩ := h.cs i hi
    exact ⟨b0, o, e, h1, key _ _ _ (.inr ⟨_, _, rfl⟩) (by omega) h2, h3⟩
set_option maxHeartbeats 3200000 in
theorem dec_at_go (ad : Addr) (l : T) (c B : Nat) (w : World) (h : Octs w B (some ad) l) (hB : B ≤ w.heap.size) (hl : l.length = 512) (hc : 512 ≤ c) (hs : soundB l = true) :
    Calls Try.prog 17 #[.slice (some ad) 512 c] w (DecD w (decN l)) := by
  obtain ⟨e, l1, l2⟩ := sum_split hl
  have HO := Lib.hid h
  have HX : Hid (∀ W, Below w.heap.size w W → Calls Try.prog 25 #[.slice (some ad) 512 c] W (Opened W (l.take 508))) := fun W hW => open_yes ad (l.take 508) (l.drop 508) 512 c B W (by rw [e]; exact HO.out.below hW hB) (by have := hW.size; omega) l2 (by omega) hc (by omega) (by unfold soundB at hs; exact of_decide_eq_true hs)
  have HB0 : Hid (Below w.heap.size w (w.alloc (.cells nil3 26))) := (Below.refl _ _).alloc (Nat.le_refl _) _
  have HZ : Hid (BoxN w.heap.size none 0 0 none 0 0 none 0 0 (w.alloc (.cells nil3 26))) := boxN_new w ..
  obtain ⟨m, hm⟩ : ∃ m, m = l.take 508 := ⟨_, rfl⟩
  obtain ⟨n, hn⟩ : ∃ n, n = pNode m := ⟨_, rfl⟩
  have HF : Hid (¬ (mayB n = true ∧ pageL n = l) → decN l = (Nd.nil, 4)) := fun hh => dec_form hl hs (by rw [← hm, ← hn]; exact hh)
  have HY : Hid (mayB n = true ∧ pageL n = l → decN l = (n, 0)) := fun hh => by
    have := dec_yes hl hs (by rw [← hm, ← hn]; exact hh)
    rwa [← hm, ← hn] at this
  rw [← hm] at HX l1
  have HN := Lib.hid hn
  have HL := Lib.hid hl
  have HL1 := Lib.hid l1
  clear h e l1 l2 hs hl hm hn
  go_enter Try.func17, Try.ntmps17
  go_wp2_with fail
  refine (HX.out _ HB0.out).mono ?_
  rintro e w1 ⟨v1, rfl, hown1, hb1⟩
  have HZ1 := Lib.hid (HZ.out.below hb1 (by rw [alloc_size]; omega))
  have HB1 := Lib.hid (below_box hb1)
  have hz1 : w.heap.size < w1.heap.size := by have := hb1.size; rw [alloc_size] at this; omega
  clear hb1
  obtain ⟨g, cp, rfl, hg1, hg2, hcp⟩ := own_form hown1 (by rw [HL1.out]; omega)
  have HM := Lib.hid (octs_of_own hown1)
  rw [HL1.out] at hcp ⊢
  have HRd := Lib.hid (read_any ⟨g, 0, none⟩ m cp w1.heap.size w1 HM.out (Nat.le_refl _) HL1.out hcp)
  rw [← HN.out] at HRd
  clear hown1
  go_wp2_with fail
  refine HRd.out.mono ?_
  rintro e w2 ⟨A1, n1, c1, A2, n2, c2, A3, n3, c3, rfl, hN2, hb2⟩
  have HB2 := Lib.hid (step' HB1.out hb2 HB1.out.size)
  have HZ2 := Lib.hid (HZ1.out.below hb2 hz1)
  have hz2 : w.heap.size < w2.heap.size := Nat.lt_of_lt_of_le hz1 hb2.size
  obtain ⟨W3, hW3⟩ : ∃ W3, W3 = w2.alloc (.cells #[.slice A1 n1 c1, .slice A2 n2 c2, .slice A3 n3 c3] 26) := ⟨_, rfl⟩
  have hb3 : Below w2.heap.size w2 W3 := by rw [hW3]; exact (Below.refl _ _).alloc (Nat.le_refl _) _
  have hz3 : w2.heap.size < W3.heap.size := by rw [hW3, alloc_size]; omega
  have HZ3 := Lib.hid (HZ2.out.below hb3 hz2)
  have HY3 : Hid (BoxN w2.heap.size A1 n1 c1 A2 n2 c2 A3 n3 c3 W3) := by rw [hW3]; exact boxN_new w2 ..
  have HB3 := Lib.hid (step' HB2.out hb3 HB2.out.size)
  have HN3 := Lib.hid ((hN2.below hb3 (Nat.le_refl _)).more (Nat.le_of_lt hz3))
  have HW3 := Lib.hid hW3
  clear hW3 hb3 hN2 hb2
  go_upto_region 7 with fail
  rw [← HW3.out]
  obtain ⟨j0, j1, j2, -⟩ := HY3.out.cells
  go_wp2_with fail
  refine (enc_both n A1 n1 c1 A2 n2 c2 A3 n3 c3 W3 HN3.out).mono ?_
  rintro e w4 ⟨A7, n7, c7, rfl, ho7, h7, hb4⟩
  have HB4 := Lib.hid (step' HB3.out hb4 HB3.out.size)
  have HZ4 := Lib.hid (HZ3.out.below hb4 (by omega))
  have HY4 := Lib.hid (HY3.out.below hb4 hz3)
  have HN4 := Lib.hid ((HN3.out.below hb4 (Nat.le_refl _)).more hb4.size)
  have HOL := Lib.hid (HO.out.below HB4.out hB)
  have hz4 : w.heap.size < w4.heap.size := by have := hb4.size; omega
  obtain ⟨t0, t1, t2, t4⟩ := HZ4.out.cells
  obtain ⟨s0, s1, s2, -⟩ := HY4.out.cells
  clear hb4 j0 j1 j2
  cases hmay : mayB n with
  | false =>
    have HQ : Hid (decN l = (Nd.nil, 4)) := HF.out (fun h => by rw [hmay] at h; exact absurd h.1 (by decide))
    clear ho7 h7
    go_wp2_with fail
    refine bodyPost_ret (v := .tuple #[nv none 0 0 none 0 0 none 0 0, .int .i64 4]) (by simp [results, Try.results17, go_sem, t0, t1, t2]) rfl ⟨none, 0, 0, none, 0, 0, none, 0, 0, by rw [HQ.out], by rw [HQ.out]; exact isN_nil _ _, ?_⟩
    exact stN_below HB4.out (Nat.le_refl _) (.slice none 0 0) (.slice none 0 0) (.slice none 0 0)
  | true =>
    obtain ⟨o7, rfl⟩ := ho7 hmay
    have o7' : Octs w4 w4.heap.size A7 (pageL n) := octs_of_own (c := c7) (by rw [page_len hmay]; exact o7)
    have HEQ := Lib.hid (fun W => eq_any A7 (some ad) (pageL n) l 512 512 c7 c w4.heap.size B W (page_len hmay) HL.out)
    have HO7 := Lib.hid o7'
    clear ho7 h7 o7 o7'
    by_cases he : pageL n = l
    · have HQ : Hid (decN l = (n, 0)) := HY.out ⟨hmay, he⟩
      have hd : decide (pageL n = l) = true := decide_eq_true he
      rw [hd] at HEQ
      clear he hd
      go_wp2_with fail
      refine (HEQ.out _ HO7.out HOL.out).mono ?_
      rintro e w' ⟨rfl, rfl⟩
      go_wp2_with fail
      refine bodyPost_ret (v := .tuple #[nv A1 n1 c1 A2 n2 c2 A3 n3 c3, .int .i64 0]) (by simp [results, Try.results17, go_sem, t0, t1, t2]) rfl ⟨A1, n1, c1, A2, n2, c2, A3, n3, c3, by rw [HQ.out], ?_, ?_⟩
      · rw [HQ.out]
        have := isN_st HN4.out (Nat.le_refl _) HZ4.out (.slice A1 n1 c1) (.slice A2 n2 c2) (.slice A3 n3 c3)
        rw [← stN_size w4 w.heap.size (.slice A1 n1 c1) (.slice A2 n2 c2) (.slice A3 n3 c3)] at this
        exact this
      · exact stN_below HB4.out (Nat.le_refl _) (.slice A1 n1 c1) (.slice A2 n2 c2) (.slice A3 n3 c3)
    · have HQ : Hid (decN l = (Nd.nil, 4)) := HF.out (fun h => he h.2)
      have hd : decide (pageL n = l) = false := decide_eq_false he
      rw [hd] at HEQ
      clear he hd
      go_wp2_with fail
      refine (HEQ.out _ HO7.out HOL.out).mono ?_
      rintro e w' ⟨rfl, rfl⟩
      go_wp2_with fail
      refine bodyPost_ret (v := .tuple #[nv none 0 0 none 0 0 none 0 0, .int .i64 4]) (by simp [results, Try.results17, go_sem, t0, t1, t2]) rfl ⟨none, 0, 0, none, 0, 0, none, 0, 0, by rw [HQ.out], by rw [HQ.out]; exact isN_nil _ _, ?_⟩
      exact stN_below HB4.out (Nat.le_refl _) (.slice none 0 0) (.slice none 0 0) (.slice none 0 0)
theorem dec_any (A : Option Addr) (l : T) (n c B : Nat) (w : World) (h : Octs w B A l) (hB : B ≤ w.heap.size) (hl : l.length = n) (hc : n ≤ c) :
    Calls Try.prog 17 #[.slice A n c] w (DecD w (decN l)) := by
  by_cases h64 : n = 512
  · subst h64
    obtain ⟨ad, rfl, -⟩ := h 0 (by omega)
    cases hs : soundB l with
    | false => rw [dec_sum hl hs]; exact dec_at_sum ad l c B w h hB hl hc hs
    | true => exact dec_at_go ad l c B w h hB hl hc hs
  · rw [dec_short (by omega)]
    exact dec_at_short A n c w h64
end Go.Proofs.Ytckbehojcjhcgaa.Nod
