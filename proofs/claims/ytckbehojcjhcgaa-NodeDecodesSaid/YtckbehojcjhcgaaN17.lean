/- Plain: the document's reading, round by round; what its Decode keeps. Contracts: its Decode of what is too short, or not sealed. -/
import Derived.Test.YtckbehojcjhcgaaN15
import Derived.Test.YtckbehojcjhcgaaN16
namespace Go.Proofs.Ytckbehojcjhcgaa.Nod
open Go.RowKit Crc Chk Frm Fra

def dKeysAt (t : T) : Nat → Nat → Nat
  | 0, a => a
  | k + 1, a => if a ≤ t.length then dKeysAt t k (dGet t a).2 else a
theorem dGet_le (t : T) (a : Nat) : (dGet t a).2 ≤ t.length + 1 := by
  unfold dGet
  split
  · exact Nat.le_refl _
  · dsimp only; omega
theorem dPairs_snoc (t : T) (k a : Nat) (h : dPairsAt t k a ≤ t.length) :
    dPairs t (k + 1) a = dPairs t k a ++ [((dGet t (dPairsAt t k a)).1, (dGet t (dGet t (dPairsAt t k a)).2).1)] ∧ dPairsAt t (k + 1) a = (dGet t (dGet t (dPairsAt t k a)).2).2 := by
  induction k generalizing a with
  | zero =>
    simp only [dPairsAt] at h
    simp [dPairs, dPairsAt, h]
  | succ k ih =>
    by_cases ha : a ≤ t.length
    · rw [dPairsAt, if_pos ha] at h
      obtain ⟨h1, h2⟩ := ih _ h
      have e1 : dPairsAt t (k + 1) a = dPairsAt t k (dGet t (dGet t a).2).2 := by rw [dPairsAt, if_pos ha]
      have e2 : dPairs t (k + 1 + 1) a = ((dGet t a).1, (dGet t (dGet t a).2).1) :: dPairs t (k + 1) (dGet t (dGet t a).2).2 := by rw [dPairs, if_pos ha]
      have e3 : dPairs t (k + 1) a = ((dGet t a).1, (dGet t (dGet t a).2).1) :: dPairs t k (dGet t (dGet t a).2).2 := by rw [dPairs, if_pos ha]
      have e4 : dPairsAt t (k + 1 + 1) a = dPairsAt t (k + 1) (dGet t (dGet t a).2).2 := by rw [dPairsAt, if_pos ha]
      rw [e1, e2, e3, e4, h1, h2]
      exact ⟨rfl, rfl⟩
    · rw [dPairsAt, if_neg ha] at h
      exact absurd h ha
theorem dPairs_stop (t : T) (k j a : Nat) (h : t.length < dPairsAt t k a) : dPairs t (k + j) a = dPairs t k a := by
  induction k generalizing a with
  | zero =>
    simp only [dPairsAt] at h
    cases j with
    | zero => rfl
    | succ j =>
      have e : dPairs t (j + 1) a = [] := by simp only [dPairs]; rw [if_neg (by omega)]
      rw [show 0 + (j + 1) = j + 1 by omega, e]; rfl
  | succ k ih =>
    rw [show k + 1 + j = (k + j) + 1 by omega]
    by_cases ha : a ≤ t.length
    · rw [dPairsAt, if_pos ha] at h
      have e1 : dPairs t (k + j + 1) a = ((dGet t a).1, (dGet t (dGet t a).2).1) :: dPairs t (k + j) (dGet t (dGet t a).2).2 := by rw [dPairs, if_pos ha]
      have e2 : dPairs t (k + 1) a = ((dGet t a).1, (dGet t (dGet t a).2).1) :: dPairs t k (dGet t (dGet t a).2).2 := by rw [dPairs, if_pos ha]
      rw [e1, e2, ih _ h]
    · rw [dPairs, if_neg ha, dPairs, if_neg ha]
theorem dPairs_len (t : T) (k a : Nat) : (dPairs t k a).length ≤ k := by
  induction k generalizing a with
  | zero => exact Nat.le_refl _
  | succ k ih =>
    rw [dPairs]
    split
    · have := ih (dGet t (dGet t a).2).2
      simp only [List.length_cons]; omega
    · simp
theorem dPairsAt_le (t : T) (k a : Nat) (h : a ≤ t.length + 1) : dPairsAt t k a ≤ t.length + 1 := by
  induction k generalizing a with
  | zero => exact h
  | succ k ih =>
    rw [dPairsAt]
    split
    · exact ih _ (dGet_le _ _)
    · exact h
theorem dKeys_snoc (t : T) (k a : Nat) (h : dKeysAt t k a ≤ t.length) :
    dKeys t (k + 1) a = dKeys t k a ++ [(dGet t (dKeysAt t k a)).1] ∧ dKeysAt t (k + 1) a = (dGet t (dKeysAt t k a)).2 := by
  induction k generalizing a with
  | zero =>
    simp only [dKeysAt] at h
    simp [dKeys, dKeysAt, h]
  | succ k ih =>
    by_cases ha : a ≤ t.length
    · rw [dKeysAt, if_pos ha] at h
      obtain ⟨h1, h2⟩ := ih _ h
      have e1 : dKeysAt t (k + 1) a = dKeysAt t k (dGet t a).2 := by rw [dKeysAt, if_pos ha]
      have e2 : dKeys t (k + 1 + 1) a = (dGet t a).1 :: dKeys t (k + 1) (dGet t a).2 := by rw [dKeys, if_pos ha]
      have e3 : dKeys t (k + 1) a = (dGet t a).1 :: dKeys t k (dGet t a).2 := by rw [dKeys, if_pos ha]
      have e4 : dKeysAt t (k + 1 + 1) a = dKeysAt t (k + 1) (dGet t a).2 := by rw [dKeysAt, if_pos ha]
      rw [e1, e2, e3, e4, h1, h2]
      exact ⟨rfl, rfl⟩
    · rw [dKeysAt, if_neg ha] at h
      exact absurd h ha
theorem dKeys_stop (t : T) (k j a : Nat) (h : t.length < dKeysAt t k a) : dKeys t (k + j) a = dKeys t k a := by
  induction k generalizing a with
  | zero =>
    simp only [dKeysAt] at h
    cases j with
    | zero => rfl
    | succ j =>
      have e : dKeys t (j + 1) a = [] := by simp only [dKeys]; rw [if_neg (by omega)]
      rw [show 0 + (j + 1) = j + 1 by omega, e]; rfl
  | succ k ih =>
    rw [show k + 1 + j = (k + j) + 1 by omega]
    by_cases ha : a ≤ t.length
    · rw [dKeysAt, if_pos ha] at h
      have e1 : dKeys t (k + j + 1) a = (dGet t a).1 :: dKeys t (k + j) (dGet t a).2 := by rw [dKeys, if_pos ha]
      have e2 : dKeys t (k + 1) a = (dGet t a).1 :: dKeys t k (dGet t a).2 := by rw [dKeys, if_pos ha]
      rw [e1, e2, ih _ h]
    · rw [dKeys, if_neg ha, dKeys, if_neg ha]
theorem dKeys_len (t : T) (k a : Nat) : (dKeys t k a).length ≤ k := by
  induction k generalizing a with
  | zero => exact Nat.le_refl _
  | succ k ih =>
    rw [dKeys]
    split
    · have := ih (dGet t a).2
      simp only [List.length_cons]; omega
    · simp
theorem dKids_snoc (t : T) (k a : Nat) : dKids t (k + 1) a = dKids t k a ++ [dKid t (a + 2 * k)] := by
  induction k generalizing a with
  | zero => rfl
  | succ k ih =>
    rw [dKids, ih (a + 2), dKids, show a + 2 + 2 * k = a + 2 * (k + 1) by omega]
    rfl
theorem dKids_len (t : T) (k a : Nat) : (dKids t k a).length = k := by
  induction k generalizing a with
  | zero => rfl
  | succ k ih => rw [dKids, List.length_cons, ih]
theorem dKid_range (t : T) (a : Nat) : -9223372036854775808 ≤ dKid t a ∧ dKid t a ≤ 9223372036854775807 := by
  have h1 := oct1_lt t a
  have h2 := oct1_lt t (a + 1)
  unfold dKid
  omega
theorem dKids_range (t : T) (k a : Nat) : ∀ x ∈ dKids t k a, -9223372036854775808 ≤ x ∧ x ≤ 9223372036854775807 := by
  induction k generalizing a with
  | zero => intro x hx; cases hx
  | succ k ih =>
    intro x hx
    rw [dKids] at hx
    rcases List.mem_cons.1 hx with rfl | h
    · exact dKid_range t a
    · exact ih _ x h

/-! A box set in place: other blocks' texts and integers stay. -/
theorem cell_box {w : World} {z : Nat} {X1 : Option Addr} {x1 y1 : Nat} {X2 : Option Addr} {x2 y2 : Nat} {X3 : Option Addr} {x3 y3 : Nat} (hz : BoxN z X1 x1 y1 X2 x2 y2 X3 x3 y3 w)
    (j : Nat) (u : Value) (blk o : Nat) (v : Value) (hv : (∃ t, v = .string t) ∨ ∃ k t, v = .int k t) (hb : blk < w.heap.size) (h : w.cell? ⟨blk, o, none⟩ = some v) : (w.setCell ⟨z, j, none⟩ u).cell? ⟨blk, o, none⟩ = some v := by
  have hg : w.grownBy (w.setCell ⟨z, j, none⟩ u) (some z) := ⟨rfl, rfl, rfl, by simp [World.setCell], fun i hi hne => Below.heap_setCell w ⟨z, j, none⟩ u i (fun e => hne (by rw [e]))⟩
  rw [hg.cell_far ⟨blk, o, none⟩ hb (fun e => ?_)]
  · exact h
  · injection e with e
    have e' : blk = z := e
    subst e'
    rw [cell_of_row w blk o _ _ _ hz] at h
    rcases o with _ | _ | _ | o
    · have hh : Value.slice X1 x1 y1 = v := by simpa using h
      rcases hv with ⟨t, rfl⟩ | ⟨k, t, rfl⟩ <;> cases hh
    · have hh : Value.slice X2 x2 y2 = v := by simpa using h
      rcases hv with ⟨t, rfl⟩ | ⟨k, t, rfl⟩ <;> cases hh
    · have hh : Value.slice X3 x3 y3 = v := by simpa using h
      rcases hv with ⟨t, rfl⟩ | ⟨k, t, rfl⟩ <;> cases hh
    · simp at h
theorem Prs.box {w : World} {B z : Nat} {A : Option Addr} {l : List (T × T)} (h : Prs w B A l) (hB : B ≤ w.heap.size) {X1 : Option Addr} {x1 y1 : Nat} {X2 : Option Addr} {x2 y2 : Nat} {X3 : Option Addr} {x3 y3 : Nat} (hz : BoxN z X1 x1 y1 X2 x2 y2 X3 x3 y3 w) (j : Nat) (u : Value) : Prs (w.setCell ⟨z, j, none⟩ u) B A l := fun i hi => by
  obtain ⟨b0, o, e, h1, h2, h3⟩ := h i hi
  exact ⟨b0, o, e, h1, cell_box hz j u _ _ _ (.inl ⟨_, rfl⟩) (by omega) h2, cell_box hz j u _ _ _ (.inl ⟨_, rfl⟩) (by omega) h3⟩
theorem Kds.box {w : World} {B z : Nat} {A : Option Addr} {l : List Int} (h : Kds w B A l) (hB : B ≤ w.heap.size) {X1 : Option Addr} {x1 y1 : Nat} {X2 : Option Addr} {x2 y2 : Nat} {X3 : Option Addr} {x3 y3 : Nat} (hz : BoxN z X1 x1 y1 X2 x2 y2 X3 x3 y3 w) (j : Nat) (u : Value) : Kds (w.setCell ⟨z, j, none⟩ u) B A l := fun i hi => by
  obtain ⟨b0, o, e, h1, h2, h3⟩ := h i hi
  exact ⟨b0, o, e, h1, cell_box hz j u _ _ _ (.inr ⟨_, _, rfl⟩) (by omega) h2, h3⟩
/-- What the document's Decode keeps: the result's box, the node's box. -/
structure DSt (w0 : World) (z : Nat) (A1 : Option Addr) (m1 c1 : Nat) (A2 : Option Addr) (m2 c2 : Nat) (A3 : Option Addr) (m3 c3 : Nat) (w : World) : Prop where
  rs : BoxN w0.heap.size none 0 0 none 0 0 none 0 0 w
  bx : BoxN z A1 m1 c1 A2 m2 c2 A3 m3 c3 w
  bl : Below w0.heap.size w0 w
  z1 : w0.heap.size < z
  z2 : z < w.heap.size
theorem DSt.next {w0 : World} {z : Nat} {A1 : Option Addr} {m1 c1 : Nat} {A2 : Option Addr} {m2 c2 : Nat} {A3 : Option Addr} {m3 c3 : Nat} {w w' : World} {B : Nat} (h : DSt w0 z A1 m1 c1 A2 m2 c2 A3 m3 c3 w) (hb : Below B w w') (hB : z + 1 ≤ B) : DSt w0 z A1 m1 c1 A2 m2 c2 A3 m3 c3 w' :=
  have h1 := h.z1
  ⟨h.rs.below hb (by omega), h.bx.below hb (by omega), h.bl.trans (hb.mono (by omega)), h.z1, Nat.lt_of_lt_of_le h.z2 hb.size⟩
theorem DSt.set {w0 : World} {z : Nat} {A1 : Option Addr} {m1 c1 : Nat} {A2 : Option Addr} {m2 c2 : Nat} {A3 : Option Addr} {m3 c3 : Nat} {w : World} {A1' : Option Addr} {m1' c1' : Nat} {A2' : Option Addr} {m2' c2' : Nat} {A3' : Option Addr} {m3' c3' : Nat} (h : DSt w0 z A1 m1 c1 A2 m2 c2 A3 m3 c3 w) (j : Nat) (v : Value)
    (hb : BoxN z A1' m1' c1' A2' m2' c2' A3' m3' c3' (w.setCell ⟨z, j, none⟩ v)) : DSt w0 z A1' m1' c1' A2' m2' c2' A3' m3' c3' (w.setCell ⟨z, j, none⟩ v) :=
  have h1 := h.z1
  ⟨(Below.heap_setCell w ⟨z, j, none⟩ v _ (show w0.heap.size ≠ z by omega)).trans h.rs, hb, h.bl.setCell (p := ⟨z, j, none⟩) (by show _ ≤ z; omega) _, h.z1, by simpa [World.setCell] using h.z2⟩
theorem rdec_short (l : T) (w : World) (hl : l.length ≤ 600) (hn : l.length ≠ 512) : Calls Try.prog 20 #[.string (text l)] w (DecD w (Nd.nil, 3)) := by
  have hz := text_size l
  obtain ⟨s, hs⟩ : ∃ s, s = text l := ⟨_, rfl⟩
  rw [← hs] at hz ⊢
  have h1 : ((s.size : Int) != 512) = true := by simp; omega
  have h2 : s.size ≤ 600 := by omega
  have HZ : Hid (BoxN w.heap.size none 0 0 none 0 0 none 0 0 (w.alloc (.cells nil3 26))) := boxN_new w ..
  have HB : Hid (Below w.heap.size w (w.alloc (.cells nil3 26))) := (Below.refl _ _).alloc (Nat.le_refl _) _
  obtain ⟨W1, hW1⟩ : ∃ W1, W1 = w.alloc (.cells nil3 26) := ⟨_, rfl⟩
  rw [← hW1] at HZ HB
  have HW := Lib.hid hW1
  clear hs hz hl hn hW1
  obtain ⟨k0, k1, k2, k4⟩ := HZ.out.cells
  go_enter Try.func20, Try.ntmps20
  go_upto_region 1 with fail
  rw [← HW.out]
  go_wp2_with fail
  refine bodyPost_ret (v := .tuple #[nv none 0 0 none 0 0 none 0 0, .int .i64 3]) (by simp [results, Try.results20, go_sem, k0, k1, k2]) rfl ⟨none, 0, 0, none, 0, 0, none, 0, 0, rfl, isN_nil _ _, ?_⟩
  exact stN_below HB.out (Nat.le_refl _) (.slice none 0 0) (.slice none 0 0) (.slice none 0 0)
theorem rdec_sum (l : T) (w : World) (hl : l.length = 512) (hs : soundB l = false) : Calls Try.prog 20 #[.string (text l)] w (DecD w (Nd.nil, 6)) := by
  obtain ⟨e, l1, l2⟩ := sum_split hl
  have HX : Hid (∀ W, Calls Try.prog 31 #[.string (text l)] W fun e w' => e = .returned (.tuple #[.string (text []), .int .i64 6]) ∧ Below W.heap.size W w') := fun W => by
    have := ropen_no (l.take 508) (l.drop 508) W l2 (by omega) (by unfold soundB at hs; exact of_decide_eq_false hs)
    rwa [e] at this
  have hz := text_size l
  obtain ⟨s, hs'⟩ : ∃ s, s = text l := ⟨_, rfl⟩
  rw [← hs'] at hz HX ⊢
  have h1 : ((s.size : Int) != 512) = false := by simp; omega
  have h2 : s.size = 512 := by omega
  obtain ⟨q, hq⟩ : ∃ q, q = text [] := ⟨_, rfl⟩
  rw [← hq] at HX
  have HZ : Hid (BoxN w.heap.size none 0 0 none 0 0 none 0 0 (w.alloc (.cells nil3 26))) := boxN_new w ..
  have HB : Hid (Below w.heap.size w (w.alloc (.cells nil3 26))) := (Below.refl _ _).alloc (Nat.le_refl _) _
  have hz1 : w.heap.size < (w.alloc (.cells nil3 26)).heap.size := by rw [alloc_size]; omega
  obtain ⟨W1, hW1⟩ : ∃ W1, W1 = w.alloc (.cells nil3 26) := ⟨_, rfl⟩
  rw [← hW1] at HZ HB hz1
  have HW := Lib.hid hW1
  have H2 := Lib.hid h2
  clear hs' hz hl hs l1 l2 e hW1 hq h2
  go_enter Try.func20, Try.ntmps20
  go_upto_region 1 with fail
  rw [← HW.out]
  go_wp2_with fail
  refine (HX.out _).mono ?_
  rintro e w2 ⟨rfl, hb⟩
  have HZ2 := Lib.hid (HZ.out.below hb hz1)
  have HB2 : Hid (Below w.heap.size w w2) := step' HB.out hb (by omega)
  clear hb
  obtain ⟨k0, k1, k2, k4⟩ := HZ2.out.cells
  go_wp2_with fail
  refine bodyPost_ret (v := .tuple #[nv none 0 0 none 0 0 none 0 0, .int .i64 6]) (by simp [results, Try.results20, go_sem, k0, k1, k2]) rfl ⟨none, 0, 0, none, 0, 0, none, 0, 0, rfl, isN_nil _ _, ?_⟩
  exact stN_below HB2.out (Nat.le_refl _) (.slice none 0 0) (.slice none 0 0) (.slice none 0 0)
end Go.Proofs.Ytckbehojcjhcgaa.Nod
