/- The walk of the law EntryMoves: an entry from any account to any other one is the document's, or refused with its error; on each account it is what it does there. Conditions: the arrays of the program that names and numbers go by hold what their initialisers lay. -/
import Derived.Test.YtdhokgkihaiomaaDoorE14
namespace Go.Proofs.YtdhokgkihaiomaaDoor.Ent
open Go.RowKit Cht
open Mny (Fits vOf eOf okB vOf_t vOf_f eOf_t eOf_f okB_t okB_f)

/-- A box with what an entry is made of. -/
def BoxQ (g : Nat) (b : Int) (r : ByteArray) (k : Int) (s : ByteArray) (j : Int) (t : ByteArray) (n : Int) (w : World) : Prop := w.heap[g]? = some (.cells #[.int .i64 b, .string r, .int .i64 k, .string s, .int .i64 j, .string t, .int .i64 n] 25 (0, 0))
theorem BoxQ.cells {g : Nat} {b : Int} {r : ByteArray} {k : Int} {s : ByteArray} {j : Int} {t : ByteArray} {n : Int} {w : World} (h : BoxQ g b r k s j t n w) :
    w.cell? ⟨g, 0, none⟩ = some (.int .i64 b) ∧ w.cell? ⟨g, 1, none⟩ = some (.string r) ∧ w.cell? ⟨g, 2, none⟩ = some (.int .i64 k) ∧ w.cell? ⟨g, 3, none⟩ = some (.string s) ∧ w.cell? ⟨g, 4, none⟩ = some (.int .i64 j) ∧ w.cell? ⟨g, 5, none⟩ = some (.string t) ∧ w.cell? ⟨g, 6, none⟩ = some (.int .i64 n) ∧ ∀ i, w.frozen? ⟨g, i, none⟩ = false := by
  unfold BoxQ at h
  refine ⟨?_, ?_, ?_, ?_, ?_, ?_, ?_, fun j => ?_⟩ <;> simp [World.cell?, World.frozen?, h]
theorem BoxQ.below {g B : Nat} {b : Int} {r : ByteArray} {k : Int} {s : ByteArray} {j : Int} {t : ByteArray} {n : Int} {w w' : World} (h : BoxQ g b r k s j t n w) (hb : Below B w w') (hr : g < B) : BoxQ g b r k s j t n w' := (hb.block g hr).trans h
theorem BoxQ.set1 {g : Nat} {b : Int} {r : ByteArray} {k : Int} {s : ByteArray} {j : Int} {t : ByteArray} {n : Int} {w : World} (h : BoxQ g b r k s j t n w) (u : ByteArray) : BoxQ g b u k s j t n (w.setCell ⟨g, 1, none⟩ (.string u)) := by
  unfold BoxQ at *; simp [World.setCell, Array.getElem?_modify, h]
theorem BoxQ.set3 {g : Nat} {b : Int} {r : ByteArray} {k : Int} {s : ByteArray} {j : Int} {t : ByteArray} {n : Int} {w : World} (h : BoxQ g b r k s j t n w) (u : ByteArray) : BoxQ g b r k u j t n (w.setCell ⟨g, 3, none⟩ (.string u)) := by
  unfold BoxQ at *; simp [World.setCell, Array.getElem?_modify, h]
theorem BoxQ.set5 {g : Nat} {b : Int} {r : ByteArray} {k : Int} {s : ByteArray} {j : Int} {t : ByteArray} {n : Int} {w : World} (h : BoxQ g b r k s j t n w) (u : ByteArray) : BoxQ g b r k s j u n (w.setCell ⟨g, 5, none⟩ (.string u)) := by
  unfold BoxQ at *; simp [World.setCell, Array.getElem?_modify, h]

theorem rcheck_at (b : Int) (r : ByteArray) (A : Option Addr) (l : List Ln) (m c : Nat) (w : World) (h : Lns w w.heap.size A l) (hm : l.length = m) (hl : m ≤ 1000) (hr1 : r.size ≤ 1000) (hf : ∀ x ∈ l, fitL x) :
    Calls Tryd.prog 10 #[.agg #[.int .i64 b, .string r, .slice A m c]] w fun e w' => e = .returned (.int .i64 (chk b r l)) ∧ Below w.heap.size w w' := by
  subst hm
  exact rcheck_any b r A l c w h hl hr1 hf
theorem sameA_sym (x y : Ln) : sameA x y = sameA y x := by
  unfold sameA
  rw [show (x.k == y.k) = (y.k == x.k) from Bool.eq_iff_iff.2 ⟨fun h => by simp at h ⊢; exact h.symm, fun h => by simp at h ⊢; exact h.symm⟩,
    show (x.s.toList == y.s.toList) = (y.s.toList == x.s.toList) from Bool.eq_iff_iff.2 ⟨fun h => by simp at h ⊢; exact h.symm, fun h => by simp at h ⊢; exact h.symm⟩]
theorem mayL_two {x y : Ln} (h : mayL [x, y] = true) : sameA x y = false := by
  unfold mayL at h
  simp only [Bool.and_eq_true, List.all_eq_true, List.mem_range] at h
  have h1 := h.2 1 (by show 1 < 2; omega)
  simp [okI] at h1
  exact h1.2.2
theorem sameA_eq {x y a : Ln} (h : x.k = a.k) (h' : x.s = a.s) : sameA a y = sameA x y := by
  unfold sameA; rw [h, h']
/-- What the two lines do on an account. -/
theorem on_two {b : Int} {r : ByteArray} {k : Int} {s : ByteArray} {j : Int} {t : ByteArray} {n : Int} {l : List Ln} (a : Ln) (hl : l = [⟨k, s, -n⟩, ⟨j, t, n⟩]) (h : chk b r l = 0) :
    (k = a.k ∧ s = a.s ∧ sameA a ⟨j, t, n⟩ = false ∧ onL l a = -n) ∨ (sameA a ⟨k, s, -n⟩ = false ∧ j = a.k ∧ t = a.s ∧ onL l a = n) ∨ (sameA a ⟨k, s, -n⟩ = false ∧ sameA a ⟨j, t, n⟩ = false ∧ onL l a = 0) := by
  have hm := (chk_ok.1 h).2.2.1
  rw [hl] at hm
  have hs := mayL_two hm
  cases h1 : sameA (⟨k, s, -n⟩ : Ln) a with
  | true =>
    obtain ⟨e1, e2⟩ := same_yes h1
    refine .inl ⟨e1, e2, ?_, ?_⟩
    · rw [sameA_eq (x := ⟨k, s, -n⟩) e1 e2]; exact hs
    · rw [hl]; simp [onL, h1]
  | false =>
    have h1' : sameA a ⟨k, s, -n⟩ = false := by rw [sameA_sym]; exact h1
    have hn1 : ¬ sameA (⟨k, s, -n⟩ : Ln) a = true := by rw [h1]; decide
    cases h2 : sameA (⟨j, t, n⟩ : Ln) a with
    | true =>
      obtain ⟨e1, e2⟩ := same_yes h2
      refine .inr (.inl ⟨h1', e1, e2, ?_⟩)
      rw [hl]; simp [onL, h1, h2]
    | false =>
      have hn2 : ¬ sameA (⟨j, t, n⟩ : Ln) a = true := by rw [h2]; decide
      refine .inr (.inr ⟨h1', by rw [sameA_sym]; exact h2, ?_⟩)
      rw [hl]; simp [onL, h1, h2]

set_option maxRecDepth 100000 in
set_option maxHeartbeats 6400000 in
theorem moves_walk (b : Int) (r : ByteArray) (k : Int) (s : ByteArray) (j : Int) (t : ByteArray) (n : Int) (a : Ln) (w : World) (hE : EnvA w) (hn : Fits n) (hk : -9223372036854775808 ≤ k ∧ k ≤ 9223372036854775807) (hj : -9223372036854775808 ≤ j ∧ j ≤ 9223372036854775807) (hr : r.size ≤ 9223372036854775807) (hs : s.size ≤ 9223372036854775807) (ht : t.size ≤ 9223372036854775807) :
    Calls Tryd.prog 3 #[.agg #[.int .i64 b, .string r, .int .i64 k, .string s, .int .i64 j, .string t, .int .i64 n], .agg #[.int .i64 a.k, .string a.s]] w fun e w' => e = .returned (.bool true) ∧ Below w.heap.size w w' := by
  obtain ⟨w0, hw⟩ : ∃ w0, w0 = (w.alloc (.cells #[.int .i64 b, .string r, .int .i64 k, .string s, .int .i64 j, .string t, .int .i64 n] 25)).alloc (.cells #[.int .i64 a.k, .string a.s] 23) := ⟨_, rfl⟩
  have hb0 : Below w.heap.size w w0 := by rw [hw]; exact ((Below.refl _ _).alloc (Nat.le_refl _) _).alloc (by simp) _
  have hbq : BoxQ w.heap.size b r k s j t n w0 := by
    have h1 : BoxQ w.heap.size b r k s j t n (w.alloc (.cells #[.int .i64 b, .string r, .int .i64 k, .string s, .int .i64 j, .string t, .int .i64 n] 25)) := World.alloc_heap_new w _
    rw [hw]; exact h1.below ((Below.refl _ _).alloc (Nat.le_refl _) _) (by simp)
  have hba : BoxA (w.heap.size + 1) a.k a.s w0 := by
    have := World.alloc_heap_new (w.alloc (.cells #[.int .i64 b, .string r, .int .i64 k, .string s, .int .i64 j, .string t, .int .i64 n] 25)) (.cells #[.int .i64 a.k, .string a.s] 23)
    rw [World.size_alloc] at this
    rw [hw]; exact this
  have hz0 : w0.heap.size = w.heap.size + 2 := by rw [hw, World.size_alloc, World.size_alloc]
  have HW := Lib.hid hw
  have HE := Lib.hid hE
  clear hw hE
  obtain ⟨c0, c1, c2, c3, c4, c5, c6, cf⟩ := hbq.cells
  go_enter Tryd.func3, Tryd.ntmps3
  go_upto_region 1 with fail
  rw [← HW.out]
  clear HW
  rename_i Q0 K0 hK0 L0 hL0
  have key : ∀ (u12 u13 u14 u15 u16 u17 u18 u19 : Value) (w1 : World), BoxQ w.heap.size b (cutS 25 r) k s j t n w1 → BoxA (w.heap.size + 1) a.k a.s w1 → Below w.heap.size w w1 → w1.heap.size = w.heap.size + 2 → K0 { tmps := #[.agg #[.int .i64 b, .string r, .int .i64 k, .string s, .int .i64 j, .string t, .int .i64 n], .agg #[.int .i64 a.k, .string a.s], .pointer (some ⟨w.heap.size, 0, none⟩), .pointer (some ⟨w.heap.size + 1, 0, none⟩), .bool false, undef, undef, undef, undef, undef, undef, undef, u12, u13, u14, u15, u16, u17, u18, u19, undef, undef, undef, undef, undef, undef, undef, undef, undef, undef, undef, undef, undef, undef, undef, undef, undef, undef, undef, undef, undef, undef, undef, undef, undef, undef, undef, undef, undef, undef, undef, undef, undef, undef, undef, undef, undef, undef, undef, undef, undef, undef, undef, undef, undef, undef, undef, undef, undef, undef, undef, undef, undef, undef, undef, undef, undef, undef, undef, undef, undef, undef, undef, undef, undef, undef, undef, undef, undef, undef, undef, undef, undef, undef, undef, undef, undef, undef, undef, undef, undef, undef, undef, undef, undef, undef, undef, undef, undef, undef, undef, undef, undef, undef, undef, undef, undef, undef, undef, undef, undef, undef, undef, undef, undef, undef, undef, undef, undef, undef], defers := [] } w1 := by
    clear c0 c1 c2 c3 c4 c5 c6 cf hbq hba hb0 hz0
    intro u12 u13 u14 u15 u16 u17 u18 u19 w1 hbq hba hb0 hz0
    refine hK0 _ _ ?_
    clear hK0 hL0
    obtain ⟨c0, c1, c2, c3, c4, c5, c6, cf⟩ := hbq.cells
    go_upto_region 3 with fail
    rename_i K1 hK1 L1 hL1
    have key : ∀ (u20 u21 u22 u23 u24 u25 u26 u27 u28 u29 u30 : Value) (w2 : World), BoxQ w.heap.size b (cutS 25 r) k (cutS 20 s) j t n w2 → BoxA (w.heap.size + 1) a.k a.s w2 → Below w.heap.size w w2 → w2.heap.size = w.heap.size + 2 → K1 { tmps := #[.agg #[.int .i64 b, .string r, .int .i64 k, .string s, .int .i64 j, .string t, .int .i64 n], .agg #[.int .i64 a.k, .string a.s], .pointer (some ⟨w.heap.size, 0, none⟩), .pointer (some ⟨w.heap.size + 1, 0, none⟩), .bool false, undef, undef, undef, undef, undef, undef, undef, u12, u13, u14, u15, u16, u17, u18, u19, u20, u21, u22, u23, u24, u25, u26, u27, u28, u29, u30, undef, undef, undef, undef, undef, undef, undef, undef, undef, undef, undef, undef, undef, undef, undef, undef, undef, undef, undef, undef, undef, undef, undef, undef, undef, undef, undef, undef, undef, undef, undef, undef, undef, undef, undef, undef, undef, undef, undef, undef, undef, undef, undef, undef, undef, undef, undef, undef, undef, undef, undef, undef, undef, undef, undef, undef, undef, undef, undef, undef, undef, undef, undef, undef, undef, undef, undef, undef, undef, undef, undef, undef, undef, undef, undef, undef, undef, undef, undef, undef, undef, undef, undef, undef, undef, undef, undef, undef, undef, undef, undef, undef, undef, undef, undef, undef, undef, undef, undef], defers := [] } w2 := by
      clear c0 c1 c2 c3 c4 c5 c6 cf hbq hba hb0 hz0
      intro u20 u21 u22 u23 u24 u25 u26 u27 u28 u29 u30 w2 hbq hba hb0 hz0
      refine hK1 _ _ ?_
      clear hK1 hL1
      obtain ⟨c0, c1, c2, c3, c4, c5, c6, cf⟩ := hbq.cells
      go_upto_region 5 with fail
      rename_i K2 hK2 L2 hL2
      have key : ∀ (u31 u32 u33 u34 u35 u36 u37 u38 u39 u40 u41 : Value) (w3 : World), BoxQ w.heap.size b (cutS 25 r) k (cutS 20 s) j (cutS 20 t) n w3 → BoxA (w.heap.size + 1) a.k a.s w3 → Below w.heap.size w w3 → w3.heap.size = w.heap.size + 2 → K2 { tmps := #[.agg #[.int .i64 b, .string r, .int .i64 k, .string s, .int .i64 j, .string t, .int .i64 n], .agg #[.int .i64 a.k, .string a.s], .pointer (some ⟨w.heap.size, 0, none⟩), .pointer (some ⟨w.heap.size + 1, 0, none⟩), .bool false, undef, undef, undef, undef, undef, undef, undef, u12, u13, u14, u15, u16, u17, u18, u19, u20, u21, u22, u23, u24, u25, u26, u27, u28, u29, u30, u31, u32, u33, u34, u35, u36, u37, u38, u39, u40, u41, undef, undef, undef, undef, undef, undef, undef, undef, undef, undef, undef, undef, undef, undef, undef, undef, undef, undef, undef, undef, undef, undef, undef, undef, undef, undef, undef, undef, undef, undef, undef, undef, undef, undef, undef, undef, undef, undef, undef, undef, undef, undef, undef, undef, undef, undef, undef, undef, undef, undef, undef, undef, undef, undef, undef, undef, undef, undef, undef, undef, undef, undef, undef, undef, undef, undef, undef, undef, undef, undef, undef, undef, undef, undef, undef, undef, undef, undef, undef, undef, undef, undef, undef, undef, undef, undef, undef, undef], defers := [] } w3 := by
        clear c0 c1 c2 c3 c4 c5 c6 cf hbq hba hb0 hz0
        intro u31 u32 u33 u34 u35 u36 u37 u38 u39 u40 u41 w3 hbq hba hb0 hz0
        refine hK2 _ _ ?_
        clear hK2 hL2
        obtain ⟨c0, c1, c2, c3, c4, c5, c6, cf⟩ := hbq.cells
        have hr' := cutS_size 25 r
        have hs' := cutS_size 20 s
        have ht' := cutS_size 20 t
        generalize cutS 25 r = r' at *
        generalize cutS 20 s = s' at *
        generalize cutS 20 t = t' at *
        clear hr hs ht
        have HX : Hid (fitL ⟨k, s', 0⟩) := ⟨hk, by show s'.size ≤ 1000; omega, by show Fits 0; decide⟩
        have HY : Hid (fitL ⟨j, t', n⟩) := ⟨hj, by show t'.size ≤ 1000; omega, hn⟩
        have HRS := Lib.hid (fun W => Mny.rsub_any 0 n W (by decide) hn)
        have HAw := Lib.hid (fun W (hb : Below w.heap.size w W) => awake_any W (HE.out.below hb))
        have HB3 := Lib.hid hb0
        have HBQ := Lib.hid hbq
        have HBA := Lib.hid hba
        have HNo := Lib.hid none_yes
        by_cases hf : ¬ Fits (0 - n)
        · have HMv := Lib.hid (move_over b r' ⟨k, s', 0⟩ ⟨j, t', n⟩ w3 hn hf)
          rw [vOf_f hf, okB_f hf] at HRS
          clear hf hn hk hj hbq hba hb0
          go_wp2_with fail
          refine HMv.out.mono ?_
          rintro e w4 ⟨rfl, hb4⟩
          have hbX : Below w3.heap.size w3 (w4.alloc (.cells #[.int .i64 0, .string ⟨#[]⟩, .slice none 0 0] 28)) := hb4.alloc hb4.size _
          have HX4 := Lib.hid (BoxE.new w4 0 ⟨#[]⟩ none 0 0)
          have hbq4 := HBQ.out.below hbX (by omega)
          have HB4 := Lib.hid (HB3.out.trans (hbX.mono (by omega)))
          clear c0 c1 c2 c3 c4 c5 c6 cf hb4 HMv
          obtain ⟨c0, c1, c2, c3, c4, c5, c6, cf⟩ := hbq4.cells
          obtain ⟨x0, x1, x2, xf⟩ := HX4.out.cells
          go_wp2_with fail
          refine (HRS.out _).mono ?_
          rintro e w5 ⟨rfl, hb5⟩
          have hx5 := HX4.out.below hb5 (by simp)
          have HB5 := Lib.hid (HB4.out.trans (hb5.mono HB4.out.size))
          clear c0 c1 c2 c3 c4 c5 c6 cf x0 x1 x2 xf hbX hbq4 HRS
          obtain ⟨x0, x1, x2, xf⟩ := hx5.cells
          go_wp2_with fail
          refine (HNo.out _).mono ?_
          rintro e w6 ⟨rfl, hb6⟩
          have HB6 := Lib.hid (HB5.out.trans (hb6.mono HB5.out.size))
          clear x0 x1 x2 xf hb5 hb6 hx5
          go_wp2_with fail
          refine (HAw.out _ HB6.out).mono ?_
          rintro e w7 ⟨rfl, hb7⟩
          go_wp2_with fail
          go_ret
          exact ⟨rfl, Below.on HB6.out hb7⟩
        replace hf := Decidable.not_not.1 hf
        have hfn : Fits (-n) := by rw [Int.zero_sub] at hf; exact hf
        rw [vOf_t hf, okB_t hf, Int.zero_sub] at HRS
        obtain ⟨l, hl⟩ : ∃ l : List Ln, l = [⟨k, s', -n⟩, ⟨j, t', n⟩] := ⟨_, rfl⟩
        have HL := Lib.hid hl
        have HMv := Lib.hid (move_any b r' ⟨k, s', 0⟩ ⟨j, t', n⟩ l hl w3 (HE.out.below hb0).c HX.out HY.out hfn)
        have HFL : Hid (∀ z ∈ l, fitL z) := fun z hz => by
          rw [hl] at hz; simp at hz
          rcases hz with rfl | rfl
          · exact ⟨hk, by show s'.size ≤ 1000; omega, hfn⟩
          · exact HY.out
        have HO2 := Lib.hid (fun h0 => on_two (b := b) (r := r') a hl h0)
        clear hf hfn hn hk hj hbq hba hb0 hl HX HY
        go_wp2_with fail
        refine HMv.out.mono ?_
        rintro e w4 HH
        obtain ⟨xb, xr, xA, xm, xc, rfl, hb4, HXX⟩ : ∃ (xb : Int) (xr : ByteArray) (xA : Option Addr) (xm xc : Nat), e = .returned (.tuple #[.agg #[.int .i64 xb, .string xr, .slice xA xm xc], .int .i64 (chk b r' l)]) ∧ Below w3.heap.size w3 w4 ∧ Hid ((chk b r' l ≠ 0 ∧ xb = 0 ∧ xr = ⟨#[]⟩ ∧ xA = none ∧ xm = 0 ∧ xc = 0) ∨ (chk b r' l = 0 ∧ xb = b ∧ xr = r' ∧ xm = 2 ∧ xc = 2 ∧ Lns w4 w4.heap.size xA l)) := by
          rcases HH with ⟨h9, rfl, hb4⟩ | ⟨h9, A, rfl, hln, hb4⟩
          · exact ⟨_, _, _, _, _, rfl, hb4, .inl ⟨h9, rfl, rfl, rfl, rfl, rfl⟩⟩
          · refine ⟨_, _, _, _, _, by rw [h9], hb4, .inr ⟨h9, rfl, rfl, rfl, rfl, hln⟩⟩
        obtain ⟨e, he⟩ : ∃ e, e = chk b r' l := ⟨_, rfl⟩
        rw [← he]
        have HEE := Lib.hid he
        clear he HH
        have hbX : Below w3.heap.size w3 (w4.alloc (.cells #[.int .i64 xb, .string xr, .slice xA xm xc] 28)) := hb4.alloc hb4.size _
        have HX4 := Lib.hid (BoxE.new w4 xb xr xA xm xc)
        have HWX : Hid (Below w4.heap.size w4 (w4.alloc (.cells #[.int .i64 xb, .string xr, .slice xA xm xc] 28))) := (Below.refl _ _).alloc (Nat.le_refl _) _
        have hbq4 := HBQ.out.below hbX (by omega)
        have HBA4 := Lib.hid (HBA.out.below hbX (by omega))
        have HB4 := Lib.hid (HB3.out.trans (hbX.mono (by omega)))
        have hz4 := hb4.size
        clear c0 c1 c2 c3 c4 c5 c6 cf hb4 HMv
        obtain ⟨c0, c1, c2, c3, c4, c5, c6, cf⟩ := hbq4.cells
        obtain ⟨x0, x1, x2, xf⟩ := HX4.out.cells
        go_wp2_with fail
        refine (HRS.out _).mono ?_
        rintro e w5 ⟨rfl, hb5⟩
        have HX5 := Lib.hid (HX4.out.below hb5 (by simp))
        have HQ5 := Lib.hid (hbq4.below hb5 (by simp; omega))
        have HA5 := Lib.hid (HBA4.out.below hb5 (by simp; omega))
        have HB5 := Lib.hid (HB4.out.trans (hb5.mono HB4.out.size))
        have HW5 := Lib.hid (HWX.out.trans (hb5.mono HWX.out.size))
        have hz5 : w4.heap.size + 1 ≤ w5.heap.size := by have := hb5.size; rw [World.size_alloc] at this; exact this
        clear c0 c1 c2 c3 c4 c5 c6 cf x0 x1 x2 xf hbX hbq4 HRS HX4 HBA4 HB4 HWX hb5
        obtain ⟨c0, c1, c2, c3, c4, c5, c6, cf⟩ := HQ5.out.cells
        have hyN := BoxE.new (w5.alloc (.cells #[.int .i64 k, .string s', .int .i64 (-n), .int .i64 j, .string t', .int .i64 n] 37)) b r' (some ⟨w5.heap.size, 0, none⟩) 2 2
        rw [World.size_alloc] at hyN
        have HYN := Lib.hid hyN
        obtain ⟨y0, y1, y2, yf⟩ := hyN.cells
        clear hyN
        go_wp2_with fail
        have hzY : (w5.alloc (.cells #[.int .i64 k, .string s', .int .i64 (-n), .int .i64 j, .string t', .int .i64 n] 37)).heap.size = w5.heap.size + 1 := World.size_alloc _ _
        obtain ⟨w6, hw6⟩ : ∃ w6, w6 = (w5.alloc (.cells #[.int .i64 k, .string s', .int .i64 (-n), .int .i64 j, .string t', .int .i64 n] 37)).alloc (.cells #[.int .i64 b, .string r', .slice (some ⟨w5.heap.size, 0, none⟩) 2 2] 28) := ⟨_, rfl⟩
        have hb6 : Below w5.heap.size w5 w6 := by rw [hw6]; exact ((Below.refl _ _).alloc (Nat.le_refl _) _).alloc (by simp) _
        have hz6 : w6.heap.size = w5.heap.size + 2 := by rw [hw6, World.size_alloc, hzY]
        have hl6 : Lns w6 w6.heap.size (some ⟨w5.heap.size, 0, none⟩) l := by
          have h1 := lns_two w5 ⟨k, s', -n⟩ ⟨j, t', n⟩
          rw [← HL.out] at h1
          rw [hw6]; exact h1.next ((Below.refl _ _).alloc (Nat.le_refl _) _)
        have HY6 := HYN
        rw [← hw6] at HY6
        have HC := Lib.hid (rcheck_at b r' (some ⟨w5.heap.size, 0, none⟩) l 2 2 w6 hl6 (by rw [HL.out]; rfl) (by decide) (by omega) HFL.out)
        rw [← HEE.out] at HC
        rw [← hw6]
        clear hw6 hzY HYN y0 y1 y2 yf c0 c1 c2 c3 c4 c5 c6 cf
        refine HC.out.mono ?_
        rintro e9 w7 ⟨rfl, hb7⟩
        have hb57 := hb6.trans (hb7.mono hb6.size)
        have HX7 := Lib.hid (HX5.out.below hb57 (by omega))
        have HQ7 := Lib.hid (HQ5.out.below hb57 (by omega))
        have HA7 := Lib.hid (HA5.out.below hb57 (by omega))
        have HB7 := Lib.hid (HB5.out.trans (hb57.mono HB5.out.size))
        have HW7 := Lib.hid (HW5.out.trans (hb57.mono HW5.out.size))
        have HY7 := Lib.hid (HY6.out.below hb7 (by omega))
        have HL7 : Hid (Lns w7 w7.heap.size (some ⟨w5.heap.size, 0, none⟩) l) := hl6.next hb7
        have hz7 : w5.heap.size + 2 ≤ w7.heap.size := by rw [← hz6]; exact hb7.size
        clear HX5 HQ5 HA5 HB5 HW5 HY6 hb57 hb6 hb7 HC hl6
        by_cases h0 : e = 0
        · subst h0
          obtain ⟨-, rfl, rfl, rfl, rfl, hlx⟩ := HXX.out.resolve_left (fun h9 => h9.1 HEE.out.symm)
          have HLX : Hid (Lns w7 w7.heap.size xA l) := hlx.next HW7.out
          obtain ⟨x0, x1, x2, xf⟩ := HX7.out.cells
          obtain ⟨y0, y1, y2, yf⟩ := HY7.out.cells
          obtain ⟨c0, c1, c2, c3, c4, c5, c6, cf⟩ := HQ7.out.cells
          obtain ⟨p0, p1, pf⟩ := HA7.out.cells
          have HO := Lib.hid (HO2.out HEE.out.symm)
          have hlen : l.length = 2 := by rw [HL.out]; rfl
          have HS := Lib.hid (rsame_any xb xb xr xr xA (some ⟨w5.heap.size, 0, none⟩) l l 2 2 2 2 w7 HLX.out HL7.out hlen hlen (by decide) (by decide))
          rw [show sameE xb xr l xb xr l = true from decide_eq_true ⟨rfl, rfl, rfl⟩] at HS
          have HN := Lib.hid (fun W (hW : Lns W W.heap.size xA l) => on_any xb xr xA l 2 2 a W hW hlen (by decide))
          clear hlx hlen HXX HO2
          rcases HO.out with ⟨e1, e2, e3, e4⟩ | ⟨e3, e1, e2, e4⟩ | ⟨e3, e3', e4⟩
          · have HE4 := Lib.hid e4
            rw [e1] at c2
            rw [e2] at c3
            rcases same_no e3 with s1 | ⟨s1, s2⟩
            · clear e1 e2 e3 e4 HO
              go_wp2_with fail
              refine HS.out.mono ?_
              rintro e9 w8 ⟨rfl, hb8⟩
              have HX8 := Lib.hid (HX7.out.below hb8 (by omega))
              have HA8 := Lib.hid (HA7.out.below hb8 (by omega))
              have HB8 := Lib.hid (HB7.out.trans (hb8.mono HB7.out.size))
              have HL8 : Hid (Lns w8 w8.heap.size xA l) := HLX.out.next hb8
              clear x0 x1 x2 xf y0 y1 y2 yf c0 c1 c2 c3 c4 c5 c6 cf p0 p1 pf hb8 HS
              obtain ⟨x0, x1, x2, xf⟩ := HX8.out.cells
              obtain ⟨p0, p1, pf⟩ := HA8.out.cells
              go_wp2_with fail
              refine (HN.out _ HL8.out).mono ?_
              rintro e9 w9 ⟨rfl, hb9⟩
              rw [HE4.out]
              have HB9 := Lib.hid (HB8.out.trans (hb9.mono HB8.out.size))
              clear x0 x1 x2 xf p0 p1 pf hb9
              go_wp2_with fail
              refine (HAw.out _ HB9.out).mono ?_
              rintro e9 w10 ⟨rfl, hb10⟩
              go_wp2_with fail
              go_ret
              exact ⟨rfl, Below.on HB9.out hb10⟩
            · have HS1 := Lib.hid s1
              dsimp only at s1
              rw [s1] at p0 c2
              clear e1 e2 e3 e4 HO s1
              go_wp2_with fail
              refine HS.out.mono ?_
              rintro e9 w8 ⟨rfl, hb8⟩
              have HX8 := Lib.hid (HX7.out.below hb8 (by omega))
              have HA8 := Lib.hid (HA7.out.below hb8 (by omega))
              have HB8 := Lib.hid (HB7.out.trans (hb8.mono HB7.out.size))
              have HL8 : Hid (Lns w8 w8.heap.size xA l) := HLX.out.next hb8
              clear x0 x1 x2 xf y0 y1 y2 yf c0 c1 c2 c3 c4 c5 c6 cf p0 p1 pf hb8 HS
              obtain ⟨x0, x1, x2, xf⟩ := HX8.out.cells
              obtain ⟨p0, p1, pf⟩ := HA8.out.cells
              go_wp2_with fail
              refine (HN.out _ HL8.out).mono ?_
              rintro e9 w9 ⟨rfl, hb9⟩
              rw [HE4.out]
              have HB9 := Lib.hid (HB8.out.trans (hb9.mono HB8.out.size))
              clear x0 x1 x2 xf p0 p1 pf hb9
              go_wp2_with fail
              refine (HAw.out _ HB9.out).mono ?_
              rintro e9 w10 ⟨rfl, hb10⟩
              go_wp2_with fail
              go_ret
              exact ⟨rfl, Below.on HB9.out hb10⟩
          · have HE4 := Lib.hid e4
            rw [e1] at c4
            rw [e2] at c5
            rcases same_no e3 with s1 | ⟨s1, s2⟩
            · clear e1 e2 e3 e4 HO
              go_wp2_with fail
              refine HS.out.mono ?_
              rintro e9 w8 ⟨rfl, hb8⟩
              have HX8 := Lib.hid (HX7.out.below hb8 (by omega))
              have HA8 := Lib.hid (HA7.out.below hb8 (by omega))
              have HB8 := Lib.hid (HB7.out.trans (hb8.mono HB7.out.size))
              have HL8 : Hid (Lns w8 w8.heap.size xA l) := HLX.out.next hb8
              clear x0 x1 x2 xf y0 y1 y2 yf c0 c1 c2 c3 c4 c5 c6 cf p0 p1 pf hb8 HS
              obtain ⟨x0, x1, x2, xf⟩ := HX8.out.cells
              obtain ⟨p0, p1, pf⟩ := HA8.out.cells
              go_wp2_with fail
              refine (HN.out _ HL8.out).mono ?_
              rintro e9 w9 ⟨rfl, hb9⟩
              rw [HE4.out]
              have HB9 := Lib.hid (HB8.out.trans (hb9.mono HB8.out.size))
              clear x0 x1 x2 xf p0 p1 pf hb9
              go_wp2_with fail
              refine (HAw.out _ HB9.out).mono ?_
              rintro e9 w10 ⟨rfl, hb10⟩
              go_wp2_with fail
              go_ret
              exact ⟨rfl, Below.on HB9.out hb10⟩
            · dsimp only at s1
              rw [s1] at p0 c4
              clear e1 e2 e3 e4 HO s1
              go_wp2_with fail
              refine HS.out.mono ?_
              rintro e9 w8 ⟨rfl, hb8⟩
              have HX8 := Lib.hid (HX7.out.below hb8 (by omega))
              have HA8 := Lib.hid (HA7.out.below hb8 (by omega))
              have HB8 := Lib.hid (HB7.out.trans (hb8.mono HB7.out.size))
              have HL8 : Hid (Lns w8 w8.heap.size xA l) := HLX.out.next hb8
              clear x0 x1 x2 xf y0 y1 y2 yf c0 c1 c2 c3 c4 c5 c6 cf p0 p1 pf hb8 HS
              obtain ⟨x0, x1, x2, xf⟩ := HX8.out.cells
              obtain ⟨p0, p1, pf⟩ := HA8.out.cells
              go_wp2_with fail
              refine (HN.out _ HL8.out).mono ?_
              rintro e9 w9 ⟨rfl, hb9⟩
              rw [HE4.out]
              have HB9 := Lib.hid (HB8.out.trans (hb9.mono HB8.out.size))
              clear x0 x1 x2 xf p0 p1 pf hb9
              go_wp2_with fail
              refine (HAw.out _ HB9.out).mono ?_
              rintro e9 w10 ⟨rfl, hb10⟩
              go_wp2_with fail
              go_ret
              exact ⟨rfl, Below.on HB9.out hb10⟩
          · have HE4 := Lib.hid e4
            rcases same_no e3 with s1 | ⟨s1, s2⟩ <;> rcases same_no e3' with t1 | ⟨t1, t2⟩ <;> dsimp only at s1 t1
            · clear e3 e3' e4 HO
              go_wp2_with fail
              refine HS.out.mono ?_
              rintro e9 w8 ⟨rfl, hb8⟩
              have HX8 := Lib.hid (HX7.out.below hb8 (by omega))
              have HA8 := Lib.hid (HA7.out.below hb8 (by omega))
              have HB8 := Lib.hid (HB7.out.trans (hb8.mono HB7.out.size))
              have HL8 : Hid (Lns w8 w8.heap.size xA l) := HLX.out.next hb8
              clear x0 x1 x2 xf y0 y1 y2 yf c0 c1 c2 c3 c4 c5 c6 cf p0 p1 pf hb8 HS
              obtain ⟨x0, x1, x2, xf⟩ := HX8.out.cells
              obtain ⟨p0, p1, pf⟩ := HA8.out.cells
              go_wp2_with fail
              refine (HN.out _ HL8.out).mono ?_
              rintro e9 w9 ⟨rfl, hb9⟩
              rw [HE4.out]
              have HB9 := Lib.hid (HB8.out.trans (hb9.mono HB8.out.size))
              clear x0 x1 x2 xf p0 p1 pf hb9
              go_wp2_with fail
              refine (HAw.out _ HB9.out).mono ?_
              rintro e9 w10 ⟨rfl, hb10⟩
              go_wp2_with fail
              go_ret
              exact ⟨rfl, Below.on HB9.out hb10⟩
            · rw [t1] at p0 s1
              clear e3 e3' e4 HO t1
              go_wp2_with fail
              refine HS.out.mono ?_
              rintro e9 w8 ⟨rfl, hb8⟩
              have HX8 := Lib.hid (HX7.out.below hb8 (by omega))
              have HA8 := Lib.hid (HA7.out.below hb8 (by omega))
              have HB8 := Lib.hid (HB7.out.trans (hb8.mono HB7.out.size))
              have HL8 : Hid (Lns w8 w8.heap.size xA l) := HLX.out.next hb8
              clear x0 x1 x2 xf y0 y1 y2 yf c0 c1 c2 c3 c4 c5 c6 cf p0 p1 pf hb8 HS
              obtain ⟨x0, x1, x2, xf⟩ := HX8.out.cells
              obtain ⟨p0, p1, pf⟩ := HA8.out.cells
              go_wp2_with fail
              refine (HN.out _ HL8.out).mono ?_
              rintro e9 w9 ⟨rfl, hb9⟩
              rw [HE4.out]
              have HB9 := Lib.hid (HB8.out.trans (hb9.mono HB8.out.size))
              clear x0 x1 x2 xf p0 p1 pf hb9
              go_wp2_with fail
              refine (HAw.out _ HB9.out).mono ?_
              rintro e9 w10 ⟨rfl, hb10⟩
              go_wp2_with fail
              go_ret
              exact ⟨rfl, Below.on HB9.out hb10⟩
            · rw [s1] at p0 t1
              clear e3 e3' e4 HO s1
              go_wp2_with fail
              refine HS.out.mono ?_
              rintro e9 w8 ⟨rfl, hb8⟩
              have HX8 := Lib.hid (HX7.out.below hb8 (by omega))
              have HA8 := Lib.hid (HA7.out.below hb8 (by omega))
              have HB8 := Lib.hid (HB7.out.trans (hb8.mono HB7.out.size))
              have HL8 : Hid (Lns w8 w8.heap.size xA l) := HLX.out.next hb8
              clear x0 x1 x2 xf y0 y1 y2 yf c0 c1 c2 c3 c4 c5 c6 cf p0 p1 pf hb8 HS
              obtain ⟨x0, x1, x2, xf⟩ := HX8.out.cells
              obtain ⟨p0, p1, pf⟩ := HA8.out.cells
              go_wp2_with fail
              refine (HN.out _ HL8.out).mono ?_
              rintro e9 w9 ⟨rfl, hb9⟩
              rw [HE4.out]
              have HB9 := Lib.hid (HB8.out.trans (hb9.mono HB8.out.size))
              clear x0 x1 x2 xf p0 p1 pf hb9
              go_wp2_with fail
              refine (HAw.out _ HB9.out).mono ?_
              rintro e9 w10 ⟨rfl, hb10⟩
              go_wp2_with fail
              go_ret
              exact ⟨rfl, Below.on HB9.out hb10⟩
            · rw [s1] at p0 t1
              rw [← t1] at c4
              clear e3 e3' e4 HO s1 t1
              go_wp2_with fail
              refine HS.out.mono ?_
              rintro e9 w8 ⟨rfl, hb8⟩
              have HX8 := Lib.hid (HX7.out.below hb8 (by omega))
              have HA8 := Lib.hid (HA7.out.below hb8 (by omega))
              have HB8 := Lib.hid (HB7.out.trans (hb8.mono HB7.out.size))
              have HL8 : Hid (Lns w8 w8.heap.size xA l) := HLX.out.next hb8
              clear x0 x1 x2 xf y0 y1 y2 yf c0 c1 c2 c3 c4 c5 c6 cf p0 p1 pf hb8 HS
              obtain ⟨x0, x1, x2, xf⟩ := HX8.out.cells
              obtain ⟨p0, p1, pf⟩ := HA8.out.cells
              go_wp2_with fail
              refine (HN.out _ HL8.out).mono ?_
              rintro e9 w9 ⟨rfl, hb9⟩
              rw [HE4.out]
              have HB9 := Lib.hid (HB8.out.trans (hb9.mono HB8.out.size))
              clear x0 x1 x2 xf p0 p1 pf hb9
              go_wp2_with fail
              refine (HAw.out _ HB9.out).mono ?_
              rintro e9 w10 ⟨rfl, hb10⟩
              go_wp2_with fail
              go_ret
              exact ⟨rfl, Below.on HB9.out hb10⟩
        · have hne : (e != 0) = true := by simpa using h0
          obtain ⟨-, rfl, rfl, rfl, rfl, rfl⟩ := HXX.out.resolve_right (fun h9 => h0 (HEE.out.trans h9.1))
          obtain ⟨x0, x1, x2, xf⟩ := HX7.out.cells
          clear h0 HXX HO2 hz0 hz4 hz5 hz6 hz7
          go_wp2_with fail
          refine (HNo.out _).mono ?_
          rintro e9 w8 ⟨rfl, hb8⟩
          have HB8 := Lib.hid (HB7.out.trans (hb8.mono HB7.out.size))
          clear x0 x1 x2 xf hb8
          go_wp2_with fail
          refine (HAw.out _ HB8.out).mono ?_
          rintro e9 w9 ⟨rfl, hb9⟩
          go_wp2_with fail
          go_ret
          exact ⟨rfl, Below.on HB8.out hb9⟩
      have KEY := Lib.hid key
      clear hK2 key
      by_cases h25 : 20 < t.size
      · have h25' : (20 : Int) < t.size := by omega
        have HR := Lib.hid (cutS_long h25)
        have HF : Hid (BoxQ w.heap.size b (cutS 25 r) k (cutS 20 s) j (cutS 20 t) n (w2.setCell ⟨w.heap.size, 5, none⟩ (.string (t.extract 0 20))) ∧ BoxA (w.heap.size + 1) a.k a.s (w2.setCell ⟨w.heap.size, 5, none⟩ (.string (t.extract 0 20))) ∧ Below w.heap.size w (w2.setCell ⟨w.heap.size, 5, none⟩ (.string (t.extract 0 20)))) :=
          ⟨by rw [HR.out]; exact hbq.set5 _, (Below.heap_setCell _ _ _ _ (by simp)).trans hba, hb0.setCell (p := ⟨w.heap.size, 5, none⟩) (Nat.le_refl _) _⟩
        clear hbq hba hb0
        go_wp2_with fail
        exact KEY.out _ _ _ _ _ _ _ _ _ _ _ _ HF.out.1 HF.out.2.1 HF.out.2.2 (by rw [size_setCell]; exact hz0)
      · have h25' : ¬ (20 : Int) < t.size := by omega
        have HR := Lib.hid (cutS_short h25)
        have HF : Hid (BoxQ w.heap.size b (cutS 25 r) k (cutS 20 s) j (cutS 20 t) n w2) := by rw [HR.out]; exact hbq
        have HBA := Lib.hid hba
        have HB0 := Lib.hid hb0
        clear hbq hba hb0
        go_wp2_with fail
        exact KEY.out _ _ _ _ _ _ _ _ _ _ _ _ HF.out HBA.out HB0.out hz0
    have KEY := Lib.hid key
    clear hK1 key
    by_cases h25 : 20 < s.size
    · have h25' : (20 : Int) < s.size := by omega
      have HR := Lib.hid (cutS_long h25)
      have HF : Hid (BoxQ w.heap.size b (cutS 25 r) k (cutS 20 s) j t n (w1.setCell ⟨w.heap.size, 3, none⟩ (.string (s.extract 0 20))) ∧ BoxA (w.heap.size + 1) a.k a.s (w1.setCell ⟨w.heap.size, 3, none⟩ (.string (s.extract 0 20))) ∧ Below w.heap.size w (w1.setCell ⟨w.heap.size, 3, none⟩ (.string (s.extract 0 20)))) :=
        ⟨by rw [HR.out]; exact hbq.set3 _, (Below.heap_setCell _ _ _ _ (by simp)).trans hba, hb0.setCell (p := ⟨w.heap.size, 3, none⟩) (Nat.le_refl _) _⟩
      clear hbq hba hb0
      go_wp2_with fail
      exact KEY.out _ _ _ _ _ _ _ _ _ _ _ _ HF.out.1 HF.out.2.1 HF.out.2.2 (by rw [size_setCell]; exact hz0)
    · have h25' : ¬ (20 : Int) < s.size := by omega
      have HR := Lib.hid (cutS_short h25)
      have HF : Hid (BoxQ w.heap.size b (cutS 25 r) k (cutS 20 s) j t n w1) := by rw [HR.out]; exact hbq
      have HBA := Lib.hid hba
      have HB0 := Lib.hid hb0
      clear hbq hba hb0
      go_wp2_with fail
      exact KEY.out _ _ _ _ _ _ _ _ _ _ _ _ HF.out HBA.out HB0.out hz0
  have KEY := Lib.hid key
  clear hK0 key
  by_cases h25 : 25 < r.size
  · have h25' : (25 : Int) < r.size := by omega
    have HR := Lib.hid (cutS_long h25)
    have HF : Hid (BoxQ w.heap.size b (cutS 25 r) k s j t n (w0.setCell ⟨w.heap.size, 1, none⟩ (.string (r.extract 0 25))) ∧ BoxA (w.heap.size + 1) a.k a.s (w0.setCell ⟨w.heap.size, 1, none⟩ (.string (r.extract 0 25))) ∧ Below w.heap.size w (w0.setCell ⟨w.heap.size, 1, none⟩ (.string (r.extract 0 25)))) :=
      ⟨by rw [HR.out]; exact hbq.set1 _, (Below.heap_setCell _ _ _ _ (by simp)).trans hba, hb0.setCell (p := ⟨w.heap.size, 1, none⟩) (Nat.le_refl _) _⟩
    clear hbq hba hb0
    go_wp2_with fail
    exact KEY.out _ _ _ _ _ _ _ _ _ HF.out.1 HF.out.2.1 HF.out.2.2 (by rw [size_setCell]; exact hz0)
  · have h25' : ¬ (25 : Int) < r.size := by omega
    have HR := Lib.hid (cutS_short h25)
    have HF : Hid (BoxQ w.heap.size b (cutS 25 r) k s j t n w0) := by rw [HR.out]; exact hbq
    have HBA := Lib.hid hba
    have HB0 := Lib.hid hb0
    clear hbq hba hb0
    go_wp2_with fail
    exact KEY.out _ _ _ _ _ _ _ _ _ HF.out HBA.out HB0.out hz0
end Go.Proofs.YtdhokgkihaiomaaDoor.Ent
