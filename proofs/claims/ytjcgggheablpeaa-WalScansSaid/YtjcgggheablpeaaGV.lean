/- 3 texts one behind the other: V1, V2, V3. -/
import Derived.Test.YtjcgggheablpeaaGW
import Derived.Test.YtjcgggheablpeaaW11
/- The program's Write of a disk on which nothing waits, whatever address that row has. Made of GE's text. -/
namespace Go.Proofs.Ytjcgggheablpeaa.Dis.Vx
open Go.RowKit Go.Shelf Dk
attribute [local go_sem] Oper.semAt_some

def RowW (w : World) (lo base : Nat) (v : Value) (n : Nat) (xs : List Value) : Prop :=
  w.ownsRow base 73 2 v n xs ∨ (∃ b o, v = .slice (some ⟨b, o, none⟩) n n ∧ b < lo ∧ lo ≤ base ∧ base ≤ w.heap.size ∧ xs.length = n * 2 ∧ ∀ j u, xs[j]? = some u → w.cell? ⟨b, o + j, none⟩ = some u) ∨ (n = 0 ∧ xs = [] ∧ ∃ A, v = .slice A 0 0)
theorem pend_of {w : World} {lo base b2 n c : Nat} {A : Option Addr} {xs : List Value} {W : Ws} (h : RowW w lo base (.slice A n c) n xs) (hr : RdW w b2 xs W) : Pend w w.heap.size A W := fun k hk => by
  obtain ⟨A2, c2, h1, h2, h3, h4, h5, h6, h7⟩ := hr.2 k hk
  rcases h with h | ⟨b, o, e, hb, hlb, hbs, hx, hc⟩ | ⟨_, hx0, _⟩
  · have hn : 0 < n := by
      rcases Nat.eq_zero_or_pos n with h0 | h0
      · have := h.1; rw [hr.1, h0] at this; omega
      · exact h0
    obtain ⟨g, cap, e, _, hg⟩ := h.form hn
    injection e with e1 e2 e3
    subst e1
    have k1 := h.cells (g := g) rfl _ _ h1
    have k2 := h.cells (g := g) rfl _ _ h2
    rw [Addr.add_lit] at k1 k2
    exact ⟨g, 0, A2, c2, rfl, hg, k1, k2, h3.octs, h4, h5, h6, h7⟩
  · injection e with e1 e2 e3
    subst e1
    exact ⟨b, o, A2, c2, rfl, by omega, hc _ _ h1, hc _ _ h2, h3.octs, h4, h5, h6, h7⟩
  · have := hr.1
    rw [hx0] at this
    simp only [List.length_nil] at this
    omega
theorem run_appW (w : World) (lo base : Nat) (v : Value) (n : Nat) (xs : List Value) (h : RowW w lo base v n xs) (g : Nat) (a : Int) (A : Option Addr) (k c : Nat) (h0 : w.cell? ⟨g, 0, none⟩ = some (.int .i64 a)) (h1 : w.cell? ⟨g, 1, none⟩ = some (.slice A k c))
    (hn : n ≤ 1000000) (hb : base ≤ w.heap.size) :
    ∃ v' w', (Builtin.append_ #[23, 23] 23 #[v, .slice (some ⟨g, 0, none⟩) 1 1]).run Try.prog w = .ok v' w' ∧ w'.ownsRow base 73 2 v' (n + 1) (xs ++ [.int .i64 a, .slice A k c]) ∧ KeepW base w w' ∧ Below base w w' ∧ ∀ (j : Nat) (ob : Obj), w.heap[j]? = some ob → ob.isCells = false → w'.heap[j]? = some ob := by
  obtain ⟨i0, hi, hz0, hz1, hz2⟩ := info_parts info40
  have hcells : ∀ j u, ([.int .i64 a, .slice A k c] : List Value)[j]? = some u → w.cell? ⟨g, 0 + j, none⟩ = some u := fun j u hu => by
    rw [Nat.zero_add]
    match j, hu with
    | 0, hu => rw [h0]; simpa using hu
    | 1, hu => rw [h1]; simpa using hu
    | j + 2, hu => simp at hu
  have key : w.ownsRow base 73 2 v n xs → ∃ v' w', (Builtin.append_ #[23, 23] 23 #[v, .slice (some ⟨g, 0, none⟩) 1 1]).run Try.prog w = .ok v' w' ∧ w'.ownsRow base 73 2 v' (n + 1) (xs ++ [.int .i64 a, .slice A k c]) ∧ KeepW base w w' ∧ Below base w w' ∧ ∀ (j : Nat) (ob : Obj), w.heap[j]? = some ob → ob.isCells = false → w'.heap[j]? = some ob := fun h => by
    obtain ⟨v', w', hr, h2, h3⟩ := run_app_own (P := Try.prog) w base 23 73 i0 _ 2 32 Try.underlying23 hi hz0 hz1 hz2 rfl (by decide) v n xs h (some ⟨g, 0, none⟩) 1 1 [.int .i64 a, .slice A k c] rfl (fun _ => ⟨g, 0, rfl, hcells⟩)
      (fun u hu => by simp at hu; rcases hu with rfl | rfl <;> rfl) (by simp only [maxLen]; omega) (by omega) hb
    refine ⟨v', w', hr, h2, ⟨h3.size, fun b hb' ht => h3.block b hb' (fun e => ?_)⟩, (Below.refl base w).grown h3 hb (fun g' e => (h.lt g' e).1), fun j ob hj hob => (h3.block j (Array.getElem?_eq_some_iff.1 hj).1 (fun e => ?_)).trans hj⟩
    rcases ht with ht | ⟨cs, ht⟩
    · have := (h.lt b e.symm).1; omega
    · rcases h.2 with ⟨rfl, _⟩ | ⟨g', cap, cur, rfl, _, hh, _⟩
      · simp [Value.ownBlock] at e
      · simp [Value.ownBlock] at e
        subst e
        rw [hh] at ht
        injection ht with ht
        injection ht with _ ht
        cases ht
    · rcases h.2 with ⟨rfl, _⟩ | ⟨g', cap, cur, rfl, _, hh, _⟩
      · simp [Value.ownBlock] at e
      · simp [Value.ownBlock] at e
        subst e
        rw [hh] at hj
        injection hj with hj
        subst hj
        cases hob
  rcases h with h | ⟨b, o, rfl, _, _, _, hx, hc⟩ | ⟨rfl, rfl, A0, rfl⟩
  · exact key h
  · obtain ⟨v', w', hr, h2, h3⟩ := run_app_full (P := Try.prog) w base 23 73 i0 _ 2 32 Try.underlying23 hi hz0 hz1 hz2 rfl b o n xs hx hc ⟨g, 0, none⟩ 1 1 [.int .i64 a, .slice A k c] rfl (fun j u hu => by rw [Addr.add_lit]; exact hcells j u hu) (by decide) (by simp only [maxLen]; omega) (by omega) hb
    exact ⟨v', w', hr, h2, ⟨h3.size, fun b hb' _ => h3.block b hb' (by simp)⟩, (Below.refl base w).grown h3 hb (fun g' e => by cases e), fun j ob hj _ => (h3.block j (Array.getElem?_eq_some_iff.1 hj).1 (by simp)).trans hj⟩
  · cases A0 with
    | none => exact key (World.ownsRow_nil w base 73 2)
    | some ad0 =>
      have hr := run_append_grow (P := Try.prog) w 23 23 73 i0 _ Try.underlying23 hi hz0 ad0 0 0 [] (by simp) (fun j u hu => by simp at hu) ⟨g, 0, none⟩ 1 1 [.int .i64 a, .slice A k c] (by rw [hz1]; rfl) (fun j u hu => by rw [Addr.add_lit]; exact hcells j u hu) (by omega) (by omega) (growslice_fits (by omega) (by rw [hz2]; omega))
      have hge := grownCap_ge w (0 + 1) 0 73
      have hcm : grownCap w (0 + 1) 0 73 ≤ maxLen := grownCap_le_maxLen w (0 + 1) 0 73 (by simp only [maxLen]; omega)
      refine ⟨_, _, hr, ⟨by simp, .inr ⟨w.heap.size, _, _, rfl, hb, heap_alloc_new w.drew _, hge, hcm, ?_, ?_⟩⟩, ⟨by simp, fun b hb' _ => Below.heap_alloc w.drew _ b hb'⟩, ?_, fun j ob hj _ => (Below.heap_alloc w.drew _ j (Array.getElem?_eq_some_iff.1 hj).1).trans hj⟩
      · simp only [Array.size_append, List.size_toArray, size_zeroCells]
        rw [show (Value.agg #[Value.int IntKind.i64 0, Value.slice none 0 0]).cells.size = 2 from rfl]
        simp only [List.length_nil, List.length_cons]
        omega
      · simp
      · exact (show Below base w w.drew from ⟨rfl, rfl, rfl, Nat.le_refl _, fun _ _ => rfl⟩).alloc hb _
theorem RowW.grown {lo base n : Nat} {v : Value} {xs : List Value} {W W' : World} {row : Option Nat} (h : RowW W lo base v n xs) (hg : W.grownBy W' row) (hr : ∀ r, row = some r → base ≤ r ∧ ∃ o : Obj, W.heap[r]? = some o ∧ o.isCells = false) : RowW W' lo base v n xs := by
  rcases h with h | ⟨b, o, e, hb, hlb, hbs, hx, hc⟩ | h
  · refine .inl (h.kept hg ?_)
    rcases h.2 with ⟨rfl, _⟩ | ⟨g, cap, cur, rfl, _, hh, _⟩
    · exact .inl rfl
    · refine .inr (fun e => ?_)
      obtain ⟨_, ob, ho, hc⟩ := hr g e.symm
      rw [hh] at ho
      injection ho with ho
      subst ho
      cases hc
  · exact .inr (.inl ⟨b, o, e, hb, hlb, Nat.le_trans hbs hg.size, hx, fun j u hu => (World.cell?_of_block (hg.block b (by omega) (fun e => by have := (hr b e.symm).1; omega))).trans (hc j u hu)⟩)
  · exact .inr (.inr h)
theorem RowW.below {lo base n : Nat} {v : Value} {xs : List Value} {W W' : World} (h : RowW W lo base v n xs) (hb : Below W.heap.size W W') : RowW W' lo base v n xs := by
  rcases h with h | ⟨b, o, e, hb1, hlb, hbs, hx, hc⟩ | h
  · exact .inl (h.kept (row := none) ⟨hb.os, hb.tape, hb.output, hb.size, fun k hk _ => hb.block k hk⟩ (by
      cases hv : v.ownBlock with
      | none => exact .inl rfl
      | some g => exact .inr (by simp)))
  · exact .inr (.inl ⟨b, o, e, hb1, hlb, Nat.le_trans hbs hb.size, hx, fun j u hu => (hb.cell (p := ⟨b, o + j, none⟩) (by simp only; omega)).trans (hc j u hu)⟩)
  · exact .inr (.inr h)
theorem RowW.box {lo base n : Nat} {v : Value} {xs : List Value} {W : World} (h : RowW W lo base v n xs) {p : Addr} (u : Value) (hp : lo ≤ p.block) (hp2 : p.block < base) : RowW (W.setCell p u) lo base v n xs := by
  rcases h with h | ⟨b, o, e, hb1, hlb, hbs, hx, hc⟩ | h
  · refine .inl (h.kept (row := some p.block) ⟨rfl, rfl, rfl, by simp, fun k _ hne => Below.heap_setCell W p u k (fun e => hne (by rw [e]))⟩ ?_)
    cases hv : v.ownBlock with
    | none => exact .inl rfl
    | some g => exact .inr (fun e => by
        injection e with e
        have := (h.lt g hv).1
        omega)
  · refine .inr (.inl ⟨b, o, e, hb1, hlb, by simpa using hbs, hx, fun j u' hu => (World.cell?_setCell_other W p _ u (fun e' => ?_)).trans (hc j u' hu)⟩)
    rw [e'] at hp
    simp only at hp
    omega
  · exact .inr (.inr h)
theorem RowW.st4 {lo base n : Nat} {v : Value} {xs : List Value} {W : World} (h : RowW W lo base v n xs) (r : Nat) (a b c d : Value) (hp : lo ≤ r) (hp2 : r < base) : RowW (st4 W r a b c d) lo base v n xs :=
  (((RowW.box h (p := ⟨r, 0, none⟩) a hp hp2) |> fun h => RowW.box h (p := ⟨r, 1, none⟩) b hp hp2) |> fun h => RowW.box h (p := ⟨r, 2, none⟩) c hp hp2) |> fun h => RowW.box h (p := ⟨r, 3, none⟩) d hp hp2
theorem row_start {w W0 : World} {A : Option Addr} {m : Nat} {W : Ws} {base : Nat} (h : Pend w w.heap.size A W) (hm : W.length = m) (hb : Below w.heap.size w W0) (hb1 : w.heap.size ≤ base) (hb2 : base ≤ W0.heap.size) :
    ∃ xs, RowW W0 w.heap.size base (.slice A m m) m xs ∧ RdW W0 w.heap.size xs W := by
  rcases Nat.eq_zero_or_pos m with h0 | h0
  · subst h0
    obtain rfl : W = [] := List.eq_nil_of_length_eq_zero hm
    exact ⟨[], .inr (.inr ⟨rfl, rfl, A, rfl⟩), rfl, fun k hk => by cases hk⟩
  · obtain ⟨b, o, A0, c0, e, hbl, _⟩ := h 0 (by omega)
    subst e
    have hcell : ∀ k, (hk : k < W.length) → ∃ A' c, w.cell? ⟨b, o + k * 2, none⟩ = some (.int .i64 W[k].1) ∧ w.cell? ⟨b, o + k * 2 + 1, none⟩ = some (.slice A' W[k].2.length c) ∧ Octs w w.heap.size A' W[k].2 ∧ W[k].2.length ≤ c ∧ W[k].2.length ≤ 140737488351232 ∧ -9223372036854775808 ≤ W[k].1 ∧ W[k].1 ≤ 9223372036854775807 := fun k hk => by
      obtain ⟨b', o', A', c, e, _, hc⟩ := h k hk
      injection e with e
      injection e with e1 e2
      subst e1
      subst e2
      exact ⟨A', c, hc⟩
    have hget : ∀ j, j < m * 2 → ((List.range (m * 2)).map (fun j => (w.cell? ⟨b, o + j, none⟩).getD undef))[j]? = some ((w.cell? ⟨b, o + j, none⟩).getD undef) := fun j hj => by
      rw [List.getElem?_map, List.getElem?_eq_getElem (by simpa using hj), List.getElem_range]; rfl
    have hsome : ∀ j, j < m * 2 → ∃ u, w.cell? ⟨b, o + j, none⟩ = some u := fun j hj => by
      obtain ⟨A', c, h1, h2, _⟩ := hcell (j / 2) (by omega)
      rcases Nat.mod_two_eq_zero_or_one j with h3 | h3
      · exact ⟨_, by rw [show o + j = o + j / 2 * 2 by omega]; exact h1⟩
      · exact ⟨_, by rw [show o + j = o + j / 2 * 2 + 1 by omega]; exact h2⟩
    refine ⟨(List.range (m * 2)).map (fun j => (w.cell? ⟨b, o + j, none⟩).getD undef), .inr (.inl ⟨b, o, rfl, hbl, hb1, hb2, by simp, fun j u hu => ?_⟩), by simp [hm], fun k hk => ?_⟩
    · have hj : j < m * 2 := by
        rcases Nat.lt_or_ge j (m * 2) with h | h
        · exact h
        · rw [List.getElem?_eq_none (by simpa using h)] at hu; cases hu
      rw [hget j hj] at hu
      obtain ⟨x, hx⟩ := hsome j hj
      rw [hx] at hu
      refine (hb.cell (p := ⟨b, o + j, none⟩) hbl).trans ?_
      rw [hx]
      simpa using hu
    · obtain ⟨A', c, h1, h2, h3, h4⟩ := hcell k hk
      refine ⟨A', c, ?_, ?_, ?_, h4⟩
      · rw [hget _ (by omega), h1]; rfl
      · rw [hget _ (by omega), show o + (k * 2 + 1) = o + k * 2 + 1 by omega, h2]; rfl
      · exact (h3.below hb (Nat.le_refl _)).toW (Nat.le_refl _) hb.size
def APo (w : World) (base q : Nat) (V : World) (v0 v1 v2 v3 : Value) (i : Int) (mk : Nat) (Wd : Ws) (a : Act) (w' : World) : Prop :=
  a.defers = [] ∧ a.tmps.size = 62 ∧ a.eval (.tmp 3) = .pointer (some ⟨w.heap.size, 0, none⟩) ∧ a.eval (.tmp 4) = .pointer (some ⟨w.heap.size + 1, 0, none⟩) ∧
  ∃ A3 c3 xs, a.eval (.tmp 57) = .slice A3 mk c3 ∧ RowW w' w.heap.size base (.slice A3 mk c3) mk xs ∧ RdW w' w.heap.size xs Wd ∧ B4 w v0 v1 v2 v3 i w' ∧ Stp base q V w' ∧ base ≤ w'.heap.size
def FPo (w : World) (base q : Nat) (V : World) (v0 v2 v3 : Value) (i : Int) (mk : Nat) (Wd : Ws) (a : Act) (w' : World) : Prop :=
  a.defers = [] ∧ a.tmps.size = 62 ∧ a.eval (.tmp 4) = .pointer (some ⟨w.heap.size + 1, 0, none⟩) ∧
  ∃ A3 c3 xs, RowW w' w.heap.size base (.slice A3 mk c3) mk xs ∧ RdW w' w.heap.size xs Wd ∧ B4 w v0 (.slice A3 mk c3) v2 v3 i w' ∧ Stp base q V w' ∧ base ≤ w'.heap.size
structure WI (w0 : World) (base : Nat) (A : Option Addr) (n c m : Nat) (W : Ws) (L : Int) (O : Bool) (i : Int) (l : List UInt8) (ks : List Nat) (w : World) : Prop where
  ex : ∃ A1 c1 xs, B4 w0 (.slice A n c) (.slice A1 (m + ks.length) c1) (.int .i64 (lft L ks.length)) (.bool O) (i + ks.length) w ∧ RowW w w0.heap.size base (.slice A1 (m + ks.length) c1) (m + ks.length) xs ∧ RdW w w0.heap.size xs (W ++ wsA i (ks.map (chunk l))) ∧ (m + ks.length = 0 → True)
  on : ks = [] ∨ O = false
  bud : L < 0 ∨ (ks.length : Int) ≤ L
  hi : base ≤ w.heap.size
structure WR (w0 : World) (base : Nat) (A : Option Addr) (n c m : Nat) (W : Ws) (L : Int) (O : Bool) (i : Int) (l : List UInt8) (ks : List Nat) (w : World) : Prop where
  ex : ∃ A1 c1 xs, w.heap[w0.heap.size + 1 + 1]? = some (.cells #[.slice A n c, .slice A1 (m + ks.length) c1, .int .i64 (lft L ks.length), .bool true] 25 (0, 0)) ∧ w.heap[w0.heap.size + 1 + 1 + 1]? = some (.cells #[.int .i64 10] 33 (0, 0)) ∧
    Below w0.heap.size w0 w ∧ RowW w w0.heap.size base (.slice A1 (m + ks.length) c1) (m + ks.length) xs ∧ RdW w w0.heap.size xs (W ++ wsA i (ks.map (chunk l))) ∧ (m + ks.length = 0 → True)
  why : (O = true ∧ ks = []) ∨ (O = false ∧ L = ks.length)
theorem wi_own (w0 : World) (base : Nat) (A : Option Addr) (n c m : Nat) (W : Ws) (L : Int) (O : Bool) (i : Int) (l : List UInt8) {N : Nat} (hlo : w0.heap.size ≤ base) : OwnFrom base (fun (pre : List (Ch N)) w => WI w0 base A n c m W L O i l (nums pre) w) := fun s V V' row hs hg hr => by
  obtain ⟨A1, c1, xs, hB, hrow, hrd, hnz⟩ := hs.ex
  exact ⟨⟨A1, c1, xs, hB.grown hlo hg hr, hrow.grown hg hr, hrd.keep ((keepW_grown hg hr).mono hlo), hnz⟩, hs.on, hs.bud, Nat.le_trans hs.hi hg.size⟩
theorem wr_own (w0 : World) (base : Nat) (A : Option Addr) (n c m : Nat) (W : Ws) (L : Int) (O : Bool) (i : Int) (l : List UInt8) {N : Nat} (hlo : w0.heap.size ≤ base) (cd : Code) : OwnFrom base (fun (pre : List (Ch N)) w => cd = .ret ∧ ∃ ks x, nums pre = ks ++ [x] ∧ WR w0 base A n c m W L O i l ks w) := fun s V V' row hs hg hr => by
  obtain ⟨e, ks, x, hks, hw⟩ := hs
  obtain ⟨A1, c1, xs, hR, hE, hb, hrow, hrd, hnz⟩ := hw.ex
  exact ⟨e, ks, x, hks, ⟨A1, c1, xs, grown_cells hg (fun r e => (hr r e).2) hR, grown_cells hg (fun r e => (hr r e).2) hE, hb.grown hg hb.size (fun r e => by have := (hr r e).1; omega), hrow.grown hg hr, hrd.keep ((keepW_grown hg hr).mono hlo), hnz⟩, hw.why⟩
def WPost (A : Option Addr) (n c m : Nat) (S : List (List UInt8)) (W : Ws) (L : Int) (O : Bool) (i : Int) (l : List UInt8) (N : Nat) (w : World) (e : Ending) (w' : World) : Prop :=
  ∃ k A1 c1, Dsk w' A n c A1 (m + k) c1 S (W ++ wsA i (chunks l k)) ∧ Below w.heap.size w w' ∧ (m + k = 0 → True) ∧
    ((k = N ∧ O = false ∧ (L < 0 ∨ (N : Int) ≤ L) ∧ e = .returned (.tuple #[dv A n c A1 (m + k) c1 (lft L k) false, .int .i64 0])) ∨
     (k < N ∧ ((O = true ∧ k = 0) ∨ (O = false ∧ L = k)) ∧ e = .returned (.tuple #[dv A n c A1 (m + k) c1 (lft L k) true, .int .i64 10])))
theorem roww_le {w : World} {lo base n c : Nat} {A : Option Addr} {xs : List Value} (h : RowW w lo base (.slice A n c) n xs) : n ≤ c := by
  rcases h with h | ⟨b, o, e, _⟩ | ⟨rfl, _⟩
  · rcases h.2 with ⟨e, h0⟩ | ⟨g, cap, cur, e, _, _, hc, _⟩
    · omega
    · injection e with _ _ e3; omega
  · injection e with _ _ e3; omega
  · exact Nat.zero_le _
theorem wfin {w F : World} {A A1 A' : Option Addr} {n c c1 m c' k lo base : Nat} {S : List (List UInt8)} {W Wd : Ws} {xs : List Value} (H : Dsk w A n c A' m c' S W) (hb : Below w.heap.size w F) (hrow : RowW F lo base (.slice A1 k c1) k xs) (hrd : RdW F lo xs Wd) (hl : Wd.length = k) : Dsk F A n c A1 k c1 S Wd :=
  ⟨(H.s.below hb (Nat.le_refl _)).more hb.size, pend_of hrow hrd, H.hn, hl, H.hc, roww_le hrow⟩
set_option maxRecDepth 100000 in
set_option maxHeartbeats 4000000 in
theorem write_any (A : Option Addr) (n c : Nat) (A' : Option Addr) (m c' : Nat) (S : List (List UInt8)) (W : Ws) (L : Int) (O : Bool) (bb bo cb N : Nat) (l : List UInt8) (i : Int) (w : World) (h : Dsk w A n c A' m c' S W) (hy : may S W L = true) (hm : m ≤ 100000)
    (hN : 1 ≤ N) (hN2 : N ≤ 4096) (hl : l.length = 64 * N) (ho : Octs w w.heap.size (some ⟨bb, bo, none⟩) l) (hcb : l.length ≤ cb) (hcb2 : cb ≤ 9223372036854775807) (hL2 : L ≤ 9223372036854775807) (hth : thereB n i N = true) (hi : -9223372036854775808 ≤ i) (hi2 : i ≤ 9223372036854775807) :
    Calls Try.prog 58 #[dv A n c A' m c' L O, .int .i64 i, .slice (some ⟨bb, bo, none⟩) l.length cb] w (WPost A n c m S W L O i l N w) := by
  have hn : n ≤ 4096 := by have := (may_iff S W L).1 hy; rw [h.hn] at this; exact this.2.1
  have hm2 : m ≤ 2305843009213693952 := by omega
  have hmc := h.hc'
  have X0 := Lib.hid (B4.new w (.slice A n c) (.slice A' m c') (.int .i64 L) (.bool O) i)
  have H := Lib.hid h
  have HY := Lib.hid hy
  have HO := Lib.hid ho
  have HTH := Lib.hid hth
  have hir : 0 ≤ i ∧ i + N ≤ 4096 := by
    unfold thereB at hth
    simp only [Bool.and_eq_true, decide_eq_true_eq] at hth
    omega
  obtain ⟨len, hlen⟩ : ∃ len, len = l.length := ⟨_, rfl⟩
  rw [← hlen] at hcb ⊢
  have HLEN : Hid (len = 64 * N) := hlen.trans hl
  have HLL : Hid (l.length = len) := hlen.symm
  have hlen2 : len ≤ 262144 := by have := HLEN.out; omega
  have t1 : ((len : Int) == 0) = false := by simp; have := HLEN.out; omega
  have t2 : ((len : Int) % 64 != 0) = false := by have := HLEN.out; simp; omega
  have t3 : Hid ((len : Int) / 64 = N) := by have := HLEN.out; show _ = _; omega
  clear h hy ho hth hlen hl
  refine (callsIn_wide (n := 3)).1 ?_
  refine callsIn_of_wp_marks Try.func58 rfl trivial ?_ rfl
  simp only [Try.ntmps58, List.size_toArray, List.length_cons, List.length_nil, Nat.reduceAdd, Nat.reduceSub, Array.replicate_succ, Array.replicate_zero, List.push_toArray, List.append_toArray, List.nil_append, List.cons_append]
  gi_wp2_with fail
  obtain ⟨w0, hw0⟩ : ∃ w0, w0 = ((((w.alloc (.cells #[.slice A n c, .slice A' m c', .int .i64 L, .bool O] 25)).alloc (.cells #[.int .i64 i] 3)).alloc (.cells #[.slice none 0 0, .slice none 0 0, .int .i64 0, .bool false] 25)).alloc (.cells #[.int .i64 0] 33)) := ⟨_, rfl⟩
  rw [← hw0] at X0 ⊢
  clear hw0
  refine ⟨trivial, (callsIn_wide.2 ((H.out.below X0.out.b).may L O (by omega) hm2)).mono ?_⟩
  rintro e w1 ⟨rfl, hb1⟩
  rw [HY.out]
  have X1 := Lib.hid (X0.out.below hb1)
  clear hb1
  obtain ⟨k0, k1, k2, k3, kf⟩ := cells_of4 X1.out.d
  obtain ⟨i0, jf⟩ := cell_of1 X1.out.i_
  gi_wp2_with fail
  rw [t3.out]
  clear k0 k1 k2 k3 kf i0 jf
  refine ⟨trivial, (callsIn_wide.2 (there_any A n c A' m c' L O i N _ (by omega) hi hi2)).mono ?_⟩
  rintro e w2 ⟨rfl, hb2⟩
  rw [HTH.out]
  have X2 := Lib.hid (X1.out.below hb2)
  clear hb2
  obtain ⟨k0, k1, k2, k3, kf⟩ := cells_of4 X2.out.d
  gi_wp2_with fail
  clear k0 k1 k2 k3 kf
  have X3 := Lib.hid (X2.out.set1 (.slice A' m m))
  obtain ⟨w3, hw3⟩ : ∃ w3, w3 = w2.setCell ⟨w.heap.size, 1, none⟩ (.slice A' m m) := ⟨_, rfl⟩
  rw [← hw3] at X3 ⊢
  clear hw3
  refine ⟨trivial, (callsIn_wide.2 (chunk_any _ _ _ _)).mono ?_⟩
  rintro e w4 ⟨rfl, hw4⟩
  have X4 : Hid (B4 w (.slice A n c) (.slice A' m m) (.int .i64 L) (.bool O) i w4) := by
    rw [← hw4]
    exact X3.out.below (below2 _ _ _)
  have C0 : Hid (w4.heap[w3.heap.size]? = some (.cells #[.slice (some ⟨bb, bo, none⟩) len cb] 28 (0, 0))) := by
    show _ = _
    rw [← hw4, Below.heap_alloc _ _ _ (by simp)]; exact heap_alloc_new _ _
  have C1 : Hid (w4.heap[w3.heap.size + 1]? = some (.cells #[.int .i64 64] 3 (0, 0))) := by
    show _ = _
    rw [← hw4]
    have := heap_alloc_new (w3.alloc (.cells #[.slice (some ⟨bb, bo, none⟩) len cb] 28)) (.cells #[.int .i64 64] 3)
    simpa using this
  have hq : w3.heap.size + 2 = w4.heap.size := by rw [← hw4]; simp
  have hq3 := X3.out.hi
  obtain ⟨q, hqq⟩ : ∃ q, q = w3.heap.size := ⟨_, rfl⟩
  rw [← hqq] at C0 C1 hq hq3 ⊢
  clear hw4 hqq
  gi_wp2_with fail
  have hbase : q + 2 = w4.heap.size := hq
  have hlo : w.heap.size ≤ w4.heap.size := X4.out.b.size
  have HI0 : Hid (WI w w4.heap.size A n c m W L O i l (nums ([] : List (Ch N))) w4) := by
    obtain ⟨xs, hr1, hr2⟩ := row_start (base := w4.heap.size) H.out.w_ H.out.hm X4.out.b hlo (Nat.le_refl _)
    exact ⟨⟨A', m, xs, by simpa [nums, lft_zero] using X4.out, by simpa [nums] using hr1, by simpa [nums, wsA] using hr2, fun _ => trivial⟩, .inl rfl, by have := ((may_iff S W L).1 HY.out).2.2.1; simp [nums]; omega, Nat.le_refl _⟩
  obtain ⟨base, hbs⟩ : ∃ base, base = w4.heap.size := ⟨_, rfl⟩
  refine wpIn_rangeFunc_ownG rfl (by omega) (gf := 83) (lb := #[.pointer (some ⟨q, 0, none⟩), .pointer (some ⟨q + 1, 0, none⟩)]) rfl trivial (enters_of Try.func83 (by kernel_rfl) rfl)
    (chunk_stops 2 q bb bo N cb len (by omega) HLEN.out (by omega) hcb hcb2 w4 (by omega) C0.out C1.out) kq_t (kq_b (by omega)) (Below.refl _ _) (fun _ => rfl)
    (fun pre V => WI w w4.heap.size A n c m W L O i l (nums pre) V) (fun cd pre V => cd = .ret ∧ ∃ ks x, nums pre = ks ++ [x] ∧ WR w w4.heap.size A n c m W L O i l ks V)
    (wi_own w w4.heap.size A n c m W L O i l hlo) (fun cd => wr_own w w4.heap.size A n c m W L O i l hlo cd) HI0.out
    (fun x => { tmps := #[dv A n c A' m c' L O, .int .i64 i, .slice (some ⟨bb, bo, none⟩) len cb, .pointer (some ⟨w.heap.size, 0, none⟩), .pointer (some ⟨w.heap.size + 1, 0, none⟩), undef, .pointer (some ⟨w.heap.size + 1 + 1, 0, none⟩), .pointer (some ⟨w.heap.size + 1 + 1 + 1, 0, none⟩), chv bb bo x, .agg #[.slice A n c, .slice A' m c', .int .i64 L, .bool O], .bool true, .bool false, .bool false, .slice (some ⟨bb, bo, none⟩) len cb, .int .i64 len, .bool false, .bool false, .bool false, .slice (some ⟨bb, bo, none⟩) len cb, .int .i64 len, .int .i64 ((len : Int) % 64), .bool false, .bool false, undef, .agg #[.slice A n c, .slice A' m c', .int .i64 L, .bool O], .int .i64 i, .slice (some ⟨bb, bo, none⟩) len cb, .int .i64 len, .int .i64 N, .bool true, .bool false, undef, .pointer (some ⟨w.heap.size, 1, none⟩), .slice A' m c', .pointer (some ⟨w.heap.size, 1, none⟩), .slice A' m c', .int .i64 m, .pointer (some ⟨w.heap.size, 1, none⟩), .slice A' m c', .int .i64 m, .slice A' m m, .pointer (some ⟨w.heap.size, 1, none⟩), .slice (some ⟨bb, bo, none⟩) len cb, .func (.func 83) #[] #[.pointer (some ⟨q, 0, none⟩), .pointer (some ⟨q + 1, 0, none⟩)], chv bb bo x, undef, undef, undef, undef, undef, undef, undef, undef, undef, undef, undef, undef, undef, undef, undef, undef, undef], defers := [] }) ?assign ?body ?done ?stop
  case assign =>
    intro l' x V K hK
    gi_wp2
    exact hK
  case body =>
    rintro l' pre x V hI hlen
    obtain ⟨A1, c1, xs, hB, hrow, hrd, hnz⟩ := hI.ex
    have hxs : 64 * x.1 + 64 ≤ l.length := by have := HLL.out; have := HLEN.out; have := x.2; omega
    have hOC : Hid (Octs V V.heap.size (some ⟨bb, bo + 64 * x.1, none⟩) (chunk l x.1)) := octs_chunk ((HO.out.below hB.b (Nat.le_refl _)).more hB.b.size) hxs
    have hCL := Lib.hid (chunk_len l x.1 hxs)
    have hkl : (nums pre).length < N := by rw [nums_len]; exact hlen
    obtain ⟨ks, hks⟩ : ∃ ks, ks = nums pre := ⟨_, rfl⟩
    have HKS : Hid (nums (pre ++ [x]) = ks ++ [x.1]) := by show _ = _; rw [nums_snoc, hks]
    have HON := Lib.hid hI.on
    have HBUD := Lib.hid hI.bud
    have hVb := hI.hi
    rw [← hks] at hB hrow hrd hnz hkl HON HBUD
    obtain ⟨k, hk⟩ : ∃ k, k = ks.length := ⟨_, rfl⟩
    rw [← hk] at hB hrow hnz hkl HBUD
    have HKL := Lib.hid hk
    have HB := Lib.hid hB
    have HROW := Lib.hid hrow
    have HRD := Lib.hid hrd
    have HNZ := Lib.hid hnz
    have hVs := hB.hi
    obtain ⟨L', hL'⟩ : ∃ L', L' = lft L k := ⟨_, rfl⟩
    rw [← hL'] at HB
    have HL' := Lib.hid hL'
    have hL2' : L' ≤ 9223372036854775807 := by have := (lft_range (k := k) ((may_iff S W L).1 HY.out).2.2.1 hL2 HBUD.out).1; rw [hL']; exact this
    clear hI hB hrow hrd hnz hks hk hL' hxs
    by_cases hoff : O = true ∨ L' = 0
    · have HSP : Hid (spO L' O = true ∧ spL L' O = L') := by
        rcases hoff with h | h
        · subst h; exact ⟨(spend_off L').2, (spend_off L').1⟩
        · subst h; exact ⟨(spend_eq0 O).2, (spend_eq0 O).1⟩
      have HOFF := Lib.hid hoff
      clear hoff
      obtain ⟨k0, k1, k2, k3, kf⟩ := cells_of4 HB.out.d
      gi_wp2_with fail
      refine ⟨trivial, (CallsIn.inRound l' (callsIn_wide.2 (spend_any A n c A1 (m + k) c1 L' O V hL2'))).mono ?_⟩
      rintro e V1 ⟨rfl, hb1⟩
      rw [HSP.out.1, HSP.out.2]
      clear k0 k1 k2 k3 kf
      have HB1 := Lib.hid (HB.out.below hb1)
      have HROW1 := Lib.hid (HROW.out.below hb1)
      have HRD1 := Lib.hid (HRD.out.keep (keepW_below hb1))
      have HST := Lib.hid (Stp.below (base := w4.heap.size) (q := q) hb1 (by omega))
      clear hb1
      obtain ⟨k0, k1, k2, k3, kf⟩ := cells_of4 HB1.out.d
      obtain ⟨r0, r1, r2, r3, rf⟩ := cells_of4 HB1.out.r_
      obtain ⟨e0, ef⟩ := cell_of1 HB1.out.e_
      gi_wp2_with fail
      obtain ⟨E, hE⟩ : ∃ E, E = (st4 (st4 V1 w.heap.size (.slice A n c) (.slice A1 (m + k) c1) (.int .i64 L') (.bool true)) (w.heap.size + 1 + 1) (.slice A n c) (.slice A1 (m + k) c1) (.int .i64 L') (.bool true)).setCell ⟨w.heap.size + 1 + 1 + 1, 0, none⟩ (.int .i64 10) := ⟨_, rfl⟩
      have hE' := hE
      unfold st4 at hE'
      rw [← hE']
      clear hE' k0 k1 k2 k3 kf r0 r1 r2 r3 rf e0 ef
      have d2 := (st4_far V1 (r := w.heap.size) (k := w.heap.size + 1 + 1) (.slice A n c) (.slice A1 (m + k) c1) (.int .i64 L') (.bool true) (by omega)).trans HB1.out.r_
      have d3 := (st4_far V1 (r := w.heap.size) (k := w.heap.size + 1 + 1 + 1) (.slice A n c) (.slice A1 (m + k) c1) (.int .i64 L') (.bool true) (by omega)).trans HB1.out.e_
      have d4 := (st4_far _ (r := w.heap.size + 1 + 1) (k := w.heap.size + 1 + 1 + 1) (.slice A n c) (.slice A1 (m + k) c1) (.int .i64 L') (.bool true) (by omega)).trans d3
      have g1 : E.heap[w.heap.size + 1 + 1]? = some (.cells #[.slice A n c, .slice A1 (m + k) c1, .int .i64 L', .bool true] 25 (0, 0)) := by
        rw [hE, Below.heap_setCell _ _ _ _ (by simp)]; exact st4_at d2 _ _ _ _
      have g2 : E.heap[w.heap.size + 1 + 1 + 1]? = some (.cells #[.int .i64 10] 33 (0, 0)) := by
        rw [hE]
        generalize st4 (st4 V1 w.heap.size (.slice A n c) (.slice A1 (m + k) c1) (.int .i64 L') (.bool true)) (w.heap.size + 1 + 1) (.slice A n c) (.slice A1 (m + k) c1) (.int .i64 L') (.bool true) = X at d4
        simp [World.setCell, Array.getElem?_modify, d4]
      have g3 : Below w.heap.size w E := by
        rw [hE]
        exact (st4_below (st4_below HB1.out.b (Nat.le_refl _) _ _ _ _) (by omega) _ _ _ _).setCell (by simp only; omega) _
      have g4 : RowW E w.heap.size w4.heap.size (.slice A1 (m + k) c1) (m + k) xs := by
        rw [hE]
        exact ((HROW1.out.st4 _ _ _ _ _ (by omega) (by omega)).st4 _ _ _ _ _ (by omega) (by omega)).box _ (by simp only; omega) (by simp only; omega)
      have g5 : RdW E w.heap.size xs (W ++ wsA i (ks.map (chunk l))) := by
        rw [hE]
        exact HRD1.out.keep (((keepW_st4 V1 _ _ _ _ _ HB1.out.d (by decide) (by omega)).trans (keepW_st4 _ _ _ _ _ _ d2 (by decide) (by omega))).trans (keepW_set _ ⟨w.heap.size + 1 + 1 + 1, 0, none⟩ _ d4 (by decide) (by simp only; omega)))
      have g6 : Stp w4.heap.size q V E := by
        rw [hE]
        exact ((HST.out.trans (Stp.st4 V1 _ _ _ _ _ (by omega))).trans (Stp.st4 _ _ _ _ _ _ (by omega))).trans (Stp.set _ _ _ (by simp only; omega))
      refine ⟨g6.k, rfl, ks, x.1, HKS.out, ⟨A1, c1, xs, ?_, g2, g3, ?_, g5, ?_⟩, ?_⟩
      · rw [← HKL.out, ← HL'.out]; exact g1
      · rw [← HKL.out]; exact g4
      · rw [← HKL.out]; exact HNZ.out
      · rcases HON.out with h | h
        · have hk0 : k = 0 := by rw [HKL.out, h]; rfl
          rcases HOFF.out with ho | ho
          · exact .inl ⟨ho, h⟩
          · cases O with
            | true => exact .inl ⟨rfl, h⟩
            | false =>
              refine .inr ⟨rfl, ?_⟩
              rw [HL'.out, hk0, lft_zero] at ho
              rw [← HKL.out, hk0, ho]; rfl
        · refine .inr ⟨h, ?_⟩
          rw [← HKL.out]
          rcases HOFF.out with ho | ho
          · rw [h] at ho; cases ho
          · rw [HL'.out] at ho
            unfold lft at ho
            by_cases hneg : L < 0
            · rw [if_pos hneg] at ho; omega
            · rw [if_neg hneg] at ho; omega
    · have hOf : O = false := by
        cases O with
        | false => rfl
        | true => exact absurd (.inl rfl) hoff
      have hL0 : L' ≠ 0 := fun h => hoff (.inr h)
      have HNX : Hid (spL L' false = lft L (k + 1) ∧ spO L' false = false ∧ (L < 0 ∨ ((k + 1 : Nat) : Int) ≤ L)) := by
        rw [HL'.out] at hL0 ⊢
        exact lft_next hL0 HBUD.out
      subst hOf
      obtain ⟨L2, hL2e⟩ : ∃ L2, L2 = lft L (k + 1) := ⟨_, rfl⟩
      rw [← hL2e] at HNX
      have HL2 := Lib.hid hL2e
      clear hoff hL0 hL2e
      obtain ⟨k0, k1, k2, k3, kf⟩ := cells_of4 HB.out.d
      gi_wp2_with fail
      refine ⟨trivial, (CallsIn.inRound l' (callsIn_wide.2 (spend_any A n c A1 (m + k) c1 L' false V hL2'))).mono ?_⟩
      rintro e V1 ⟨rfl, hb1⟩
      rw [HNX.out.1, HNX.out.2.1]
      clear k0 k1 k2 k3 kf
      have HB1 := Lib.hid (HB.out.below hb1)
      have HROW1 := Lib.hid (HROW.out.below hb1)
      have HRD1 := Lib.hid (HRD.out.keep (keepW_below hb1))
      have HST := Lib.hid (Stp.below (base := w4.heap.size) (q := q) hb1 (by omega))
      have HOC1 := Lib.hid ((hOC.out.below hb1 (Nat.le_refl _)).more hb1.size)
      have hV1 := hb1.size
      clear hb1
      obtain ⟨k0, k1, k2, k3, kf⟩ := cells_of4 HB1.out.d
      gi_wp2_with fail
      clear k0 k1 k2 k3 kf
      have X2 := Lib.hid (HB1.out.st (.slice A n c) (.slice A1 (m + k) c1) (.int .i64 L2) (.bool false))
      have R2 : Hid (RowW (st4 V1 w.heap.size (.slice A n c) (.slice A1 (m + k) c1) (.int .i64 L2) (.bool false)) w.heap.size w4.heap.size (.slice A1 (m + k) c1) (m + k) xs) := HROW1.out.st4 _ _ _ _ _ (by omega) (by omega)
      have KW2 := keepW_st4 (base := w.heap.size) V1 w.heap.size (.slice A n c) (.slice A1 (m + k) c1) (.int .i64 L2) (.bool false) HB1.out.d (by decide) (Nat.le_refl _)
      have D2 := Lib.hid (HRD1.out.keep KW2)
      have O2 : Hid (OctsW (st4 V1 w.heap.size (.slice A n c) (.slice A1 (m + k) c1) (.int .i64 L2) (.bool false)) w.heap.size (some ⟨bb, bo + 64 * x.1, none⟩) (chunk l x.1)) := by
        have h0 := (octs_chunk HO.out (k := x.1) (by have := HLL.out; have := HLEN.out; have := x.2; omega)).toW (Nat.le_refl _) (Nat.le_refl _)
        exact ((h0.keep (keepW_below HB1.out.b)).keep KW2)
      have S2 := Lib.hid (HST.out.trans (Stp.st4 V1 w.heap.size (.slice A n c) (.slice A1 (m + k) c1) (.int .i64 L2) (.bool false) (by omega)))
      have z2 : (st4 V1 w.heap.size (.slice A n c) (.slice A1 (m + k) c1) (.int .i64 L2) (.bool false)).heap.size = V1.heap.size := st4_size _ _ _ _ _ _
      obtain ⟨V2, hV2⟩ : ∃ V2, V2 = st4 V1 w.heap.size (.slice A n c) (.slice A1 (m + k) c1) (.int .i64 L2) (.bool false) := ⟨_, rfl⟩
      rw [← hV2] at X2 R2 D2 O2 S2 z2
      unfold st4 at hV2
      rw [← hV2]
      have hWd : Hid ((W ++ wsA i (ks.map (chunk l))) ++ [(i + k, chunk l x.1)] = W ++ wsA i ((ks ++ [x.1]).map (chunk l))) := by
        show _ = _
        rw [List.map_append, List.map_singleton, wsA_snoc, List.length_map, ← HKL.out, List.append_assoc]
      obtain ⟨Wd, hWde⟩ : ∃ Wd, Wd = W ++ wsA i ((ks ++ [x.1]).map (chunk l)) := ⟨_, rfl⟩
      rw [← hWde] at hWd
      have HWE := Lib.hid hWde
      clear hWde
      clear hV2 KW2 HB1 HROW1 HRD1 HST
      have hmk : m + k ≤ 1000000 := by omega
      have hsz2 : w4.heap.size ≤ V2.heap.size := by omega
      refine wpIn_region_app (t8 := 58) (by kernel_rfl) (Phi [.val (.pointer (some ⟨w.heap.size, 1, none⟩)), .val (.slice A1 (m + k) c1), .val (.int .i64 (i + k)), .val (chv bb bo x), lfC w.heap.size (chunk l x.1), lfA w.heap.size (i + k) (chunk l x.1), lfS w.heap.size (i + k) (chunk l x.1), ⟨fun _ _ => True, fun _ _ _ _ _ => trivial⟩, .val (.pointer (some ⟨w.heap.size, 1, none⟩))]) (phi_stab _) (by kernel_rfl) rfl (noDefer_spec (by kernel_rfl)) (backs_spec (by kernel_rfl))
        (APo w w4.heap.size q V (.slice A n c) (.slice A1 (m + k) c1) (.int .i64 L2) (.bool false) (i + k) (m + k + 1) Wd) (FPo w w4.heap.size q V (.slice A n c) (.int .i64 L2) (.bool false) (i + k) (m + k + 1) Wd) (.pointer (some ⟨w.heap.size, 1, none⟩)) ?h7 ?h7' ?h9 ?step ?app ?step8 ?last ?fin
      case h7 =>
        intro listed hc h j hj
        have l6 := hc.2 7 _ rfl h ⟨6, .data⟩ (by simp) rfl
        have l1 := hc.2 7 _ rfl h ⟨1, .data⟩ (by simp) rfl
        have l5 := hc.2 6 _ rfl l6 ⟨5, .data⟩ (by simp) rfl
        have l4 := hc.2 5 _ rfl l5 ⟨4, .data⟩ (by simp) rfl
        have l2 := hc.2 5 _ rfl l5 ⟨2, .data⟩ (by simp) rfl
        have l3 := hc.2 4 _ rfl l4 ⟨3, .data⟩ (by simp) rfl
        have l0 := hc.2 1 _ rfl l1 ⟨0, .data⟩ (by simp) rfl
        have hjj : j = 0 ∨ j = 1 ∨ j = 2 ∨ j = 3 ∨ j = 4 ∨ j = 5 ∨ j = 6 := by omega
        rcases hjj with rfl | rfl | rfl | rfl | rfl | rfl | rfl <;> assumption
      case h7' =>
        intro listed hc h j hj
        have l6 := h _ rfl ⟨6, .data⟩ (by simp) rfl
        have l1 := h _ rfl ⟨1, .data⟩ (by simp) rfl
        have l5 := hc.2 6 _ rfl l6 ⟨5, .data⟩ (by simp) rfl
        have l4 := hc.2 5 _ rfl l5 ⟨4, .data⟩ (by simp) rfl
        have l2 := hc.2 5 _ rfl l5 ⟨2, .data⟩ (by simp) rfl
        have l3 := hc.2 4 _ rfl l4 ⟨3, .data⟩ (by simp) rfl
        have l0 := hc.2 1 _ rfl l1 ⟨0, .data⟩ (by simp) rfl
        have hjj : j = 0 ∨ j = 1 ∨ j = 2 ∨ j = 3 ∨ j = 4 ∨ j = 5 ∨ j = 6 := by omega
        rcases hjj with rfl | rfl | rfl | rfl | rfl | rfl | rfl <;> assumption
      case h9 =>
        intro listed h
        exact ⟨h _ rfl ⟨7, .data⟩ (by simp) rfl, h _ rfl ⟨8, .data⟩ (by simp) rfl⟩
      case step =>
        intro j o listed a1 w1 hj ho hk hdep
        have e3 := ev (show a1.eval (.tmp 3) = .pointer (some ⟨w.heap.size, 0, none⟩) from hk.frame 3 (frame_of (by kernel_rfl)))
        have e4 := ev (show a1.eval (.tmp 4) = .pointer (some ⟨w.heap.size + 1, 0, none⟩) from hk.frame 4 (frame_of (by kernel_rfl)))
        have e8 := ev (show a1.eval (.tmp 8) = chv bb bo x from hk.frame 8 (frame_of (by kernel_rfl)))
        have XB := X2.out.below hk.below
        obtain ⟨k0, k1, k2, k3, kf⟩ := cells_of4 XB.d
        obtain ⟨m0, mf⟩ := cell_of1 XB.i_
        have hjj : j = 0 ∨ j = 1 ∨ j = 2 ∨ j = 3 ∨ j = 4 ∨ j = 5 ∨ j = 6 ∨ j = 8 := by omega
        rcases hjj with rfl | rfl | rfl | rfl | rfl | rfl | rfl | rfl
        · cases ho
          refine ⟨rfl, wp_value (v := .pointer (some ⟨w.heap.size, 1, none⟩)) ?_ rfl⟩
          go_simp
        · cases ho
          have d0 := ev (show a1.eval (.tmp 50) = .pointer (some ⟨w.heap.size, 1, none⟩) from hk.done 0 _ 50 rfl rfl (hdep ⟨0, .data⟩ (by simp) rfl))
          refine ⟨rfl, wp_value (v := .slice A1 (m + k) c1) ?_ rfl⟩
          go_simp
        · cases ho
          refine ⟨rfl, wp_value (v := .int .i64 (i + k)) ?_ rfl⟩
          go_simp
        · cases ho
          refine ⟨rfl, wp_value (v := chv bb bo x) ?_ rfl⟩
          simp [execOp, e8, Act.eval]
        · cases ho
          have d3 := ev (show a1.eval (.tmp 53) = chv bb bo x from hk.done 3 _ 53 rfl rfl (hdep ⟨3, .data⟩ (by simp) rfl))
          refine ⟨rfl, ?_⟩
          have hcl := bclone_any w1.heap.size (some ⟨bb, bo + 64 * x.1, none⟩) (chunk l x.1) 64 w1 ((O2.out.keep (keepW_below hk.below)).octs) (by rw [hCL.out]; decide)
          rw [hCL.out] at hcl
          go_simp
          refine hcl.mono ?_
          rintro e w2 ⟨v, rfl, hown, hb2⟩
          obtain ⟨A2, c2, ev2, ho2, hc2⟩ := own_toW (b2 := w.heap.size) hown
          rw [hCL.out] at ev2 hc2
          exact ⟨_, rfl, ⟨A2, c2, ev2, ho2, hc2⟩, hb2⟩
        · cases ho
          have d2 := ev (show a1.eval (.tmp 52) = .int .i64 (i + k) from hk.done 2 _ 52 rfl rfl (hdep ⟨2, .data⟩ (by simp) rfl))
          obtain ⟨A2, c2, ev2, ho2, hc2⟩ := hk.done 4 _ 54 rfl rfl (hdep ⟨4, .data⟩ (by simp) rfl)
          have d4 := ev ev2
          refine ⟨rfl, wp_value (v := .agg #[.int .i64 (i + k), .slice A2 64 c2]) ?_ ⟨A2, c2, rfl, ho2, hc2⟩⟩
          go_simp
        · cases ho
          obtain ⟨A2, c2, ev2, ho2, hc2⟩ := hk.done 5 _ 55 rfl rfl (hdep ⟨5, .data⟩ (by simp) rfl)
          have d5 := ev ev2
          refine ⟨rfl, ?_⟩
          go_simp
          refine ⟨_, rfl, ⟨w1.heap.size, A2, c2, rfl, by simp, ?_, ?_, ho2.keep (keepW_below ((Below.refl _ _).alloc (Nat.le_refl _) _)), hc2⟩, (Below.refl _ _).alloc (Nat.le_refl _) _⟩
          · rw [World.cell?_alloc_new]; rfl
          · rw [World.cell?_alloc_new]; rfl
        · cases ho
          refine ⟨rfl, wp_value (v := .pointer (some ⟨w.heap.size, 1, none⟩)) ?_ rfl⟩
          go_simp
      case app =>
        intro o listed a1 w1 ho hk hall
        cases ho
        have d1 : a1.eval (.tmp 51) = .slice A1 (m + k) c1 := hk.done 1 _ 51 rfl rfl (hall 1 (by decide))
        obtain ⟨g, A2, c2, ev2, hg, hg0, hg1, ho2, hc2⟩ := hk.done 6 _ 56 rfl rfl (hall 6 (by decide))
        have hlow := hk.below.size
        obtain ⟨v', w', hr, hown, hkw, hbw, hko⟩ := run_appW w1 w.heap.size w4.heap.size (.slice A1 (m + k) c1) (m + k) xs (R2.out.below hk.below) g (i + k) A2 64 c2 hg0 hg1 hmk (by omega)
        refine ⟨rfl, Go.Lib.wp_append_run w1 (.tmp 51) (.tmp 56) 23 23 rfl _ _ d1 ev2 v' w' hr ⟨⟨hk.defers, ?_, ?_, ?_, ?_⟩, fun h => ?_⟩⟩
        · have := hk.size
          simpa [Act.put] using this
        · exact (eval_put_ne (by decide)).trans (hk.frame 3 (frame_of (by kernel_rfl)))
        · exact (eval_put_ne (by decide)).trans (hk.frame 4 (frame_of (by kernel_rfl)))
        · obtain ⟨g3, c3, hv3, _, _⟩ := hown.form (by omega)
          subst hv3
          refine ⟨some ⟨g3, 0, none⟩, c3, _, eval_put_same (by rw [hk.size]; simp), .inl hown, ?_, ?_, ?_, ?_⟩
          · rw [← hWd.out]
            have hch := (ho2.keep (hkw.mono hlo))
            have := (((D2.out.keep (keepW_below hk.below)).keep (hkw.mono hlo)).snoc (a := i + k) (l := chunk l x.1) hch (by rw [hCL.out]; exact hc2) (by rw [hCL.out]; decide) (by omega) (by omega))
            rw [hCL.out] at this
            exact this
          · have XB := X2.out.below hk.below
            exact ⟨(hbw.block _ (by omega)).trans XB.d, (hbw.block _ (by omega)).trans XB.i_, (hbw.block _ (by omega)).trans XB.r_, (hbw.block _ (by omega)).trans XB.e_, XB.b.trans (hbw.mono hlo), Nat.lt_of_lt_of_le XB.hi hbw.size⟩
          · refine (S2.out.trans (Stp.below hk.below (by omega))).trans ⟨⟨hbw.size, fun j ob _ hj hob => hko j ob hj hob⟩, hbw.block _ (by omega), hbw.block _ (by omega)⟩
          · have := hbw.size
            omega
        · exact (eval_put_ne (by decide)).trans (hk.done 8 _ 58 rfl rfl h)
      case step8 =>
        intro o a1 w1 ho hA
        cases ho
        obtain ⟨h1, h2, h3, h4, A3, c3, xs3, h57, hrest⟩ := hA
        have e3 := ev h3
        have H2 := Lib.hid h2
        clear h2
        refine ⟨rfl, Oper.wp_mono (fun a' w' hl => ?_) (wp_value (φ := fun v w' => v = .pointer (some ⟨w.heap.size, 1, none⟩) ∧ w' = w1) (v := .pointer (some ⟨w.heap.size, 1, none⟩)) ?_ ⟨rfl, rfl⟩)⟩
        · obtain ⟨v, rfl, ⟨rfl, rfl⟩, _⟩ := hl
          refine ⟨⟨h1, ?_, (eval_put_ne (by decide)).trans h3, (eval_put_ne (by decide)).trans h4, A3, c3, xs3, (eval_put_ne (by decide)).trans h57, hrest⟩, eval_put_same (by rw [H2.out]; decide)⟩
          simpa [Act.put] using H2.out
        · go_simp
      case last =>
        intro o a1 w1 ho hA h58
        cases ho
        obtain ⟨h1, h2, h3, h4, A3, c3, xs3, h57, hrow3, hrd3, hb3, hst3, hsz3⟩ := hA
        have e57 := ev h57
        have e58 := ev h58
        obtain ⟨k0, k1, k2, k3, kf⟩ := cells_of4 hb3.d
        have H2 := Lib.hid h2
        clear h2
        refine ⟨rfl, ?_⟩
        go_simp
        refine ⟨h1, H2.out, h4, A3, c3, xs3, ?_, ?_, hb3.set1 _, ?_, ?_⟩
        · exact hrow3.box _ (by simp) (by simp only; omega)
        · exact hrd3.keep (keepW_set w1 ⟨w.heap.size, 1, none⟩ _ hb3.d (by decide) (by simp))
        · exact hst3.trans (Stp.set w1 ⟨w.heap.size, 1, none⟩ _ (by simp only; omega))
        · simpa using hsz3
      case fin =>
        intro a1 w1 hF
        obtain ⟨h1, h2, h4, A3, c3, xs3, hrow3, hrd3, hb3, hst3, hsz3⟩ := hF
        have e4 := ev h4
        obtain ⟨m0, mf⟩ := cell_of1 hb3.i_
        have hw3 := hb3.hi
        have H3 := Lib.hid hrow3
        have H4 := Lib.hid hrd3
        have H5 := Lib.hid hb3
        have H6 := Lib.hid hst3
        have e4' : a1.tmps[4]'(by rw [h2]; decide) = .pointer (some ⟨w.heap.size + 1, 0, none⟩) := by
          have h5 := h4
          unfold Act.eval at h5
          simpa [h2] using h5
        clear hrow3 hrd3 hb3 hst3 h4 e4
        gi_wp2_with fail
        have f5 := H5.out.seti (i + k + 1)
        have f3 : RowW (w1.setCell ⟨w.heap.size + 1, 0, none⟩ (.int .i64 (i + k + 1))) w.heap.size w4.heap.size (.slice A3 (m + k + 1) c3) (m + k + 1) xs3 := H3.out.box _ (by simp) (by simp only; omega)
        have f4 := H4.out.keep (keepW_set w1 ⟨w.heap.size + 1, 0, none⟩ (.int .i64 (i + k + 1)) H5.out.i_ (by decide) (by simp))
        have f6 := H6.out.trans (Stp.set w1 ⟨w.heap.size + 1, 0, none⟩ (.int .i64 (i + k + 1)) (by simp only; omega))
        have hl1 : (nums (pre ++ [x])).length = k + 1 := by rw [HKS.out, List.length_append, ← HKL.out]; rfl
        refine ⟨f6.k, f6.q_, ⟨A3, c3, xs3, ?_, ?_, ?_, fun h => by rw [hl1] at h; omega⟩, .inr rfl, ?_, by simpa using hsz3⟩
        · rw [hl1, ← HL2.out, show i + ((k + 1 : Nat) : Int) = i + k + 1 by omega, show m + (k + 1) = m + k + 1 by omega]; exact f5
        · rw [hl1, show m + (k + 1) = m + k + 1 by omega]; exact f3
        · rw [HKS.out, ← HWE.out]; exact f4
        · rw [hl1]; exact HNX.out.2.2
  case done =>
    rintro D ys V hD hys hI hK
    have hks : (nums ys).length = N := by rw [hys]; simp
    have hmap : (nums ys).map (chunk l) = chunks l N := by rw [hys]; rfl
    obtain ⟨A1, c1, xs, hB, hrow, hrd, hnz⟩ := hI.ex
    have hon := hI.on
    have hbud := hI.bud
    rw [hks] at hB hrow hnz hbud
    rw [hmap] at hrd
    have HOF : Hid (O = false) := by
      rcases hon with h | h
      · rw [h] at hks; simp at hks; omega
      · exact h
    rw [HOF.out] at hB
    have HB := Lib.hid hB
    have HROW := Lib.hid hrow
    have HRD := Lib.hid hrd
    have HNZ := Lib.hid hnz
    have HK := Lib.hid hK
    have HBUD := Lib.hid hbud
    obtain ⟨L', hL'⟩ : ∃ L', L' = lft L N := ⟨_, rfl⟩
    rw [← hL'] at HB
    have HL' := Lib.hid hL'
    clear hks hmap hI hB hrow hrd hnz hK hbud hon hL' hys
    obtain ⟨k0, k1, k2, k3, kf⟩ := cells_of4 HB.out.d
    obtain ⟨r0, r1, r2, r3, rf⟩ := cells_of4 HB.out.r_
    obtain ⟨e0, ef⟩ := cell_of1 HB.out.e_
    gi_wp2
    obtain ⟨E, hE⟩ : ∃ E, E = (st4 V (w.heap.size + 1 + 1) (.slice A n c) (.slice A1 (m + N) c1) (.int .i64 L') (.bool false)).setCell ⟨w.heap.size + 1 + 1 + 1, 0, none⟩ (.int .i64 0) := ⟨_, rfl⟩
    have hE' := hE
    unfold st4 at hE'
    rw [← hE']
    clear hE'
    have hr1 : E.heap[w.heap.size + 1 + 1]? = some (.cells #[.slice A n c, .slice A1 (m + N) c1, .int .i64 L', .bool false] 25 (0, 0)) := by
      rw [hE, Below.heap_setCell _ _ _ _ (by simp)]; exact st4_at HB.out.r_ _ _ _ _
    have he1 : E.heap[w.heap.size + 1 + 1 + 1]? = some (.cells #[.int .i64 0] 33 (0, 0)) := by
      have := (st4_far V (r := w.heap.size + 1 + 1) (k := w.heap.size + 1 + 1 + 1) (.slice A n c) (.slice A1 (m + N) c1) (.int .i64 L') (.bool false) (by omega)).trans HB.out.e_
      rw [hE]
      generalize st4 V (w.heap.size + 1 + 1) (.slice A n c) (.slice A1 (m + N) c1) (.int .i64 L') (.bool false) = X at this
      simp [World.setCell, Array.getElem?_modify, this]
    have hD1 : E.heap[D]? = some (.deferred (some [])) := by
      rw [hE, Below.heap_setCell _ _ _ _ (by simp; omega), st4_far _ _ _ _ _ (by omega)]; exact HK.out
    have hg := grownBy_putObj' E D (.deferred none)
    have hgr : ∀ r, some D = some r → q + 2 ≤ r ∧ ∃ o : Obj, E.heap[r]? = some o ∧ o.isCells = false := fun r e => by cases e; exact ⟨by omega, _, hD1, rfl⟩
    have hr2 := grown_cells hg (fun r e => (hgr r e).2) hr1
    have he2 := grown_cells hg (fun r e => (hgr r e).2) he1
    have hbE : Below w.heap.size w E := by rw [hE]; exact (st4_below HB.out.b (by omega) _ _ _ _).setCell (by simp only; omega) _
    have hbF : Below w.heap.size w (E.putObj D (.deferred none)) := hbE.grown hg hbE.size (fun r e => by have := (hgr r e).1; omega)
    have hrowF : RowW (E.putObj D (.deferred none)) w.heap.size (q + 2) (.slice A1 (m + N) c1) (m + N) xs := by
      refine RowW.grown ?_ hg hgr
      rw [hE]
      refine RowW.box ?_ _ (by simp only; omega) (by simp only; omega)
      rw [hbase]
      exact HROW.out.st4 _ _ _ _ _ (by omega) (by omega)
    have hrdF : RdW (E.putObj D (.deferred none)) w.heap.size xs (W ++ wsA i (chunks l N)) := by
      refine (HRD.out.keep ?_).keep ((keepW_grown hg hgr).mono (by omega))
      rw [hE]
      exact (keepW_st4 V _ _ _ _ _ HB.out.r_ (by decide) (by omega)).trans (keepW_set _ ⟨w.heap.size + 1 + 1 + 1, 0, none⟩ _ (by
        rw [st4_far _ _ _ _ _ (by simp)]; exact HB.out.e_) (by decide) (by simp only; omega))
    obtain ⟨s0, s1, s2, s3, _⟩ := cells_of4 hr2
    obtain ⟨u0, _⟩ := cell_of1 he2
    refine ⟨by simp, .inl ⟨_, _, rfl, run_takeDeferred hD1, ?_⟩⟩
    refine ⟨.tuple #[dv A n c A1 (m + N) c1 L' false, .int .i64 0], by simp [results, Try.results58, go_sem, s0, s1, s2, s3, u0], N, A1, c1, wfin H.out hbF hrowF hrdF ?_, hbF, HNZ.out, .inl ⟨rfl, HOF.out, HBUD.out, by rw [HL'.out]⟩⟩
    rw [List.length_append, wsA_len, chunks_len, H.out.hm]
  case stop =>
    rintro D cd pre V hD ⟨k', hk', hpre⟩ ⟨rfl, ks, x, hks, hR⟩ hK
    have hks2 : ks = List.range (k' - 1) ∧ 1 ≤ k' := by
      rw [hpre] at hks
      rcases k' with _ | k'
      · simp at hks
      · rw [List.range_succ] at hks
        exact ⟨((List.append_inj' hks rfl).1).symm, by omega⟩
    obtain ⟨hks3, hk1⟩ := hks2
    obtain ⟨k, hk⟩ : ∃ k, k = k' - 1 := ⟨_, rfl⟩
    rw [← hk] at hks3
    have hkN : k < N := by omega
    subst hks3
    obtain ⟨A1, c1, xs, hR1, hE1, hb, hrow, hrd, hnz⟩ := hR.ex
    have hwhy := hR.why
    have hmap : (List.range k).map (chunk l) = chunks l k := rfl
    rw [List.length_range] at hR1 hrow hnz hwhy
    rw [hmap] at hrd
    have hwhy2 : (O = true ∧ k = 0) ∨ (O = false ∧ L = k) := by
      rcases hwhy with ⟨h1, h2⟩ | h1
      · refine .inl ⟨h1, ?_⟩
        rw [List.range_eq_nil] at h2
        exact h2
      · exact .inr h1
    have HK := Lib.hid hK
    have HE := Lib.hid hE1
    have HR1 := Lib.hid hR1
    have HB := Lib.hid hb
    have HROW := Lib.hid hrow
    have HRD := Lib.hid hrd
    have HNZ := Lib.hid hnz
    have HW := Lib.hid hwhy2
    clear hK hE1 hR1 hb hrow hrd hnz hwhy hwhy2 hR hmap hpre hks hk'
    gi_wp2
    have hg := grownBy_putObj' V D (.deferred none)
    have hgr : ∀ r, some D = some r → q + 2 ≤ r ∧ ∃ o : Obj, V.heap[r]? = some o ∧ o.isCells = false := fun r e => by cases e; exact ⟨by omega, _, HK.out, rfl⟩
    have hr2 := grown_cells hg (fun r e => (hgr r e).2) HR1.out
    have he2 := grown_cells hg (fun r e => (hgr r e).2) HE.out
    have hbF : Below w.heap.size w (V.putObj D (.deferred none)) := HB.out.grown hg HB.out.size (fun r e => by have := (hgr r e).1; omega)
    have hrowF : RowW (V.putObj D (.deferred none)) w.heap.size (q + 2) (.slice A1 (m + k) c1) (m + k) xs := by
      refine RowW.grown ?_ hg hgr
      rw [hbase]
      exact HROW.out
    have hrdF : RdW (V.putObj D (.deferred none)) w.heap.size xs (W ++ wsA i (chunks l k)) := HRD.out.keep ((keepW_grown hg hgr).mono (by omega))
    obtain ⟨s0, s1, s2, s3, _⟩ := cells_of4 hr2
    obtain ⟨u0, _⟩ := cell_of1 he2
    refine ⟨by simp, .inl ⟨_, _, rfl, run_takeDeferred HK.out, ?_⟩⟩
    refine ⟨.tuple #[dv A n c A1 (m + k) c1 (lft L k) true, .int .i64 10], by simp [results, Try.results58, go_sem, s0, s1, s2, s3, u0], k, A1, c1, wfin H.out hbF hrowF hrdF ?_, hbF, HNZ.out, .inr ⟨hkN, HW.out, rfl⟩⟩
    rw [List.length_append, wsA_len, chunks_len, H.out.hm]
end Go.Proofs.Ytjcgggheablpeaa.Dis.Vx

/- The program's Append and Clear on a disk on which nothing waits, whatever address that row has. Made of the texts W1 to W11. -/
namespace Go.Proofs.Ytjcgggheablpeaa.Wal.Vx
open Go.RowKit Dis Dis.Dk

def Okd (w : World) (v : Value) (D : DD) : Prop := ∃ A c A' c', v = dv A D.S.length c A' D.W.length c' D.L D.O ∧ Dsk w A D.S.length c A' D.W.length c' D.S D.W ∧ True
theorem Okd.below {w w' : World} {v : Value} {D : DD} (h : Okd w v D) (hb : Below w.heap.size w w') : Okd w' v D := by
  obtain ⟨A, c, A', c', e, hd, hz⟩ := h
  exact ⟨A, c, A', c', e, hd.below hb, hz⟩
theorem Okd.rk {K : Nat} {w w' : World} {v : Value} {D : DD} {t : Nat} (h : Okd w v D) (hf : Fit D t) (hr : RK K w w') : Okd w' v D := by
  obtain ⟨A, c, A', c', e, hd, hz⟩ := h
  exact ⟨A, c, A', c', e, Dsk.rk hr hd hf.two (sec_of hf.may).1, hz⟩
theorem write_d {w : World} {v : Value} {D : DD} {t : Nat} (h : Okd w v D) (hf : Fit D t) (ht : t ≤ 90000) (bb bo cb N i : Nat) (l : List UInt8) (hN : 1 ≤ N) (hN2 : N ≤ 4096) (hl : l.length = 64 * N) (ho : Octs w w.heap.size (some ⟨bb, bo, none⟩) l) (hcb : l.length ≤ cb) (hcb2 : cb ≤ 9223372036854775807) (hi : i + N ≤ D.S.length) :
    Calls Try.prog 58 #[v, .int .i64 (i : Int), .slice (some ⟨bb, bo, none⟩) l.length cb] w fun e w' => ∃ v', e = .returned (.tuple #[v', .int .i64 (wrC i (chunks l N) D).2]) ∧ Okd w' v' (wrC i (chunks l N) D).1 ∧ Below w.heap.size w w' := by
  obtain ⟨A, c, A', c', rfl, hd, hz⟩ := h
  have hm := hf.w_
  have hle : D.S.length ≤ 4096 := ((may_iff _ _ _).1 hf.may).2.1
  have hne : chunks l N ≠ [] := fun e => by have := chunks_len l N; rw [e] at this; simp at this; omega
  refine (Dis.Vx.write_any A D.S.length c A' D.W.length c' D.S D.W D.L D.O bb bo cb N l (i : Int) w hd hf.may (by omega) hN hN2 hl ho hcb hcb2 hf.l2 (by unfold thereB; simp; omega) (by omega) (by omega)).mono ?_
  rintro e w' ⟨k, A1, c1, hD, hb, hz1, he⟩
  have hcl := chunks_len l N
  unfold wrC wrD
  rw [if_neg hne]
  have hL1 : -1 ≤ D.L := ((may_iff _ _ _).1 hf.may).2.2.1
  rcases he with ⟨rfl, hO, hL, rfl⟩ | ⟨hkN, hw, rfl⟩
  · rw [if_neg (by simp [hO]), if_pos (by rw [hcl]; exact hL), hcl, lfw_lft]
    refine ⟨_, rfl, ⟨A, c, A1, c1, ?_, ?_, ?_⟩, hb⟩
    · simp only [List.length_append, wsA_len, hcl]
    · simpa only [List.length_append, wsA_len, hcl] using hD
    · trivial
  · have hct : ∀ j, j ≤ N → (chunks l N).take j = chunks l j := fun j hj => by
      unfold chunks
      rw [← List.map_take, List.take_range, Nat.min_eq_left hj]
    rcases hw with ⟨hO, rfl⟩ | ⟨hO, hL⟩
    · rw [if_pos hO]
      have hc0 : chunks l 0 = [] := rfl
      rw [hc0] at hD
      simp only [wsA, List.append_nil, Nat.add_zero] at hD
      refine ⟨_, rfl, ⟨A, c, A1, c1, ?_, hD, trivial⟩, hb⟩
      simp only [Nat.add_zero, lft_zero]
    · have hLt : D.L.toNat = k := by omega
      rw [if_neg (by simp [hO]), if_neg (by rw [hcl]; omega), hLt, hct k (by omega), lfw_lft]
      refine ⟨_, rfl, ⟨A, c, A1, c1, ?_, ?_, ?_⟩, hb⟩
      · simp only [List.length_append, wsA_len, chunks_len]
      · simpa only [List.length_append, wsA_len, chunks_len] using hD
      · trivial
theorem flush_d {w : World} {v : Value} {D : DD} {t : Nat} (h : Okd w v D) (hf : Fit D t) (ht : t ≤ 100000) :
    Calls Try.prog 37 #[v] w fun e w' => ∃ v', e = .returned (.tuple #[v', .int .i64 (flD D).2]) ∧ Okd w' v' (flD D).1 ∧ Below w.heap.size w w' := by
  obtain ⟨A, c, A', c', rfl, hd, hz⟩ := h
  have hm := hf.w_
  unfold flD
  cases hO : spO D.L D.O with
  | true =>
    rw [if_pos rfl]
    refine (flush_off A D.S.length c A' D.W.length c' D.S D.W D.L D.O w hd hf.may (by omega) hO hf.l2).mono ?_
    rintro e w' ⟨rfl, hb⟩
    exact ⟨_, rfl, ⟨A, c, A', c', rfl, hd.below hb, hz⟩, hb⟩
  | false =>
    rw [if_neg (by simp)]
    have h1 : D.O = false ∧ D.L ≠ 0 := by unfold spO at hO; simpa using hO
    have hd' := hd
    rw [show dv A D.S.length c A' D.W.length c' D.L D.O = dv A D.S.length c A' D.W.length c' D.L false by rw [h1.1]]
    refine (flush_on A D.S.length c A' D.W.length c' D.S D.W D.L w hd hf.may (by omega) h1.2 hf.l2).mono ?_
    rintro e w' ⟨g, cap, rfl, hD, hb⟩
    refine ⟨_, rfl, ⟨some ⟨g, 0, none⟩, cap, none, 0, ?_, ?_, trivial⟩, hb⟩
    · simp only [done_len, List.length_nil, h1.1]
    · simpa only [done_len, List.length_nil] using hD
theorem okd_st4 {w : World} {v : Value} {D : DD} {t : Nat} (h : Okd w v D) (hf : Fit D t) {g : Nat} {o : Obj} (hg : w.heap[g]? = some o) (hs : Shp 0 o) (A : Option Addr) (n c : Nat) (A' : Option Addr) (m c' : Nat) (L : Int) (O : Bool) (hn : n ≠ 64) :
    Okd (st4 w g (.slice A n c) (.slice A' m c') (.int .i64 L) (.bool O)) v D := by
  obtain ⟨B, k, d, B', j, d', L', O', rfl, hk⟩ := hs
  exact h.rk hf (rk_st4 (K := 0) hg (shp0 _ _ _ _ _ _ _ _ hk) ⟨25, st4_at hg _ _ _ _, shp0 _ _ _ _ _ _ _ _ hn⟩)
theorem write_step {w : World} {v : Value} {D : DD} {t : Nat} (h : Okd w v D) (hf : Fit D t) (ht : t ≤ 90000) (h64 : D.S.length ≠ 64) (ga gb : Nat) (A : Option Addr) (cb N i : Nat) (l : List UInt8) (hN2 : N ≤ 4096) (hl : l.length = 64 * N) (ho : Octs w w.heap.size A l) (hcb : l.length ≤ cb) (hcb2 : cb ≤ 9223372036854775807) (hi : i + N ≤ D.S.length)
    (hga : w.heap[ga]? = some (.cells #[.int .i64 (i : Int)] 3 (0, 0))) (hgb : w.heap[gb]? = some (.cells #[.slice A l.length cb] 28 (0, 0))) :
    Calls Try.prog 57 #[v, .pointer (some ⟨gb, 0, none⟩), .pointer (some ⟨ga, 0, none⟩)] w fun e w' => ∃ v', e = .returned (.tuple #[v', .int .i64 (wrC i (chunks l N) D).2]) ∧ Okd w' v' (wrC i (chunks l N) D).1 ∧ Below w.heap.size w w' := by
  obtain ⟨Ad, cd, Ad', cd', hv, hd, hz⟩ := h
  have hok : Okd w v D := ⟨Ad, cd, Ad', cd', hv, hd, hz⟩
  subst hv
  obtain ⟨n, hn⟩ : ∃ n, n = D.S.length := ⟨_, rfl⟩
  obtain ⟨m, hm⟩ : ∃ m, m = D.W.length := ⟨_, rfl⟩
  obtain ⟨L, hL⟩ : ∃ L, L = D.L := ⟨_, rfl⟩
  obtain ⟨O, hO⟩ : ∃ O, O = D.O := ⟨_, rfl⟩
  rw [← hn, ← hm, ← hL, ← hO] at hok ⊢
  have hga2 : ga < w.heap.size := by
    rcases Nat.lt_or_ge ga w.heap.size with h | h
    · exact h
    · rw [Array.getElem?_eq_none h] at hga; cases hga
  have hgb2 : gb < w.heap.size := by
    rcases Nat.lt_or_ge gb w.heap.size with h | h
    · exact h
    · rw [Array.getElem?_eq_none h] at hgb; cases hgb
  obtain ⟨w1, hw1⟩ : ∃ w1, w1 = (w.alloc (.cells #[.slice Ad n cd, .slice Ad' m cd', .int .i64 L, .bool O] 25)).alloc (.cells #[.slice none 0 0, .slice none 0 0, .int .i64 0, .bool false] 25) := ⟨_, rfl⟩
  have X0 := Lib.hid (Bx.new w (.slice Ad n cd) (.slice Ad' m cd') (.int .i64 L) (.bool O))
  rw [← hw1] at X0
  have HA := Lib.hid (box_at hga X0.out.b)
  have HBb := Lib.hid (box_at hgb X0.out.b)
  have HOK := Lib.hid (hok.below X0.out.b)
  have HO := Lib.hid ((ho.below X0.out.b (Nat.le_refl _)).more X0.out.b.size)
  have HW := Lib.hid hw1
  have HF := Lib.hid hf
  have HN : Hid (n = D.S.length) := hn
  have HN64 : Hid (n ≠ 64) := by show n ≠ 64; rw [hn]; exact h64
  obtain ⟨q, hq⟩ : ∃ q, q = wrC i (chunks l N) D := ⟨_, rfl⟩
  have HWR : Hid (∀ W : World, 1 ≤ N → Below w1.heap.size w1 W → ∀ b o, A = some ⟨b, o, none⟩ → Calls Try.prog 58 #[dv Ad n cd Ad' m cd' L O, .int .i64 (i : Int), .slice A l.length cb] W fun e w' => ∃ v', e = .returned (.tuple #[v', .int .i64 q.2]) ∧ Okd w' v' q.1 ∧ Below W.heap.size W w') := fun W h1 hb b o e => by
    subst e
    rw [hq]
    exact write_d (HOK.out.below hb) hf ht b o cb N i l h1 hN2 hl ((HO.out.below hb (Nat.le_refl _)).more hb.size) hcb hcb2 hi
  have HQ : Hid (N = 0 → q = (D, 0)) := fun h0 => by
    rw [hq, h0]
    rfl
  have HQ2 : Hid (∃ t2, Fit q.1 t2 ∧ q.1.S.length = n) := by
    by_cases h0 : N = 0
    · exact ⟨t, by rw [HQ.out h0]; exact hf, by rw [HQ.out h0]; exact hn.symm⟩
    · have := hf.wr i (chunks l N) (fun b hb => chunks_mem hl b hb) (by rw [chunks_len]; exact hi)
      rw [← hq] at this
      exact ⟨_, this.1, by rw [this.2, hn]⟩
  rw [← hq]
  obtain ⟨ll, hll⟩ : ∃ ll, ll = l.length := ⟨_, rfl⟩
  have HLL : Hid (ll = 64 * N) := by show ll = _; rw [hll, hl]
  have HAA : Hid (1 ≤ N → ∃ b o, A = some ⟨b, o, none⟩) := fun h1 => by
    obtain ⟨b, o, e, _⟩ := ho 0 (by omega)
    exact ⟨b, o, e⟩
  have hll9 : ll ≤ 9223372036854775807 := by omega
  rw [← hll] at HBb HWR
  clear hw1 hq hn hm hL hO hok hga hgb hd hz ho hf hl hll h64 hi hcb
  obtain ⟨kA, kAf⟩ := cell_of1 HA.out
  obtain ⟨kB, kBf⟩ := cell_of1 HBb.out
  clear kAf kBf
  by_cases h0 : N = 0
  · have h0' : ll = 0 := by have := HLL.out; omega
    subst h0'
    have hq0 := HQ.out h0
    subst hq0
    obtain ⟨k0, k1, k2, k3, kf⟩ := cells_of4 X0.out.d
    obtain ⟨r0, r1, r2, r3, rf⟩ := cells_of4 X0.out.r_
    go_enter Try.func57, Try.ntmps57
    go_upto_region 1 with fail
    rw [← HW.out]
    go_wp2_with fail
    refine bodyPost_ret (v := .tuple #[dv Ad n cd Ad' m cd' L O, .int .i64 0]) (by simp [results, Try.results57, go_sem, r0, r1, r2, r3]) rfl ⟨_, rfl, ?_, ?_⟩
    · exact okd_st4 HOK.out HF.out X0.out.r_ (shp0 _ _ _ _ _ _ _ _ (by decide)) _ _ _ _ _ _ _ _ HN64.out
    · exact st4_below X0.out.b (by omega) _ _ _ _
  · have h0' : ((ll : Int) == 0) = false := by have := HLL.out; simp; omega
    obtain ⟨b, o, rfl⟩ := HAA.out (by omega)
    obtain ⟨k0, k1, k2, k3, kf⟩ := cells_of4 X0.out.d
    go_enter Try.func57, Try.ntmps57
    go_upto_region 1 with fail
    rw [← HW.out]
    go_wp2_with fail
    refine (HWR.out _ (by omega) (Below.refl _ _) b o rfl).mono ?_
    rintro e w2 ⟨v', rfl, hok2, hb2⟩
    have X2 := Lib.hid (X0.out.below hb2)
    obtain ⟨t2, hf2, hn2⟩ := HQ2.out
    have HF2 := Lib.hid hf2
    have HOK2 := Lib.hid hok2
    obtain ⟨E, c, E', c', rfl, -, -⟩ := hok2
    have hn2' : q.1.S.length ≠ 64 := by rw [hn2]; exact HN64.out
    obtain ⟨n3, hn3⟩ : ∃ n3, n3 = q.1.S.length := ⟨_, rfl⟩
    obtain ⟨m3, hm3⟩ : ∃ m3, m3 = q.1.W.length := ⟨_, rfl⟩
    obtain ⟨L3, hL3⟩ : ∃ L3, L3 = q.1.L := ⟨_, rfl⟩
    obtain ⟨O3, hO3⟩ : ∃ O3, O3 = q.1.O := ⟨_, rfl⟩
    obtain ⟨e3, he3⟩ : ∃ e3, e3 = q.2 := ⟨_, rfl⟩
    rw [← hn3] at hn2'
    rw [← hn3, ← hm3, ← hL3, ← hO3] at HOK2 ⊢
    have HE3 := Lib.hid he3
    rw [← he3]
    clear k0 k1 k2 k3 kf hb2 hf2 hn2 hn3 hm3 hL3 hO3 he3
    obtain ⟨r0, r1, r2, r3, rf⟩ := cells_of4 X2.out.r_
    go_wp2_with fail
    refine bodyPost_ret (v := .tuple #[dv E n3 c E' m3 c' L3 O3, .int .i64 e3]) (by simp [results, Try.results57, go_sem, r0, r1, r2, r3]) rfl ⟨_, by rw [HE3.out], ?_, ?_⟩
    · exact okd_st4 HOK2.out HF2.out X2.out.r_ (shp0 _ _ _ _ _ _ _ _ (by decide)) _ _ _ _ _ _ _ _ hn2'
    · exact st4_below X2.out.b (by omega) _ _ _ _
structure Stp where
  K : Nat
  cap : Array Value
  δ : DD → DD × Int
def Stp.ok (q : Stp) (w0 : World) (s : Nat) : Prop := (∀ (args : Array Value) (W : World), (callFunc q.K args).run Try.prog W = .ok (.enter q.K args) W) ∧ ∀ (w : World) (v : Value) (D : DD) (t : Nat), Below w0.heap.size w0 w → Okd w v D → Fit D t → t ≤ 80000 → D.S.length = s →
  (Calls Try.prog q.K (#[v] ++ q.cap) w fun e w' => ∃ v', e = .returned (.tuple #[v', .int .i64 (q.δ D).2]) ∧ Okd w' v' (q.δ D).1 ∧ Below w.heap.size w w') ∧ Fit (q.δ D).1 (t + 100) ∧ (q.δ D).1.S.length = s
structure DoI (w0 : World) (qs : List Stp) (D0 : DD) (s t0 k : Nat) (wr : World) : Prop where
  ex : ∃ v0 v1 v2 v3 D, Bx w0 (w0.heap.size + 1) v0 v1 v2 v3 wr ∧ Okd wr (.agg #[v0, v1, v2, v3]) D ∧ Fit D (t0 + 100 * k) ∧ D.S.length = s ∧ runD (qs.map (·.δ)) D0 = runD ((qs.drop k).map (·.δ)) D
def FnAt (w : World) (gs : Nat) (qs : List Stp) : Prop := gs < w.heap.size ∧ ∀ j, (h : j < qs.length) → w.cell? ⟨gs, j, none⟩ = some (.func (.func qs[j].K) #[] qs[j].cap)
theorem FnAt.below {w w' : World} {gs : Nat} {qs : List Stp} (h : FnAt w gs qs) (hb : Below w.heap.size w w') : FnAt w' gs qs :=
  ⟨Nat.lt_of_lt_of_le h.1 hb.size, fun j hj => (hb.cell (p := ⟨gs, j, none⟩) h.1).trans (h.2 j hj)⟩
set_option maxRecDepth 20000 in
set_option maxHeartbeats 1600000 in
theorem do_any (w : World) (v : Value) (D : DD) (t0 s gs : Nat) (qs : List Stp) (h : Okd w v D) (hf : Fit D t0) (ht : t0 ≤ 10000) (hs : D.S.length = s) (hs64 : s ≠ 64) (hq : ∀ q ∈ qs, q.ok w s) (hn : qs.length ≤ 100) (hr : FnAt w gs qs) :
    Calls Try.prog 34 #[v, .slice (some ⟨gs, 0, none⟩) qs.length qs.length] w fun e w' => ∃ v', e = .returned (.tuple #[v', .int .i64 (runD (qs.map (·.δ)) D).2]) ∧ Okd w' v' (runD (qs.map (·.δ)) D).1 ∧ Below w.heap.size w w' := by
  obtain ⟨A, c, A', c', hv, hd, hz⟩ := h
  have hok : Okd w v D := ⟨A, c, A', c', hv, hd, hz⟩
  subst hv
  obtain ⟨n, hnn⟩ : ∃ n, n = qs.length := ⟨_, rfl⟩
  obtain ⟨a1, ha1⟩ : ∃ a1, a1 = D.S.length := ⟨_, rfl⟩
  obtain ⟨a2, ha2⟩ : ∃ a2, a2 = D.W.length := ⟨_, rfl⟩
  obtain ⟨a3, ha3⟩ : ∃ a3, a3 = D.L := ⟨_, rfl⟩
  obtain ⟨a4, ha4⟩ : ∃ a4, a4 = D.O := ⟨_, rfl⟩
  have X0 := Lib.hid (Bx.new w (.slice A a1 c) (.slice A' a2 c') (.int .i64 a3) (.bool a4))
  obtain ⟨w1, hw1⟩ : ∃ w1, w1 = (w.alloc (.cells #[.slice A a1 c, .slice A' a2 c', .int .i64 a3, .bool a4] 25)).alloc (.cells #[.slice none 0 0, .slice none 0 0, .int .i64 0, .bool false] 25) := ⟨_, rfl⟩
  rw [← hw1] at X0
  rw [← ha1, ← ha2, ← ha3, ← ha4] at hok ⊢
  obtain ⟨q, hqq⟩ : ∃ q, q = runD (qs.map (·.δ)) D := ⟨_, rfl⟩
  have HI0 : Hid (DoI w qs D s t0 0 w1) := ⟨_, _, _, _, D, X0.out, hok.below X0.out.b, hf, hs, rfl⟩
  have HQQ := Lib.hid hqq
  have HNN := Lib.hid hnn
  have HR := Lib.hid hr
  have HQ := Lib.hid hq
  have HW := Lib.hid hw1
  have hn9 : n ≤ 100 := by omega
  rw [← hqq, ← hnn]
  clear hd hz hok hq hr hf hs hw1 hqq hnn ha1 ha2 ha3 ha4 hn
  go_enter Try.func34, Try.ntmps34
  go_upto_region 1 with fail
  rw [← HW.out]
  go_wp2_with fail
  go_loopw [11] (fun s11 wr => ∃ k : Nat, k ≤ n ∧ s11 = .int .i64 k ∧ Hid (DoI w qs D s t0 k wr)) (fun s11 _ => n - (intOf s11).toNat)
  case atStart => exact ⟨0, Nat.zero_le _, rfl, HI0⟩
  case round =>
    obtain ⟨k, hkn, rfl, HI⟩ := hrel
    obtain ⟨v0, v1, v2, v3, E, hX, hE, hfE, hsE, hrun⟩ := HI.out.ex
    obtain ⟨B0, d0, B0', d0', ev, -, -⟩ := id hE
    obtain ⟨b1, hb1⟩ : ∃ b1, b1 = E.S.length := ⟨_, rfl⟩
    obtain ⟨b2, hb2⟩ : ∃ b2, b2 = E.W.length := ⟨_, rfl⟩
    obtain ⟨b3, hb3⟩ : ∃ b3, b3 = E.L := ⟨_, rfl⟩
    obtain ⟨b4, hb4⟩ : ∃ b4, b4 = E.O := ⟨_, rfl⟩
    have HN0 : Hid (b1 ≠ 64) := by show b1 ≠ 64; rw [hb1, hsE]; exact hs64
    rw [← hb1, ← hb2, ← hb3, ← hb4] at ev
    injection ev with ev
    injection ev with ev
    injection ev with e0 ev
    injection ev with e1 ev
    injection ev with e2 ev
    injection ev with e3 ev
    subst e0 e1 e2 e3
    clear hb1 hb2 hb3 hb4
    have X := Lib.hid hX
    have HE := Lib.hid hE
    have HFE := Lib.hid hfE
    have HSE := Lib.hid hsE
    have HRUN := Lib.hid hrun
    obtain ⟨k0, k1, k2, k3, kf⟩ := cells_of4 X.out.d
    obtain ⟨r0, r1, r2, r3, rf⟩ := cells_of4 X.out.r_
    clear hX hE hfE hsE hrun HI0
    by_cases hlt : k < n
    · have hk' : k < qs.length := by have := HNN.out; omega
      have hcell := (HR.out.below X.out.b).2 k hk'
      obtain ⟨p, hp⟩ : ∃ p, p = qs[k] := ⟨_, rfl⟩
      have HP : Hid (p ∈ qs) := by rw [hp]; exact List.getElem_mem _
      rw [← hp] at hcell
      have hent := (HQ.out p HP.out).1
      have hstep := (HQ.out p HP.out).2 wr (.agg #[.slice B0 b1 d0, .slice B0' b2 d0', .int .i64 b3, .bool b4]) E (t0 + 100 * k) X.out.b HE.out HFE.out (by omega) HSE.out
      have HST := Lib.hid hstep
      clear hstep
      have hrunk : runD ((qs.drop k).map (·.δ)) E = if (p.δ E).2 = 0 then runD ((qs.drop (k + 1)).map (·.δ)) (p.δ E).1 else p.δ E := by
        rw [List.drop_eq_getElem_cons hk', List.map_cons, runD, ← hp]
      have HRK := Lib.hid hrunk
      clear hrunk hp
      go_wp2_with fail
      refine HST.out.1.mono ?_
      rintro e w2 ⟨v', rfl, hok2, hb2⟩
      have X2 := Lib.hid (X.out.below hb2)
      have HOK2 := Lib.hid hok2
      have HF2 := Lib.hid HST.out.2.1
      have HS2 := Lib.hid HST.out.2.2
      obtain ⟨G, c3, G', c3', rfl, -, -⟩ := hok2
      obtain ⟨n3, hn3⟩ : ∃ n3, n3 = (p.δ E).1.S.length := ⟨_, rfl⟩
      obtain ⟨m3, hm3⟩ : ∃ m3, m3 = (p.δ E).1.W.length := ⟨_, rfl⟩
      obtain ⟨L3, hL3⟩ : ∃ L3, L3 = (p.δ E).1.L := ⟨_, rfl⟩
      obtain ⟨O3, hO3⟩ : ∃ O3, O3 = (p.δ E).1.O := ⟨_, rfl⟩
      obtain ⟨e3, he3⟩ : ∃ e3, e3 = (p.δ E).2 := ⟨_, rfl⟩
      have HN3 : Hid (n3 ≠ 64) := by show n3 ≠ 64; rw [hn3, HS2.out]; exact hs64
      rw [← hn3, ← hm3, ← hL3, ← hO3] at HOK2
      rw [← he3] at HRK
      have HE3 := Lib.hid he3
      rw [← hn3, ← hm3, ← hL3, ← hO3, ← he3]
      clear k0 k1 k2 k3 kf r0 r1 r2 r3 rf hb2 hn3 hm3 hL3 hO3 he3
      obtain ⟨k0, k1, k2, k3, kf⟩ := cells_of4 X2.out.d
      obtain ⟨r0, r1, r2, r3, rf⟩ := cells_of4 X2.out.r_
      have X3 := Lib.hid (X2.out.set (.slice G n3 c3) (.slice G' m3 c3') (.int .i64 L3) (.bool O3))
      have HOK3 := Lib.hid (okd_st4 HOK2.out HF2.out X2.out.d (shp0 _ _ _ _ _ _ _ _ HN0.out) G n3 c3 G' m3 c3' L3 O3 HN3.out)
      by_cases he : e3 = 0
      · subst he
        have HRK2 : Hid (runD ((qs.drop k).map (·.δ)) E = runD ((qs.drop (k + 1)).map (·.δ)) (p.δ E).1) := by show _ = _; rw [HRK.out, if_pos rfl]
        go_wp2_with fail
        go_roundw
        case rel => exact ⟨k + 1, by omega, by go_num, ⟨_, _, _, _, _, X3.out, HOK3.out, HF2.out.more (by omega), HS2.out, HRUN.out.trans HRK2.out⟩⟩
        case measure => simp [intOf]; omega
      · have HRK2 : Hid (q = p.δ E) := by show _ = _; rw [HQQ.out, HRUN.out, HRK.out, if_neg he]
        have he' : (e3 == 0) = false := by simpa using he
        clear k0 k1 k2 k3 kf
        obtain ⟨k0, k1, k2, k3, kf⟩ := cells_of4 X2.out.d
        go_wp2_with fail
        refine bodyPost_ret (v := .tuple #[dv G n3 c3 G' m3 c3' L3 O3, .int .i64 e3]) (by simp [results, Try.results34, go_sem, r0, r1, r2, r3]) rfl ⟨_, by rw [HRK2.out, HE3.out], ?_, ?_⟩
        · rw [HRK2.out]
          exact okd_st4 HOK3.out HF2.out X3.out.r_ (shp0 _ _ _ _ _ _ _ _ (by decide)) _ _ _ _ _ _ _ _ HN3.out
        · exact st4_below X3.out.b (by omega) _ _ _ _
    · have hk9 : k = n := by omega
      have HRK2 : Hid (q = (E, 0)) := by
        show _ = _
        rw [HQQ.out, HRUN.out, List.drop_of_length_le (by have := HNN.out; omega)]
        rfl
      go_wp2_with fail
      refine bodyPost_ret (v := .tuple #[dv B0 b1 d0 B0' b2 d0' b3 b4, .int .i64 0]) (by simp [results, Try.results34, go_sem, r0, r1, r2, r3]) rfl ⟨_, by rw [HRK2.out], ?_, ?_⟩
      · rw [HRK2.out]
        exact okd_st4 HE.out HFE.out X.out.r_ (shp0 _ _ _ _ _ _ _ _ (by decide)) _ _ _ _ _ _ _ _ HN0.out
      · exact st4_below X.out.b (by omega) _ _ _ _
def OkE (w : World) (x : Value) (D : DD) (e : Int) : Prop := (∃ A n c A' m c' L O, x = dv A n c A' m c' L O ∧ n ≠ 64) ∧ (e = 0 ∨ e = 10 → Okd w x D)
theorem OkE.below {w w' : World} {x : Value} {D : DD} {e : Int} (h : OkE w x D e) (hb : Below w.heap.size w w') : OkE w' x D e := ⟨h.1, fun he => (h.2 he).below hb⟩
theorem OkE.rk {K : Nat} {w w' : World} {x : Value} {D : DD} {t : Nat} {e : Int} (h : OkE w x D e) (hf : Fit D t) (hr : RK K w w') : OkE w' x D e := ⟨h.1, fun he => (h.2 he).rk hf hr⟩
theorem OkE.of {w : World} {x : Value} {D : DD} (e : Int) (h : Okd w x D) (h64 : D.S.length ≠ 64) : OkE w x D e := by
  obtain ⟨A, c, A', c', rfl, hd, hz⟩ := h
  exact ⟨⟨_, _, _, _, _, _, _, _, rfl, h64⟩, fun _ => ⟨A, c, A', c', rfl, hd, hz⟩⟩
theorem OkE.none_ {w : World} {D : DD} {e : Int} (h0 : e ≠ 0) (h1 : e ≠ 10) : OkE w dz D e := ⟨⟨_, _, _, _, _, _, _, _, rfl, by decide⟩, fun h => by rcases h with h | h <;> contradiction⟩
def lfE (D : DD) (t : Nat) (hf : Fit D t) (e : Int) : LeftK := ⟨fun v w => OkE w v D e, none, fun _ _ _ hb h => h.below hb, fun _ _ _ _ _ hr h => h.rk hf hr⟩
def lfT3 (D : DD) (t : Nat) (hf : Fit D t) (lv : Value) (e : Int) : LeftK := ⟨fun v w => ∃ x, v = .tuple #[x, lv, .int .i64 e] ∧ OkE w x D e, none, fun _ _ _ hb ⟨x, h1, h⟩ => ⟨x, h1, h.below hb⟩, fun _ _ _ _ _ hr ⟨x, h1, h⟩ => ⟨x, h1, h.rk hf hr⟩⟩
def lfT2 (D : DD) (t : Nat) (hf : Fit D t) (e : Int) : LeftK := ⟨fun v w => ∃ x, v = .tuple #[x, .int .i64 e] ∧ OkE w x D e, none, fun _ _ _ hb ⟨x, h1, h⟩ => ⟨x, h1, h.below hb⟩, fun _ _ _ _ _ hr ⟨x, h1, h⟩ => ⟨x, h1, h.rk hf hr⟩⟩
def DBox (w : World) (g : Nat) (D : DD) (e : Int) : Prop := ∃ A n c A' m c' L O, w.heap[g]? = some (.cells #[.slice A n c, .slice A' m c', .int .i64 L, .bool O] 25 (0, 0)) ∧ n ≠ 64 ∧ OkE w (dv A n c A' m c' L O) D e
theorem DBox.below {w w' : World} {g : Nat} {D : DD} {e : Int} (h : DBox w g D e) (hb : Below w.heap.size w w') : DBox w' g D e := by
  obtain ⟨A, n, c, A', m, c', L, O, h1, h2, h3⟩ := h
  exact ⟨A, n, c, A', m, c', L, O, box_at h1 hb, h2, h3.below hb⟩
theorem DBox.rk {K : Nat} {w w' : World} {g : Nat} {D : DD} {e : Int} {t : Nat} (h : DBox w g D e) (hf : Fit D t) (hK : K ≠ 0) (hr : RK K w w') : DBox w' g D e := by
  obtain ⟨A, n, c, A', m, c', L, O, h1, h2, h3⟩ := h
  refine ⟨A, n, c, A', m, c', L, O, hr.far h1 fun hs => ?_, h2, h3.rk hf hr⟩
  rcases shp_two hs with rfl | rfl | rfl
  · exact hK rfl
  · exact not1_disk hs
  · exact not2 (by simp) hs
def lfSD (H : Nat) (D : DD) (t : Nat) (hf : Fit D t) (e : Int) : LeftK := ⟨fun v w => ∃ g, v = .pointer (some ⟨g, 0, none⟩) ∧ H ≤ g ∧ DBox w g D e, some 0, fun _ _ _ hb ⟨g, e, h, h1⟩ => ⟨g, e, h, h1.below hb⟩, fun K _ _ _ hk hr ⟨g, e, h, h1⟩ => ⟨g, e, h, h1.rk hf (fun h0 => hk (by rw [h0])) hr⟩⟩
def lfDAt (g : Nat) (D : DD) (t : Nat) (hf : Fit D t) (e : Int) : LeftK := ⟨fun _ w => DBox w g D e, some 0, fun _ _ _ hb h1 => h1.below hb, fun K _ _ _ hk hr h1 => h1.rk hf (fun h0 => hk (by rw [h0])) hr⟩
theorem dbox_st {w : World} {g : Nat} {o : Obj} (hg : w.heap[g]? = some o) (hs : Shp 0 o) {A : Option Addr} {n c : Nat} {A' : Option Addr} {m c' : Nat} {L : Int} {O : Bool} {D : DD} {t : Nat} {e : Int} (hf : Fit D t) (hn : n ≠ 64) (h : OkE w (dv A n c A' m c' L O) D e) :
    DBox (st4 w g (.slice A n c) (.slice A' m c') (.int .i64 L) (.bool O)) g D e :=
  ⟨A, n, c, A', m, c', L, O, disk_at hg hs _ _ _ _ _ _ _ _, hn, h.rk hf (rk_disk hg hs _ _ _ _ _ _ _ _ hn)⟩
theorem stp_flush (w : World) (s : Nat) : Stp.ok ⟨37, #[], flD⟩ w s := ⟨ent37, fun W v D t _ h hf ht hs => ⟨flush_d h hf (by omega), hf.fl.1.more (by omega), hf.fl.2.trans hs⟩⟩
theorem stp_write {w : World} {v : Value} {i N : Nat} {l : List UInt8} {s : Nat} (h : FnO w v i l) (hl : l.length = 64 * N) (hN : N ≤ 100) (hi : i + N ≤ s) (hs64 : s ≠ 64) : ∃ cap, v = .func (.func 57) #[] cap ∧ Stp.ok ⟨57, cap, wrC i (chunks l N)⟩ w s := by
  obtain ⟨ga, gb, A, c, rfl, h1, h2, h3, h4, h5⟩ := h
  refine ⟨_, rfl, ent57, fun W v D t hb hok hf ht hs => ?_⟩
  have hfit := hf.wr i (chunks l N) (fun b hb => chunks_mem hl b hb) (by rw [chunks_len]; omega)
  refine ⟨?_, hfit.1.more (by rw [chunks_len]; omega), hfit.2 ▸ hs⟩
  exact write_step hok hf (by omega) (by rw [hs]; exact hs64) ga gb A c N i l (by omega) hl ((h3.below hb (Nat.le_refl _)).more hb.size) h4 h5 (by omega) (box_at h1 hb) (box_at h2 hb)
theorem steps5 {w : World} {v : Value} {D : DD} {t : Nat} {i k : Nat} {l : List UInt8} {gs : Nat} {v1 v2 v4 : Value} (h : Okd w v D) (hf : Fit D t) (ht : t ≤ 10000) (h64 : D.S.length ≠ 64) (hl : l.length = 64 * k) (hk : 1 ≤ k) (hk2 : k ≤ 96) (hi : i + k + 1 ≤ D.S.length)
    (hg : w.heap[gs]? = some (.cells #[v1, v2, f37, v4, f37] 79 (0, 0))) (h1 : FnO w v1 ((i + 1 : Nat) : Int) (l.drop 64)) (h2 : FnO w v2 ((i + k : Nat) : Int) nz) (h4 : FnO w v4 (i : Int) (l.take 64)) :
    Calls Try.prog 34 #[v, .slice (some ⟨gs, 0, none⟩) 5 5] w fun e w' => ∃ v', e = .returned (.tuple #[v', .int .i64 (runD (appSteps i k l) D).2]) ∧ Okd w' v' (runD (appSteps i k l) D).1 ∧ Below w.heap.size w w' := by
  obtain ⟨c1, rfl, o1⟩ := stp_write (s := D.S.length) (N := k - 1) h1 (by rw [List.length_drop]; omega) (by omega) (by omega) h64
  obtain ⟨c2, rfl, o2⟩ := stp_write (s := D.S.length) (N := 1) h2 nz_len (by omega) (by omega) h64
  obtain ⟨c4, rfl, o4⟩ := stp_write (s := D.S.length) (N := 1) h4 (by rw [List.length_take]; omega) (by omega) (by omega) h64
  have hc : chunks nz 1 = [nz] := by decide
  have hc4 : chunks (l.take 64) 1 = [l.take 64] := by
    have := chunks_drop (l.take 64) 0
    rw [List.take_take, Nat.min_self] at this
    exact this
  have hq := do_any w v D t D.S.length gs [⟨57, c1, wrC ((i + 1 : Nat) : Int) (chunks (l.drop 64) (k - 1))⟩, ⟨57, c2, wrC ((i + k : Nat) : Int) (chunks nz 1)⟩, ⟨37, #[], flD⟩, ⟨57, c4, wrC (i : Int) (chunks (l.take 64) 1)⟩, ⟨37, #[], flD⟩] h hf ht rfl h64 (fun q hq => by
    simp only [List.mem_cons, List.not_mem_nil, or_false] at hq
    rcases hq with rfl | rfl | rfl | rfl | rfl
    · exact o1
    · exact o2
    · exact stp_flush _ _
    · exact o4
    · exact stp_flush _ _) (by simp) ⟨lt_of_at hg, fun j hj => by
      rw [cell_of_row w gs j _ _ _ hg]
      simp only [List.length_cons, List.length_nil] at hj
      have : j = 0 ∨ j = 1 ∨ j = 2 ∨ j = 3 ∨ j = 4 := by omega
      rcases this with rfl | rfl | rfl | rfl | rfl <;> rfl⟩
  simp only [List.map_cons, List.map_nil, hc, hc4] at hq
  exact hq
def AppP (w : World) (D : DD) (f n a x : Int) (d : List UInt8) (e : Ending) (w' : World) : Prop :=
  ∃ v', e = .returned (.tuple #[v', l4v (appR D f n a x d).2.1, .int .i64 (appR D f n a x d).2.2]) ∧ OkE w' v' (appR D f n a x d).1 (appR D f n a x d).2.2 ∧ Below w.heap.size w w'
set_option maxRecDepth 100000 in
set_option maxHeartbeats 8000000 in
theorem append_run (w : World) (v : Value) (D : DD) (t : Nat) (f n a x : Int) (A : Option Addr) (d : List UInt8) (c : Nat) (h : Okd w v D) (hf : Fit D t) (ht : t ≤ 9000) (h64 : D.S.length ≠ 64) (hn2 : n ≤ 9223372036854775807) (ha2 : a ≤ 9223372036854775807) (hx0 : -9223372036854775808 ≤ x) (hx2 : x ≤ 9223372036854775807) (hf0 : -9223372036854775808 ≤ f) (hf2 : f ≤ 9223372036854775807) (hn0 : -9223372036854775808 ≤ n) (ha0 : -9223372036854775808 ≤ a)
    (ho : Octs w w.heap.size A d) (hdl : d.length ≤ 9223372036854775807) :
    Calls Try.prog 13 #[v, lgv f n a x, .slice A d.length c] w (AppP w D f n a x d) := by
  obtain ⟨Ad, cd, Ad', cd', hv, hd, hz⟩ := h
  have hok : Okd w v D := ⟨Ad, cd, Ad', cd', hv, hd, hz⟩
  subst hv
  have hSl : D.S.length ≤ 4096 ∧ D.W.length ≤ 9000 ∧ -1 ≤ D.L := ⟨((may_iff _ _ _).1 hf.may).2.1, by have := hf.w_; omega, ((may_iff _ _ _).1 hf.may).2.2.1⟩
  obtain ⟨n0, hn0'⟩ : ∃ n0, n0 = D.S.length := ⟨_, rfl⟩
  obtain ⟨m0, hm0⟩ : ∃ m0, m0 = D.W.length := ⟨_, rfl⟩
  obtain ⟨L0, hL0⟩ : ∃ L0, L0 = D.L := ⟨_, rfl⟩
  obtain ⟨O0, hO0⟩ : ∃ O0, O0 = D.O := ⟨_, rfl⟩
  obtain ⟨dl, hdl'⟩ : ∃ dl, dl = d.length := ⟨_, rfl⟩
  obtain ⟨w1, hw1⟩ : ∃ w1, w1 = (((w.alloc (.cells #[.slice Ad n0 cd, .slice Ad' m0 cd', .int .i64 L0, .bool O0] 25 (0, 0))).alloc (lgo f n a x)).alloc zdo).alloc (lgo 0 0 0 0) := ⟨_, rfl⟩
  have X1 : Hid (AB w (.cells #[.slice Ad n0 cd, .slice Ad' m0 cd', .int .i64 L0, .bool O0] 25 (0, 0)) (lgo f n a x) w1) := by show AB _ _ _ _; rw [hw1]; exact AB.new _ _ _
  rw [← hn0', ← hm0, ← hL0, ← hO0] at hok ⊢
  rw [← hdl'] at hdl ⊢
  rw [← hn0', ← hm0] at hd
  rw [← hn0', ← hm0, ← hL0] at hSl
  rw [← hn0'] at h64
  have HOK := Lib.hid hok
  have HF := Lib.hid hf
  have HO := Lib.hid ho
  have HW := Lib.hid hw1
  have HDL := Lib.hid hdl'
  have HN0 : Hid (n0 = D.S.length ∧ m0 = D.W.length ∧ L0 = D.L ∧ O0 = D.O) := ⟨hn0', hm0, hL0, hO0⟩
  have HDsk : Hid (Dsk w Ad n0 cd Ad' m0 cd' D.S D.W) := hd
  obtain ⟨hS4096, hW9000, hL1⟩ := hSl
  clear hd hz hok hw1 ho hdl' hn0' hm0 hL0 hO0 hf
  obtain ⟨k0, k1, k2, k3, kf⟩ := cells_log X1.out.l
  obtain ⟨r0, r1, r2, r3, rf⟩ := cells_of4 X1.out.rd
  obtain ⟨z0, z1, z2, z3, zf⟩ := cells_log X1.out.rl
  have hdl9 : dl ≤ 9223372036854775807 := hdl
  clear hdl
  cases hMB : Fra.mayB x dl with
  | false =>
    have HR : Hid (appR D f n a x d = (D, (0, 0, 0, 0), 1)) := by
      show _ = _
      unfold appR
      rw [← HDL.out, hMB]
      rfl
    have HMB := Lib.hid hMB
    clear hMB
    go_enter Try.func13, Try.ntmps13
    go_upto_region 1 with fail
    rw [← HW.out]
    go_wp2_with fail
    refine (Fra.lay_no x A dl c w1 hdl9 HMB.out).mono ?_
    rintro e w2 ⟨rfl, hb2⟩
    have X2 := Lib.hid (X1.out.below hb2)
    clear hb2 k0 k1 k2 k3 kf r0 r1 r2 r3 rf z0 z1 z2 z3 zf
    obtain ⟨r0, r1, r2, r3, rf⟩ := cells_of4 X2.out.rd
    obtain ⟨z0, z1, z2, z3, zf⟩ := cells_log X2.out.rl
    go_wp2_with fail
    refine bodyPost_ret (v := .tuple #[dz, lgv 0 0 0 0, .int .i64 1]) (by simp [results, Try.results13, go_sem, r0, r1, r2, r3, z0, z1, z2, z3]) rfl ⟨dz, by rw [HR.out], ?_, ?_⟩
    · rw [HR.out]; exact OkE.none_ (e := 1) (by decide) (by decide)
    · exact st4_below (st4_below X2.out.b (by omega) _ _ _ _) (by omega) _ _ _ _
  | true =>
    obtain ⟨hx1, hx3, hd6⟩ := mayB_parts hMB
    have HMB := Lib.hid hMB
    clear hMB
    obtain ⟨x', rfl⟩ : ∃ x' : Nat, x = (x' : Int) := ⟨x.toNat, by omega⟩
    have HLAY : Hid (∀ W, Below w1.heap.size w1 W → Calls Try.prog 32 #[.agg #[.int .i64 (x' : Int), .slice A dl c]] W (Fra.Laid W x' d)) := fun W hb => by
      have := Fra.lay_yes x' A d c W.heap.size W (octs_chk ((HO.out.below (X1.out.b.trans (hb.mono X1.out.b.size)) (Nat.le_refl _)).more (Nat.le_trans X1.out.b.size hb.size))) (Nat.le_refl _) (by omega) (by omega) (by rw [← HDL.out]; exact hd6)
      rwa [← HDL.out] at this
    go_enter Try.func13, Try.ntmps13
    go_upto_region 1 with fail
    rw [← HW.out]
    go_wp2_with fail
    refine (HLAY.out w1 (Below.refl _ _)).mono ?_
    rintro e w2 ⟨v7, rfl, hown7, hb2⟩
    have X2 := Lib.hid (X1.out.below hb2)
    obtain ⟨gl, cl, rfl, hgl, hgl2, hcl⟩ := Chk.own_form hown7 (by rw [Frm.lay_len]; unfold Frm.size Frm.sect; omega)
    obtain ⟨ll, hll⟩ : ∃ ll, ll = (Frm.lay x' d).length := ⟨_, rfl⟩
    obtain ⟨k, hk⟩ : ∃ k, k = Frm.sect dl := ⟨_, rfl⟩
    have HL7 : Hid (ll = 64 * k ∧ ll = (Frm.lay x' d).length) := ⟨by rw [hll, hk, Frm.lay_len, HDL.out]; unfold Frm.size; omega, hll⟩
    have hk1 : 1 ≤ k ∧ k ≤ 96 := by rw [hk]; unfold Frm.sect; omega
    have HK := Lib.hid hk
    have OL : Hid (Octs w2 w2.heap.size (some ⟨gl, 0, none⟩) (Frm.lay x' d)) := by
      obtain ⟨A7, c7, e7, o7, -⟩ := own_octs hown7
      cases e7
      exact o7
    rw [← hll] at hcl ⊢
    have hcl9 : cl ≤ 9223372036854775807 := by
      rcases hown7.2 with ⟨e, _⟩ | ⟨g, cap, cur, e, _, _, _, hm, _⟩
      · cases e
      · cases e
        simpa only [maxLen] using hm
    clear hb2 hown7 hll hk k0 k1 k2 k3 kf r0 r1 r2 r3 rf z0 z1 z2 z3 zf HLAY
    obtain ⟨k0, k1, k2, k3, kf⟩ := cells_log X2.out.l
    obtain ⟨q0, q1, q2, q3, qf⟩ := cells_of4 X2.out.d
    have HD2 := Lib.hid (HDsk.out.below X2.out.b)
    go_wp2_with fail
    refine (may_l L0 O0 f n a (x' : Int) HD2.out (by omega) (by omega) hf0 hf2).mono ?_
    rintro e w3 ⟨rfl, hb3⟩
    have X3 := Lib.hid (X2.out.below hb3)
    have OL3 := Lib.hid ((OL.out.below hb3 (Nat.le_refl _)).more hb3.size)
    clear hb3 k0 k1 k2 k3 kf q0 q1 q2 q3 qf HD2
    obtain ⟨r0, r1, r2, r3, rf⟩ := cells_of4 X3.out.rd
    obtain ⟨z0, z1, z2, z3, zf⟩ := cells_log X3.out.rl
    cases hML : mayLB D.S D.W L0 f n a (x' : Int) with
    | false =>
      have HR : Hid (appR D f n a (x' : Int) d = (D, (0, 0, 0, 0), 1)) := by
        show _ = _
        unfold appR
        rw [← HDL.out, HMB.out, ← HN0.out.2.2.1, hML]
        rfl
      clear hML
      go_wp2_with fail
      refine bodyPost_ret (v := .tuple #[dz, lgv 0 0 0 0, .int .i64 1]) (by simp [results, Try.results13, go_sem, r0, r1, r2, r3, z0, z1, z2, z3]) rfl ⟨dz, by rw [HR.out], ?_, ?_⟩
      · rw [HR.out]; exact OkE.none_ (e := 1) (by decide) (by decide)
      · exact st4_below (st4_below X3.out.b (by omega) _ _ _ _) (by omega) _ _ _ _
    | true =>
      obtain ⟨hmay, p1, p2, p3, p4, p5, p6, p7⟩ := mayLB_iff.1 hML
      have HML := Lib.hid hML
      clear hML hmay
      obtain ⟨k0, k1, k2, k3, kf⟩ := cells_log X3.out.l
      go_wp2_with fail
      refine (room_any f n a (x' : Int) (dl : Int) w3 hn0 hn2 ha0 ha2).mono ?_
      rintro e w4 ⟨rfl, hb4⟩
      have X4 := Lib.hid (X3.out.below hb4)
      have OL4 := Lib.hid ((OL3.out.below hb4 (Nat.le_refl _)).more hb4.size)
      clear hb4 k0 k1 k2 k3 kf r0 r1 r2 r3 rf z0 z1 z2 z3 zf
      obtain ⟨r0, r1, r2, r3, rf⟩ := cells_of4 X4.out.rd
      obtain ⟨z0, z1, z2, z3, zf⟩ := cells_log X4.out.rl
      cases hRB : roomB n a (dl : Int) with
      | false =>
        have HR : Hid (appR D f n a (x' : Int) d = (D, (0, 0, 0, 0), 9)) := by
          show _ = _
          unfold appR
          rw [← HDL.out, HMB.out, ← HN0.out.2.2.1, HML.out, hRB]
          rfl
        clear hRB
        go_wp2_with fail
        refine bodyPost_ret (v := .tuple #[dz, lgv 0 0 0 0, .int .i64 9]) (by simp [results, Try.results13, go_sem, r0, r1, r2, r3, z0, z1, z2, z3]) rfl ⟨dz, by rw [HR.out], ?_, ?_⟩
        · rw [HR.out]; exact OkE.none_ (e := 9) (by decide) (by decide)
        · exact st4_below (st4_below X4.out.b (by omega) _ _ _ _) (by omega) _ _ _ _
      | true =>
        have hrm := (roomB_iff (n := n) (a := a) hd6).1 hRB
        obtain ⟨-, -, -, hrm⟩ := hrm
        have hRk : (k : Int) < n - a := by have := HK.out; omega
        have hSLn : n ≤ (n0 : Int) - f := by have := HN0.out.1; omega
        obtain ⟨q, hq⟩ : ∃ q, q = runD (appSteps (f + a).toNat k (Frm.lay x' d)) D := ⟨_, rfl⟩
        have HR : Hid (appR D f n a (x' : Int) d = if q.2 = 0 then (q.1, (f, n, a + (k : Int), (x' : Int) + 1), 0) else (q.1, (0, 0, 0, 0), q.2)) := by
          show _ = _
          unfold appR
          rw [← HDL.out, HMB.out, ← HN0.out.2.2.1, HML.out, hRB, ← HK.out, hq]
          rfl
        have hfit := app_fit (i := (f + a).toNat) HF.out (l := Frm.lay x' d) (k := k) (by have := HL7.out; omega) hk1.1 hk1.2 (by have := HN0.out.1; omega)
        rw [← hq] at hfit
        obtain ⟨hfq, hsq, heq⟩ := hfit
        have HSQ : Hid (q.1.S.length ≠ 64) := by show q.1.S.length ≠ 64; rw [hsq, ← HN0.out.1]; exact h64
        have HQ := Lib.hid hq
        have hsz : sectZ (dl : Int) = (k : Int) := by rw [sectZ_nat hd6, HK.out]
        have HSZ := Lib.hid hsz
        have HRB := Lib.hid hRB
        clear hRB hrm hq hsq hsz r0 r1 r2 r3 rf z0 z1 z2 z3 zf
        go_upto_region 6 with fail
        refine wp_region_acts (by kernel_rfl) (w4.heap.size) (Nat.le_refl _) [kv (.pointer (some ⟨w.heap.size + 1, 0, none⟩)), kv (.int .i64 f), kv (.pointer (some ⟨w.heap.size + 1, 2, none⟩)), kv (.int .i64 a), kv (.int .i64 (f + a)), kv (lgv f n a (x' : Int)), kv (.slice A dl c), kv (.int .i64 (dl : Int)), kv (lgv f n (a + (k : Int)) ((x' : Int) + 1)), lfBox 1 w4.heap.size, kv (.int .i64 (f + a)), lfSL w4.heap.size f n (a + (k : Int)) ((x' : Int) + 1)] [38, 39, 40, 41, 42, 43, 44, 45, 46, 12, 11, 12] [none, none, none, none, none, none, none, none, none, none, none, some 1] rfl (fun _ _ => True) ?hgam6 (by kernel_rfl) (backsB_spec (by kernel_rfl)) ?start6 ?step6 ?store6 ?fin6
        case hgam6 =>
          intro listed i w2 w3 hki hlo2 hb2 hg2
          exact trivial
        case start6 => exact trivial
        case step6 =>
          intro i o listed a1 w2 hki ho h0 hclo hk hdep
          have hi : i < 12 := (Array.getElem?_eq_some_iff.1 ho).1
          have e2 := ev (show a1.eval (.tmp 2) = .slice A dl c from hk.frame 2 (frame_of (by kernel_rfl)))
          have e4 := ev (show a1.eval (.tmp 4) = .pointer (some ⟨w.heap.size + 1, 0, none⟩) from hk.frame 4 (frame_of (by kernel_rfl)))
          obtain ⟨k0, k1, k2, k3, kf⟩ := cells_log (box_at X4.out.l hk.below)
          clear kf
          have hii : i = 0 ∨ i = 1 ∨ i = 2 ∨ i = 3 ∨ i = 4 ∨ i = 5 ∨ i = 6 ∨ i = 7 ∨ i = 8 ∨ i = 9 ∨ i = 10 ∨ i = 11 := by omega
          rcases hii with rfl | rfl | rfl | rfl | rfl | rfl | rfl | rfl | rfl | rfl | rfl | rfl
          · cases ho
            refine wpOp_of rfl rfl (wp_value (v := .pointer (some ⟨w.heap.size + 1, 0, none⟩)) ?_ rfl)
            go_simp
          · cases ho
            have d0 := ev (show a1.eval (.tmp 38) = .pointer (some ⟨w.heap.size + 1, 0, none⟩) from hk.done 0 _ 38 rfl rfl (hdep ⟨0, .data⟩ (by simp) rfl))
            refine wpOp_of rfl rfl (wp_value (v := .int .i64 f) ?_ rfl)
            go_simp
          · cases ho
            refine wpOp_of rfl rfl (wp_value (v := .pointer (some ⟨w.heap.size + 1, 2, none⟩)) ?_ rfl)
            go_simp
          · cases ho
            have d2 := ev (show a1.eval (.tmp 40) = .pointer (some ⟨w.heap.size + 1, 2, none⟩) from hk.done 2 _ 40 rfl rfl (hdep ⟨2, .data⟩ (by simp) rfl))
            refine wpOp_of rfl rfl (wp_value (v := .int .i64 a) ?_ rfl)
            go_simp
          · cases ho
            have d1 := ev (show a1.eval (.tmp 39) = .int .i64 f from hk.done 1 _ 39 rfl rfl (hdep ⟨1, .data⟩ (by simp) rfl))
            have d3 := ev (show a1.eval (.tmp 41) = .int .i64 a from hk.done 3 _ 41 rfl rfl (hdep ⟨3, .data⟩ (by simp) rfl))
            refine wpOp_of rfl rfl (wp_value (v := .int .i64 (f + a)) ?_ rfl)
            go_simp
            rw [IntKind.wrap_i64]; omega
          · cases ho
            refine wpOp_of rfl rfl (wp_value (v := lgv f n a (x' : Int)) ?_ rfl)
            go_simp
          · cases ho
            refine wpOp_of rfl rfl (wp_value (v := .slice A dl c) ?_ rfl)
            simp [execOp, e2, Act.eval]
          · cases ho
            have d6 := ev (show a1.eval (.tmp 44) = .slice A dl c from hk.done 6 _ 44 rfl rfl (hdep ⟨6, .data⟩ (by simp) rfl))
            refine wpOp_of rfl rfl (wp_value (v := .int .i64 (dl : Int)) ?_ rfl)
            go_simp
          · cases ho
            have d5 := ev (show a1.eval (.tmp 43) = lgv f n a (x' : Int) from hk.done 5 _ 43 rfl rfl (hdep ⟨5, .data⟩ (by simp) rfl))
            have d7 := ev (show a1.eval (.tmp 45) = .int .i64 (dl : Int) from hk.done 7 _ 45 rfl rfl (hdep ⟨7, .data⟩ (by simp) rfl))
            refine wpOp_of rfl rfl ?_
            go_simp
            have hbh := behind_any f n a (x' : Int) (dl : Int) w2 ha0 (by omega) (by omega) (by omega)
            rw [HSZ.out] at hbh
            refine hbh.mono ?_
            rintro e w3 ⟨rfl, hb3⟩
            exact ⟨_, rfl, rfl, hb3⟩
          · cases ho
            refine wpOp_of rfl rfl ?_
            go_simp
            exact ⟨_, rfl, ⟨_, _, rfl, hk.below.size, box_new _ _, shp1 _ _ _ _⟩, (Below.refl _ _).alloc (Nat.le_refl _) _⟩
          · cases ho
            have d4 := ev (show a1.eval (.tmp 42) = .int .i64 (f + a) from hk.done 4 _ 42 rfl rfl (hdep ⟨4, .data⟩ (by simp) rfl))
            refine wpOp_of rfl rfl (wp_value (v := .int .i64 (f + a)) ?_ rfl)
            simp [execOp, d4, Act.eval]
          · exact absurd hki (by simp)
        case store6 =>
          intro i K o listed a1 w2 hki ho h0 hclo hk hdep
          have hi : i < 12 := (Array.getElem?_eq_some_iff.1 ho).1
          have e2 := ev (show a1.eval (.tmp 2) = .slice A dl c from hk.frame 2 (frame_of (by kernel_rfl)))
          have e4 := ev (show a1.eval (.tmp 4) = .pointer (some ⟨w.heap.size + 1, 0, none⟩) from hk.frame 4 (frame_of (by kernel_rfl)))
          have hii : i = 0 ∨ i = 1 ∨ i = 2 ∨ i = 3 ∨ i = 4 ∨ i = 5 ∨ i = 6 ∨ i = 7 ∨ i = 8 ∨ i = 9 ∨ i = 10 ∨ i = 11 := by omega
          rcases hii with rfl | rfl | rfl | rfl | rfl | rfl | rfl | rfl | rfl | rfl | rfl | rfl
          · exact absurd hki (by simp)
          · exact absurd hki (by simp)
          · exact absurd hki (by simp)
          · exact absurd hki (by simp)
          · exact absurd hki (by simp)
          · exact absurd hki (by simp)
          · exact absurd hki (by simp)
          · exact absurd hki (by simp)
          · exact absurd hki (by simp)
          · exact absurd hki (by simp)
          · exact absurd hki (by simp)
          · cases hki
            cases ho
            have d8 := ev (show a1.eval (.tmp 46) = lgv f n (a + (k : Int)) ((x' : Int) + 1) from hk.done 8 _ 46 rfl rfl (hdep ⟨8, .data⟩ (by simp) rfl))
            obtain ⟨g, o1, hg, hge, hgo, hgs⟩ := hk.done 9 _ 12 rfl rfl (hdep ⟨9, .data⟩ (by simp) rfl)
            have d9 := ev hg
            obtain ⟨y0, y1, y2, y3, j0, j1, j2, j3, jf⟩ := cells_any1 hgo hgs
            refine wpOp_of rfl rfl ?_
            go_simp
            exact ⟨rfl, ⟨g, hg, hge, log_at hgo hgs _ _ _ _⟩, st4_below (Below.refl _ _) hge _ _ _ _, rk_log hgo hgs _ _ _ _, trivial⟩
        case fin6 =>
          intro listed a2 w2 hall hk
          have hact := keptA_all [38, 39, 40, 41, 42, 43, 44, 45, 46, 12, 11] hk (by kernel_rfl)
          have h38 := hk.done 0 _ 38 rfl rfl (hall 0 (by decide))
          have h39 := hk.done 1 _ 39 rfl rfl (hall 1 (by decide))
          have h40 := hk.done 2 _ 40 rfl rfl (hall 2 (by decide))
          have h41 := hk.done 3 _ 41 rfl rfl (hall 3 (by decide))
          have h42 := hk.done 4 _ 42 rfl rfl (hall 4 (by decide))
          have h43 := hk.done 5 _ 43 rfl rfl (hall 5 (by decide))
          have h44 := hk.done 6 _ 44 rfl rfl (hall 6 (by decide))
          have h45 := hk.done 7 _ 45 rfl rfl (hall 7 (by decide))
          have h46 := hk.done 8 _ 46 rfl rfl (hall 8 (by decide))
          have h12 := hk.done 9 _ 12 rfl rfl (hall 9 (by decide))
          have h11 := hk.done 10 _ 11 rfl rfl (hall 10 (by decide))
          have s11 := hk.acts 11 _ rfl rfl (hall 11 (by decide))
          change PhK _ 11 (a2.eval (.tmp 12)) w2 at s11
          have HB := Lib.hid hk.below
          simp only [List.foldl_cons, List.foldl_nil, List.setIfInBounds_toArray, List.set_cons_succ, List.set_cons_zero] at hact
          generalize a2.eval (.tmp 38) = u38 at hact h38
          generalize a2.eval (.tmp 39) = u39 at hact h39
          generalize a2.eval (.tmp 40) = u40 at hact h40
          generalize a2.eval (.tmp 41) = u41 at hact h41
          generalize a2.eval (.tmp 42) = u42 at hact h42
          generalize a2.eval (.tmp 43) = u43 at hact h43
          generalize a2.eval (.tmp 44) = u44 at hact h44
          generalize a2.eval (.tmp 45) = u45 at hact h45
          generalize a2.eval (.tmp 46) = u46 at hact h46
          generalize a2.eval (.tmp 12) = u12 at hact h12 s11
          generalize a2.eval (.tmp 11) = u11 at hact h11
          rw [hact]
          clear hact
          obtain rfl : u11 = .int .i64 (f + a) := h11
          obtain ⟨g12, rfl, hg12, hbx12⟩ := s11
          obtain ⟨w5, rfl⟩ : ∃ x, x = w2 := ⟨w2, rfl⟩
          have X5 := Lib.hid (X4.out.below HB.out)
          have BX := Lib.hid hbx12
          have OL5 := Lib.hid ((OL4.out.below HB.out (Nat.le_refl _)).more HB.out.size)
          have HOK5 := Lib.hid (HOK.out.below X5.out.b)
          have hg12' : w.heap.size + 3 < g12 := by have := lt_of_at X4.out.rl; omega
          clear h12 h38 h39 h40 h41 h42 h43 h44 h45 h46 hbx12 hg12
          obtain ⟨sx, hi⟩ : ∃ sx : Nat, f + a = (sx : Int) := ⟨(f + a).toNat, by omega⟩
          have HQ2 : Hid (q = runD (appSteps sx k (Frm.lay x' d)) D) := by show _ = _; rw [HQ.out, hi]; rfl
          have hik : (sx : Int) + (k : Int) + 1 ≤ (n0 : Int) := by omega
          have hfak : f + (a + (k : Int)) = (sx : Int) + (k : Int) := by omega
          go_upto_region 7 with fail
          rw [hi]
          have HL5 : Hid (ll - 64 = ((Frm.lay x' d).drop 64).length) := by show _ = _; rw [List.length_drop, ← HL7.out.2]
          have HL6 : Hid (64 = ((Frm.lay x' d).take 64).length) := by show 64 = _; rw [List.length_take, ← HL7.out.2]; have := HL7.out.1; omega
          have HNB : Hid True := trivial
          have i64 : (64 : Int) ≤ (ll : Int) := by have := HL7.out.1; omega
          have i65 : (ll : Int) ≤ (cl : Int) := by omega
          have i66 : (64 : Int) ≤ (cl : Int) := by have := HL7.out.1; omega
          refine wp_region_acts (by kernel_rfl) (w.heap.size) (X5.out.b.size) [kv (dv Ad n0 cd Ad' m0 cd' L0 O0), kv (.int .i64 (sx : Int)), kv (.int .i64 ((sx : Int) + 1)), kv (.slice (some ⟨gl, 0, none⟩) ll cl), kv (.slice (from64 gl cl) (ll - 64) (cl - 64)), lfFn ((sx : Int) + 1) ((Frm.lay x' d).drop 64), kv (.pointer (some ⟨g12, 0, none⟩)), kv (.int .i64 f), kv (.pointer (some ⟨g12, 2, none⟩)), kv (.int .i64 (a + (k : Int))), kv (.int .i64 ((sx : Int) + (k : Int))), lfNz, lfFn ((sx : Int) + (k : Int)) nz, kv (.int .i64 (sx : Int)), kv (.slice (some ⟨gl, 0, none⟩) ll cl), kv (.slice (some ⟨gl, 0, none⟩) 64 cl), lfFn (sx : Int) ((Frm.lay x' d).take 64), lfRow5 ((sx : Int) + 1) ((sx : Int) + (k : Int)) (sx : Int) ((Frm.lay x' d).drop 64) nz ((Frm.lay x' d).take 64), lfT2 q.1 (t + 500) hfq q.2, lfT2 q.1 (t + 500) hfq q.2, lfE q.1 (t + 500) hfq q.2, kv (.int .i64 q.2), lfDAt w.heap.size q.1 (t + 500) hfq q.2, kv (.int .i64 q.2)] [48, 49, 50, 51, 52, 53, 54, 55, 56, 57, 58, 59, 60, 61, 62, 63, 64, 65, 66, 47, 67, 68, 3, 10] [none, none, none, none, none, none, none, none, none, none, none, none, none, none, none, none, none, none, none, none, none, none, some 0, none] rfl (fun (listed : Array Bool) (w' : World) => Okd w' (dv Ad n0 cd Ad' m0 cd' L0 O0) D ∧ (listed.getD 22 false = false → w'.heap[w.heap.size]? = some (.cells #[.slice Ad n0 cd, .slice Ad' m0 cd', .int .i64 L0, .bool O0] 25 (0, 0))) ∧ (∃ od, AB w od (lgo f n a (x' : Int)) w' ∧ Shp 0 od) ∧ Octs w' w'.heap.size (some ⟨gl, 0, none⟩) (Frm.lay x' d) ∧ w'.heap[g12]? = some (lgo f n (a + (k : Int)) ((x' : Int) + 1))) ?hgam7 (by kernel_rfl) (backsB_spec (by kernel_rfl)) ?start7 ?step7 ?store7 ?fin7
          case hgam7 =>
            intro listed i w2 w3 hki hlo2 hb2 hg2
            obtain ⟨g1, g2, ⟨od, g3, g3s⟩, g4, g5⟩ := hg2
            refine ⟨g1.below hb2, fun hc => box_at (g2 ?_) hb2, ⟨od, g3.below hb2, g3s⟩, (g4.below hb2 (Nat.le_refl _)).more hb2.size, box_at g5 hb2⟩
            cases hh : listed.getD 22 false with
            | false => rfl
            | true => rw [getD_set_mono hh] at hc; cases hc
          case start7 => exact ⟨HOK5.out.below (below_dr0 _), fun _ => X5.out.d, ⟨_, X5.out.below (below_dr0 _), shp0 _ _ _ _ _ _ _ _ h64⟩, (OL5.out.below (below_dr0 _) (Nat.le_refl _)).more (Nat.le_refl _), BX.out⟩
          case step7 =>
            intro i o listed a1 w2 hki ho h0 hclo hk hdep
            have hi : i < 24 := (Array.getElem?_eq_some_iff.1 ho).1
            have e3 := ev (show a1.eval (.tmp 3) = .pointer (some ⟨w.heap.size, 0, none⟩) from hk.frame 3 (frame_of (by kernel_rfl)))
            have e9 := ev (show a1.eval (.tmp 9) = .slice (some ⟨gl, 0, none⟩) ll cl from hk.frame 9 (frame_of (by kernel_rfl)))
            have e11 := ev (show a1.eval (.tmp 11) = .int .i64 (sx : Int) from hk.frame 11 (frame_of (by kernel_rfl)))
            have e12 := ev (show a1.eval (.tmp 12) = .pointer (some ⟨g12, 0, none⟩) from hk.frame 12 (frame_of (by kernel_rfl)))
            have hii : i = 0 ∨ i = 1 ∨ i = 2 ∨ i = 3 ∨ i = 4 ∨ i = 5 ∨ i = 6 ∨ i = 7 ∨ i = 8 ∨ i = 9 ∨ i = 10 ∨ i = 11 ∨ i = 12 ∨ i = 13 ∨ i = 14 ∨ i = 15 ∨ i = 16 ∨ i = 17 ∨ i = 18 ∨ i = 19 ∨ i = 20 ∨ i = 21 ∨ i = 22 ∨ i = 23 := by omega
            rcases hii with rfl | rfl | rfl | rfl | rfl | rfl | rfl | rfl | rfl | rfl | rfl | rfl | rfl | rfl | rfl | rfl | rfl | rfl | rfl | rfl | rfl | rfl | rfl | rfl
            · cases ho
              have h22 : listed.getD 22 false = false := by
                cases hh : listed.getD 22 false with
                | false => rfl
                | true =>
                  have h00 := closed_of hclo (i := 0) (j := 22) (by kernel_rfl) hh
                  rw [getD_tf h0] at h00; cases h00
              obtain ⟨k0, k1, k2, k3, kf⟩ := cells_of4 (hk.gam.2.1 h22)
              refine wpOp_of rfl rfl (wp_value (v := dv Ad n0 cd Ad' m0 cd' L0 O0) ?_ rfl)
              go_simp
            · cases ho
              refine wpOp_of rfl rfl (wp_value (v := .int .i64 (sx : Int)) ?_ rfl)
              simp [execOp, e11, Act.eval]
            · cases ho
              have d1 := ev (show a1.eval (.tmp 49) = .int .i64 (sx : Int) from hk.done 1 _ 49 rfl rfl (hdep ⟨1, .data⟩ (by simp) rfl))
              refine wpOp_of rfl rfl (wp_value (v := .int .i64 ((sx : Int) + 1)) ?_ rfl)
              go_simp
              rw [IntKind.wrap_i64]; omega
            · cases ho
              refine wpOp_of rfl rfl (wp_value (v := .slice (some ⟨gl, 0, none⟩) ll cl) ?_ rfl)
              simp [execOp, e9, Act.eval]
            · cases ho
              have d3 := ev (show a1.eval (.tmp 51) = .slice (some ⟨gl, 0, none⟩) ll cl from hk.done 3 _ 51 rfl rfl (hdep ⟨3, .data⟩ (by simp) rfl))
              refine wpOp_of rfl rfl (wp_value (v := .slice (from64 gl cl) (ll - 64) (cl - 64)) ?_ rfl)
              unfold from64
              by_cases hc64 : cl = 64
              · go_simp
              · go_simp
            · cases ho
              have d2 := ev (show a1.eval (.tmp 50) = .int .i64 ((sx : Int) + 1) from hk.done 2 _ 50 rfl rfl (hdep ⟨2, .data⟩ (by simp) rfl))
              have d4 := ev (show a1.eval (.tmp 52) = .slice (from64 gl cl) (ll - 64) (cl - 64) from hk.done 4 _ 52 rfl rfl (hdep ⟨4, .data⟩ (by simp) rfl))
              refine wpOp_of rfl rfl ?_
              go_simp
              refine (write_fn ((sx : Int) + 1) (from64 gl cl) (ll - 64) (cl - 64) w2).mono ?_
              rintro e w3 ⟨rfl, hga, hgb, hb3⟩
              exact ⟨_, rfl, ⟨_, _, _, _, rfl, hga, by rw [HL5.out] at hgb; exact hgb, ((Octs.from64 hk.gam.2.2.2.1 (by rw [← HL7.out.2]; exact hcl)).below hb3 (Nat.le_refl _)).more hb3.size, by rw [← HL5.out]; omega, by omega⟩, hb3⟩
            · cases ho
              refine wpOp_of rfl rfl (wp_value (v := .pointer (some ⟨g12, 0, none⟩)) ?_ rfl)
              go_simp
            · cases ho
              have d6 := ev (show a1.eval (.tmp 54) = .pointer (some ⟨g12, 0, none⟩) from hk.done 6 _ 54 rfl rfl (hdep ⟨6, .data⟩ (by simp) rfl))
              obtain ⟨k0, k1, k2, k3, kf⟩ := cells_log hk.gam.2.2.2.2
              refine wpOp_of rfl rfl (wp_value (v := .int .i64 f) ?_ rfl)
              go_simp
            · cases ho
              refine wpOp_of rfl rfl (wp_value (v := .pointer (some ⟨g12, 2, none⟩)) ?_ rfl)
              go_simp
            · cases ho
              have d8 := ev (show a1.eval (.tmp 56) = .pointer (some ⟨g12, 2, none⟩) from hk.done 8 _ 56 rfl rfl (hdep ⟨8, .data⟩ (by simp) rfl))
              obtain ⟨k0, k1, k2, k3, kf⟩ := cells_log hk.gam.2.2.2.2
              refine wpOp_of rfl rfl (wp_value (v := .int .i64 (a + (k : Int))) ?_ rfl)
              go_simp
            · cases ho
              have d7 := ev (show a1.eval (.tmp 55) = .int .i64 f from hk.done 7 _ 55 rfl rfl (hdep ⟨7, .data⟩ (by simp) rfl))
              have d9 := ev (show a1.eval (.tmp 57) = .int .i64 (a + (k : Int)) from hk.done 9 _ 57 rfl rfl (hdep ⟨9, .data⟩ (by simp) rfl))
              refine wpOp_of rfl rfl (wp_value (v := .int .i64 ((sx : Int) + (k : Int))) ?_ rfl)
              go_simp
              rw [← hfak, IntKind.wrap_i64]; omega
            · cases ho
              refine wpOp_of rfl rfl ?_
              go_simp
              refine (noughts_any w2).mono ?_
              rintro e w3 ⟨rfl, ho3, hb3⟩
              exact ⟨_, rfl, ⟨_, rfl, ho3⟩, hb3⟩
            · cases ho
              have d10 := ev (show a1.eval (.tmp 58) = .int .i64 ((sx : Int) + (k : Int)) from hk.done 10 _ 58 rfl rfl (hdep ⟨10, .data⟩ (by simp) rfl))
              obtain ⟨gz, hgz, hoz⟩ := hk.done 11 _ 59 rfl rfl (hdep ⟨11, .data⟩ (by simp) rfl)
              have d11 := ev hgz
              refine wpOp_of rfl rfl ?_
              go_simp
              refine (write_fn ((sx : Int) + (k : Int)) (some ⟨gz, 0, none⟩) 64 64 w2).mono ?_
              rintro e w3 ⟨rfl, hga, hgb, hb3⟩
              exact ⟨_, rfl, ⟨_, _, _, _, rfl, hga, hgb, (hoz.below hb3 (Nat.le_refl _)).more hb3.size, by rw [nz_len]; decide, by decide⟩, hb3⟩
            · cases ho
              refine wpOp_of rfl rfl (wp_value (v := .int .i64 (sx : Int)) ?_ rfl)
              simp [execOp, e11, Act.eval]
            · cases ho
              refine wpOp_of rfl rfl (wp_value (v := .slice (some ⟨gl, 0, none⟩) ll cl) ?_ rfl)
              simp [execOp, e9, Act.eval]
            · cases ho
              have d14 := ev (show a1.eval (.tmp 62) = .slice (some ⟨gl, 0, none⟩) ll cl from hk.done 14 _ 62 rfl rfl (hdep ⟨14, .data⟩ (by simp) rfl))
              refine wpOp_of rfl rfl (wp_value (v := .slice (some ⟨gl, 0, none⟩) 64 cl) ?_ rfl)
              go_simp
            · cases ho
              have d13 := ev (show a1.eval (.tmp 61) = .int .i64 (sx : Int) from hk.done 13 _ 61 rfl rfl (hdep ⟨13, .data⟩ (by simp) rfl))
              have d15 := ev (show a1.eval (.tmp 63) = .slice (some ⟨gl, 0, none⟩) 64 cl from hk.done 15 _ 63 rfl rfl (hdep ⟨15, .data⟩ (by simp) rfl))
              refine wpOp_of rfl rfl ?_
              go_simp
              refine (write_fn (sx : Int) (some ⟨gl, 0, none⟩) 64 cl w2).mono ?_
              rintro e w3 ⟨rfl, hga, hgb, hb3⟩
              exact ⟨_, rfl, ⟨_, _, _, _, rfl, hga, by rw [HL6.out] at hgb; exact hgb, ((hk.gam.2.2.2.1.take 64).below hb3 (Nat.le_refl _)).more hb3.size, by rw [← HL6.out]; omega, by omega⟩, hb3⟩
            · cases ho
              obtain hf1 := hk.done 5 _ 53 rfl rfl (hdep ⟨5, .data⟩ (by simp) rfl)
              obtain hf2 := hk.done 12 _ 60 rfl rfl (hdep ⟨12, .data⟩ (by simp) rfl)
              obtain hf4 := hk.done 16 _ 64 rfl rfl (hdep ⟨16, .data⟩ (by simp) rfl)
              obtain ⟨y1, hy1⟩ : ∃ y, a1.eval (.tmp 53) = y := ⟨_, rfl⟩
              obtain ⟨y2, hy2⟩ : ∃ y, a1.eval (.tmp 60) = y := ⟨_, rfl⟩
              obtain ⟨y4, hy4⟩ : ∃ y, a1.eval (.tmp 64) = y := ⟨_, rfl⟩
              rw [hy1] at hf1
              rw [hy2] at hf2
              rw [hy4] at hf4
              obtain ⟨ga1, gb1, A1, c1, rfl, hr1⟩ := id hf1
              obtain ⟨ga2, gb2, A2, c2, rfl, hr2⟩ := id hf2
              obtain ⟨ga4, gb4, A4, c4, rfl, hr4⟩ := id hf4
              have d5 := ev hy1
              have d12 := ev hy2
              have d16 := ev hy4
              have F1 := Lib.hid hf1
              have F2 := Lib.hid hf2
              have F4 := Lib.hid hf4
              clear hf1 hf2 hf4 hr1 hr2 hr4 hy1 hy2 hy4
              refine wpOp_of rfl rfl ?_
              go_simp
              have hba : ∀ o, Below w2.heap.size w2 (w2.alloc o) := fun o => (Below.refl _ _).alloc (Nat.le_refl _) _
              exact ⟨_, rfl, ⟨_, _, _, _, rfl, box_new _ _, F1.out.below (hba _), F2.out.below (hba _), F4.out.below (hba _)⟩, hba _⟩
            · cases ho
              have d0 := ev (show a1.eval (.tmp 48) = dv Ad n0 cd Ad' m0 cd' L0 O0 from hk.done 0 _ 48 rfl rfl (hdep ⟨0, .data⟩ (by simp) rfl))
              obtain ⟨gs, v1, v2, v4, hgs, hrow, hf1, hf2, hf4⟩ := hk.done 17 _ 65 rfl rfl (hdep ⟨17, .data⟩ (by simp) rfl)
              have d17 := ev hgs
              have e1 : (((sx + 1 : Nat) : Int)) = (sx : Int) + 1 := by omega
              have e2 : (((sx + k : Nat) : Int)) = (sx : Int) + (k : Int) := by omega
              rw [← e1] at hf1
              rw [← e2] at hf2
              have hst := steps5 (i := sx) (k := k) (l := Frm.lay x' d) (hk.gam.1) HF.out (by omega) (by rw [← HN0.out.1]; exact h64) (by have := HL7.out; omega) hk1.1 hk1.2 (by have := HN0.out.1; omega) hrow hf1 hf2 hf4
              rw [← HQ2.out] at hst
              have HST := Lib.hid hst
              clear hst hrow hf1 hf2 hf4
              refine wpOp_of rfl rfl ?_
              go_simp
              refine HST.out.mono ?_
              rintro e w3 ⟨v', rfl, hok3, hb3⟩
              exact ⟨_, rfl, ⟨_, rfl, OkE.of _ hok3 HSQ.out⟩, hb3⟩
            · cases ho
              obtain ⟨xx, hv, hx⟩ := hk.done 18 _ 66 rfl rfl (hdep ⟨18, .data⟩ (by simp) rfl)
              have d18 := ev hv
              refine wpOp_of rfl rfl (wp_value ?_ ⟨xx, rfl, hx⟩)
              simp [execOp, d18, Act.eval]
            · cases ho
              obtain ⟨xx, hv, hx⟩ := hk.done 19 _ 47 rfl rfl (hdep ⟨19, .data⟩ (by simp) rfl)
              have d19 := ev hv
              refine wpOp_of rfl rfl (wp_value (v := xx) ?_ hx)
              clear hx
              go_simp
            · cases ho
              obtain ⟨xx, hv, hx⟩ := hk.done 19 _ 47 rfl rfl (hdep ⟨19, .data⟩ (by simp) rfl)
              have d19 := ev hv
              clear hx
              refine wpOp_of rfl rfl (wp_value (v := .int .i64 q.2) ?_ rfl)
              go_simp
            · exact absurd hki (by simp)
            · cases ho
              have d21 := ev (show a1.eval (.tmp 68) = .int .i64 q.2 from hk.done 21 _ 68 rfl rfl (hdep ⟨21, .data⟩ (by simp) rfl))
              refine wpOp_of rfl rfl (wp_value (v := .int .i64 q.2) ?_ rfl)
              simp [execOp, d21, Act.eval]
          case store7 =>
            intro i K o listed a1 w2 hki ho h0 hclo hk hdep
            have hi : i < 24 := (Array.getElem?_eq_some_iff.1 ho).1
            have e3 := ev (show a1.eval (.tmp 3) = .pointer (some ⟨w.heap.size, 0, none⟩) from hk.frame 3 (frame_of (by kernel_rfl)))
            have e9 := ev (show a1.eval (.tmp 9) = .slice (some ⟨gl, 0, none⟩) ll cl from hk.frame 9 (frame_of (by kernel_rfl)))
            have e11 := ev (show a1.eval (.tmp 11) = .int .i64 (sx : Int) from hk.frame 11 (frame_of (by kernel_rfl)))
            have e12 := ev (show a1.eval (.tmp 12) = .pointer (some ⟨g12, 0, none⟩) from hk.frame 12 (frame_of (by kernel_rfl)))
            have hii : i = 0 ∨ i = 1 ∨ i = 2 ∨ i = 3 ∨ i = 4 ∨ i = 5 ∨ i = 6 ∨ i = 7 ∨ i = 8 ∨ i = 9 ∨ i = 10 ∨ i = 11 ∨ i = 12 ∨ i = 13 ∨ i = 14 ∨ i = 15 ∨ i = 16 ∨ i = 17 ∨ i = 18 ∨ i = 19 ∨ i = 20 ∨ i = 21 ∨ i = 22 ∨ i = 23 := by omega
            rcases hii with rfl | rfl | rfl | rfl | rfl | rfl | rfl | rfl | rfl | rfl | rfl | rfl | rfl | rfl | rfl | rfl | rfl | rfl | rfl | rfl | rfl | rfl | rfl | rfl
            · exact absurd hki (by simp)
            · exact absurd hki (by simp)
            · exact absurd hki (by simp)
            · exact absurd hki (by simp)
            · exact absurd hki (by simp)
            · exact absurd hki (by simp)
            · exact absurd hki (by simp)
            · exact absurd hki (by simp)
            · exact absurd hki (by simp)
            · exact absurd hki (by simp)
            · exact absurd hki (by simp)
            · exact absurd hki (by simp)
            · exact absurd hki (by simp)
            · exact absurd hki (by simp)
            · exact absurd hki (by simp)
            · exact absurd hki (by simp)
            · exact absurd hki (by simp)
            · exact absurd hki (by simp)
            · exact absurd hki (by simp)
            · exact absurd hki (by simp)
            · exact absurd hki (by simp)
            · exact absurd hki (by simp)
            · cases hki
              cases ho
              have hx : OkE w2 (a1.eval (.tmp 67)) q.1 q.2 := hk.done 20 _ 67 rfl rfl (hdep ⟨20, .data⟩ (by simp) rfl)
              obtain ⟨⟨Ax, nx, cx, Ax', mx, cx', Lx, Ox, hv, hnx⟩, hx2⟩ := hx
              have d20 := ev hv
              have HX : Hid (OkE w2 (dv Ax nx cx Ax' mx cx' Lx Ox) q.1 q.2) := by rw [← hv]; exact ⟨⟨_, _, _, _, _, _, _, _, hv, hnx⟩, hx2⟩
              obtain ⟨hgam1, hgam2, ⟨od, hgab, hgs⟩, hgam4, hgam5⟩ := hk.gam
              have G1 := Lib.hid hgam1
              have G4 := Lib.hid hgam4
              have G5 := Lib.hid hgam5
              have GAB := Lib.hid hgab
              have GS := Lib.hid hgs
              obtain ⟨y0, y1, y2, y3, j0, j1, j2, j3, jf⟩ := cells_any0 hgab.d hgs
              clear hx2 hgam1 hgam2 hgam4 hgam5 hgab hgs
              refine wpOp_of rfl rfl ?_
              go_simp
              have hrk := rk_disk GAB.out.d GS.out Ax nx cx Ax' mx cx' Lx Ox hnx
              refine ⟨rfl, dbox_st GAB.out.d GS.out hfq hnx HX.out, st4_below (Below.refl _ _) (Nat.le_refl _) _ _ _ _, hrk, G1.out.rk HF.out hrk, fun hc => ?_, ⟨_, GAB.out.st GS.out, shp0 _ _ _ _ _ _ _ _ hnx⟩, (Octs.rk hrk G4.out).more hrk.size, log_rk G5.out (by decide) hrk⟩
              have h9 := getD_set_self h0
              rw [Array.getD_eq_getD_getElem?] at h9
              rw [h9] at hc; cases hc
            · exact absurd hki (by simp)
          case fin7 =>
            intro listed a2 w2 hall hk
            have hact := keptA_all [48, 49, 50, 51, 52, 53, 54, 55, 56, 57, 58, 59, 60, 61, 62, 63, 64, 65, 66, 47, 67, 68, 10] hk (by kernel_rfl)
            have h48 := hk.done 0 _ 48 rfl rfl (hall 0 (by decide))
            have h49 := hk.done 1 _ 49 rfl rfl (hall 1 (by decide))
            have h50 := hk.done 2 _ 50 rfl rfl (hall 2 (by decide))
            have h51 := hk.done 3 _ 51 rfl rfl (hall 3 (by decide))
            have h52 := hk.done 4 _ 52 rfl rfl (hall 4 (by decide))
            have h53 := hk.done 5 _ 53 rfl rfl (hall 5 (by decide))
            have h54 := hk.done 6 _ 54 rfl rfl (hall 6 (by decide))
            have h55 := hk.done 7 _ 55 rfl rfl (hall 7 (by decide))
            have h56 := hk.done 8 _ 56 rfl rfl (hall 8 (by decide))
            have h57 := hk.done 9 _ 57 rfl rfl (hall 9 (by decide))
            have h58 := hk.done 10 _ 58 rfl rfl (hall 10 (by decide))
            have h59 := hk.done 11 _ 59 rfl rfl (hall 11 (by decide))
            have h60 := hk.done 12 _ 60 rfl rfl (hall 12 (by decide))
            have h61 := hk.done 13 _ 61 rfl rfl (hall 13 (by decide))
            have h62 := hk.done 14 _ 62 rfl rfl (hall 14 (by decide))
            have h63 := hk.done 15 _ 63 rfl rfl (hall 15 (by decide))
            have h64 := hk.done 16 _ 64 rfl rfl (hall 16 (by decide))
            have h65 := hk.done 17 _ 65 rfl rfl (hall 17 (by decide))
            have h66 := hk.done 18 _ 66 rfl rfl (hall 18 (by decide))
            have h47 := hk.done 19 _ 47 rfl rfl (hall 19 (by decide))
            have h67 := hk.done 20 _ 67 rfl rfl (hall 20 (by decide))
            have h68 := hk.done 21 _ 68 rfl rfl (hall 21 (by decide))
            have h10 := hk.done 23 _ 10 rfl rfl (hall 23 (by decide))
            have s22 := hk.acts 22 _ rfl rfl (hall 22 (by decide))
            change PhK _ 22 (a2.eval (.tmp 3)) w2 at s22
            have HB := Lib.hid hk.below
            simp only [List.foldl_cons, List.foldl_nil, List.setIfInBounds_toArray, List.set_cons_succ, List.set_cons_zero] at hact
            generalize a2.eval (.tmp 48) = u48 at hact h48
            generalize a2.eval (.tmp 49) = u49 at hact h49
            generalize a2.eval (.tmp 50) = u50 at hact h50
            generalize a2.eval (.tmp 51) = u51 at hact h51
            generalize a2.eval (.tmp 52) = u52 at hact h52
            generalize a2.eval (.tmp 53) = u53 at hact h53
            generalize a2.eval (.tmp 54) = u54 at hact h54
            generalize a2.eval (.tmp 55) = u55 at hact h55
            generalize a2.eval (.tmp 56) = u56 at hact h56
            generalize a2.eval (.tmp 57) = u57 at hact h57
            generalize a2.eval (.tmp 58) = u58 at hact h58
            generalize a2.eval (.tmp 59) = u59 at hact h59
            generalize a2.eval (.tmp 60) = u60 at hact h60
            generalize a2.eval (.tmp 61) = u61 at hact h61
            generalize a2.eval (.tmp 62) = u62 at hact h62
            generalize a2.eval (.tmp 63) = u63 at hact h63
            generalize a2.eval (.tmp 64) = u64 at hact h64
            generalize a2.eval (.tmp 65) = u65 at hact h65
            generalize a2.eval (.tmp 66) = u66 at hact h66
            generalize a2.eval (.tmp 47) = u47 at hact h47
            generalize a2.eval (.tmp 67) = u67 at hact h67
            generalize a2.eval (.tmp 68) = u68 at hact h68
            generalize a2.eval (.tmp 10) = u10 at hact h10
            rw [hact]
            clear hact
            obtain rfl : u10 = .int .i64 q.2 := h10
            obtain ⟨w6, rfl⟩ : ∃ x, x = w2 := ⟨w2, rfl⟩
            obtain ⟨-, -, ⟨od, gab, gabs⟩, -, gbx⟩ := hk.gam
            obtain ⟨Aq, nq, cq, Aq', mq, cq', Lq, Oq, hbq, hnq, hokq⟩ := s22
            have GAB := Lib.hid gab
            have GBX := Lib.hid gbx
            have HBQ := Lib.hid hbq
            have HOKQ := Lib.hid hokq
            obtain ⟨e3, he3⟩ : ∃ e3, e3 = q.2 := ⟨_, rfl⟩
            have HE3 := Lib.hid he3
            rw [← he3] at HOKQ ⊢
            clear gab gbx hbq hokq he3 hk gabs h47 h48 h49 h50 h51 h52 h53 h54 h55 h56 h57 h58 h59 h60 h61 h62 h63 h64 h65 h66 h67 h68
            obtain ⟨k0, k1, k2, k3, kf⟩ := cells_of4 HBQ.out
            by_cases he : e3 = 0
            · subst he
              have HR2 : Hid (appR D f n a (x' : Int) d = (q.1, (f, n, a + (k : Int), (x' : Int) + 1), 0)) := by show _ = _; rw [HR.out, if_pos HE3.out.symm]
              clear k0 k1 k2 k3 kf
              go_upto_region 10 with fail
              refine wp_region_acts (by kernel_rfl) (w.heap.size) (GAB.out.b.size) [kv (dv Aq nq cq Aq' mq cq' Lq Oq), kv (lgv f n (a + (k : Int)) ((x' : Int) + 1)), lfDAt (w.heap.size + 1 + 1) q.1 (t + 500) hfq 0, lfLAt (w.heap.size + 1 + 1 + 1) f n (a + (k : Int)) ((x' : Int) + 1), kv (.int .i64 0)] [74, 75, 6, 7, 8] [none, none, some 0, some 1, none] rfl (fun (_ : Array Bool) (w' : World) => w'.heap[w.heap.size]? = some (.cells #[.slice Aq nq cq, .slice Aq' mq cq', .int .i64 Lq, .bool Oq] 25 (0, 0)) ∧ OkE w' (dv Aq nq cq Aq' mq cq' Lq Oq) q.1 0 ∧ w'.heap[g12]? = some (lgo f n (a + (k : Int)) ((x' : Int) + 1)) ∧ (∃ o, w'.heap[w.heap.size + 1 + 1]? = some o ∧ Shp 0 o) ∧ (∃ o, w'.heap[w.heap.size + 1 + 1 + 1]? = some o ∧ Shp 1 o)) ?hgam10 (by kernel_rfl) (backsB_spec (by kernel_rfl)) ?start10 ?step10 ?store10 ?fin10
              case hgam10 =>
                intro listed i w2 w3 hki hlo2 hb2 hg2
                obtain ⟨g1, g2, g3, ⟨o4, g4, g4s⟩, ⟨o5, g5, g5s⟩⟩ := hg2
                exact ⟨box_at g1 hb2, g2.below hb2, box_at g3 hb2, ⟨o4, box_at g4 hb2, g4s⟩, ⟨o5, box_at g5 hb2, g5s⟩⟩
              case start10 => exact ⟨HBQ.out, HOKQ.out.below (below_dr0 _), GBX.out, ⟨_, GAB.out.rd, shp0 _ _ _ _ _ _ _ _ (by decide)⟩, ⟨_, GAB.out.rl, shp1 _ _ _ _⟩⟩
              case step10 =>
                intro i o listed a1 w2 hki ho h0 hclo hk hdep
                have hi : i < 5 := (Array.getElem?_eq_some_iff.1 ho).1
                have e3 := ev (show a1.eval (.tmp 3) = .pointer (some ⟨w.heap.size, 0, none⟩) from hk.frame 3 (frame_of (by kernel_rfl)))
                have e6 := ev (show a1.eval (.tmp 6) = .pointer (some ⟨w.heap.size + 1 + 1, 0, none⟩) from hk.frame 6 (frame_of (by kernel_rfl)))
                have e7 := ev (show a1.eval (.tmp 7) = .pointer (some ⟨w.heap.size + 1 + 1 + 1, 0, none⟩) from hk.frame 7 (frame_of (by kernel_rfl)))
                have e12 := ev (show a1.eval (.tmp 12) = .pointer (some ⟨g12, 0, none⟩) from hk.frame 12 (frame_of (by kernel_rfl)))
                have hii : i = 0 ∨ i = 1 ∨ i = 2 ∨ i = 3 ∨ i = 4 := by omega
                rcases hii with rfl | rfl | rfl | rfl | rfl
                · cases ho
                  obtain ⟨k0, k1, k2, k3, kf⟩ := cells_of4 hk.gam.1
                  refine wpOp_of rfl rfl (wp_value (v := dv Aq nq cq Aq' mq cq' Lq Oq) ?_ rfl)
                  go_simp
                · cases ho
                  obtain ⟨k0, k1, k2, k3, kf⟩ := cells_log hk.gam.2.2.1
                  refine wpOp_of rfl rfl (wp_value (v := lgv f n (a + (k : Int)) ((x' : Int) + 1)) ?_ rfl)
                  go_simp
                · exact absurd hki (by simp)
                · exact absurd hki (by simp)
                · cases ho
                  refine wpOp_of rfl rfl (wp_value (v := .int .i64 0) ?_ rfl)
                  go_simp
              case store10 =>
                intro i K o listed a1 w2 hki ho h0 hclo hk hdep
                have hi : i < 5 := (Array.getElem?_eq_some_iff.1 ho).1
                have e3 := ev (show a1.eval (.tmp 3) = .pointer (some ⟨w.heap.size, 0, none⟩) from hk.frame 3 (frame_of (by kernel_rfl)))
                have e6 := ev (show a1.eval (.tmp 6) = .pointer (some ⟨w.heap.size + 1 + 1, 0, none⟩) from hk.frame 6 (frame_of (by kernel_rfl)))
                have e7 := ev (show a1.eval (.tmp 7) = .pointer (some ⟨w.heap.size + 1 + 1 + 1, 0, none⟩) from hk.frame 7 (frame_of (by kernel_rfl)))
                have e12 := ev (show a1.eval (.tmp 12) = .pointer (some ⟨g12, 0, none⟩) from hk.frame 12 (frame_of (by kernel_rfl)))
                have hii : i = 0 ∨ i = 1 ∨ i = 2 ∨ i = 3 ∨ i = 4 := by omega
                rcases hii with rfl | rfl | rfl | rfl | rfl
                · exact absurd hki (by simp)
                · exact absurd hki (by simp)
                · cases hki
                  cases ho
                  have d0 := ev (show a1.eval (.tmp 74) = dv Aq nq cq Aq' mq cq' Lq Oq from hk.done 0 _ 74 rfl rfl (hdep ⟨0, .data⟩ (by simp) rfl))
                  obtain ⟨g1, g2, g3, ⟨o4, g4, g4s⟩, g5⟩ := hk.gam
                  obtain ⟨y0, y1, y2, y3, j0, j1, j2, j3, jf⟩ := cells_any0 g4 g4s
                  have G1 := Lib.hid g1
                  have G2 := Lib.hid g2
                  have G3 := Lib.hid g3
                  have G4 := Lib.hid g4
                  have G4s := Lib.hid g4s
                  have G5 := Lib.hid g5
                  clear g1 g2 g3 g4 g4s g5
                  refine wpOp_of rfl rfl ?_
                  go_simp
                  have hrk := rk_disk G4.out G4s.out Aq nq cq Aq' mq cq' Lq Oq hnq
                  exact ⟨rfl, dbox_st G4.out G4s.out hfq hnq G2.out, st4_below (Below.refl _ _) (by omega) _ _ _ _, hrk, (st4_far _ _ _ _ _ (by omega)).trans G1.out, G2.out.rk hfq hrk, (st4_far _ _ _ _ _ (by omega)).trans G3.out, ⟨_, disk_at G4.out G4s.out _ _ _ _ _ _ _ _, shp0 _ _ _ _ _ _ _ _ hnq⟩, ⟨_, (st4_far _ _ _ _ _ (by omega)).trans G5.out.choose_spec.1, G5.out.choose_spec.2⟩⟩
                · cases hki
                  cases ho
                  have d1 := ev (show a1.eval (.tmp 75) = lgv f n (a + (k : Int)) ((x' : Int) + 1) from hk.done 1 _ 75 rfl rfl (hdep ⟨1, .data⟩ (by simp) rfl))
                  obtain ⟨g1, g2, g3, g4, ⟨o5, g5, g5s⟩⟩ := hk.gam
                  obtain ⟨y0, y1, y2, y3, j0, j1, j2, j3, jf⟩ := cells_any1 g5 g5s
                  have G1 := Lib.hid g1
                  have G2 := Lib.hid g2
                  have G3 := Lib.hid g3
                  have G4 := Lib.hid g4
                  have G5 := Lib.hid g5
                  have G5s := Lib.hid g5s
                  clear g1 g2 g3 g4 g5 g5s
                  refine wpOp_of rfl rfl ?_
                  go_simp
                  have hrk := rk_log G5.out G5s.out f n (a + (k : Int)) ((x' : Int) + 1)
                  exact ⟨rfl, log_at G5.out G5s.out _ _ _ _, st4_below (Below.refl _ _) (by omega) _ _ _ _, hrk, (st4_far _ _ _ _ _ (by omega)).trans G1.out, G2.out.rk hfq hrk, (st4_far _ _ _ _ _ (by omega)).trans G3.out, ⟨_, (st4_far _ _ _ _ _ (by omega)).trans G4.out.choose_spec.1, G4.out.choose_spec.2⟩, ⟨_, log_at G5.out G5s.out _ _ _ _, shp1 _ _ _ _⟩⟩
                · exact absurd hki (by simp)
              case fin10 =>
                intro listed a2 w2 hall hk
                have hact := keptA_all [74, 75, 8] hk (by kernel_rfl)
                have h74 := hk.done 0 _ 74 rfl rfl (hall 0 (by decide))
                have h75 := hk.done 1 _ 75 rfl rfl (hall 1 (by decide))
                have h8 := hk.done 4 _ 8 rfl rfl (hall 4 (by decide))
                have s2 := hk.acts 2 _ rfl rfl (hall 2 (by decide))
                change PhK _ 2 (a2.eval (.tmp 6)) w2 at s2
                have s3 := hk.acts 3 _ rfl rfl (hall 3 (by decide))
                change PhK _ 3 (a2.eval (.tmp 7)) w2 at s3
                have HB := Lib.hid hk.below
                simp only [List.foldl_cons, List.foldl_nil, List.setIfInBounds_toArray, List.set_cons_succ, List.set_cons_zero] at hact
                generalize a2.eval (.tmp 74) = u74 at hact h74
                generalize a2.eval (.tmp 75) = u75 at hact h75
                generalize a2.eval (.tmp 8) = u8 at hact h8
                rw [hact]
                clear hact
                obtain rfl : u8 = .int .i64 0 := h8
                obtain ⟨Ar, nr, cr, Ar', mr, cr', Lr, Or, hbr, hnr, hokr⟩ := s2
                have HBR := Lib.hid hbr
                have HLR : Hid (w2.heap[w.heap.size + 1 + 1 + 1]? = some (lgo f n (a + (k : Int)) ((x' : Int) + 1))) := s3
                have HOKR := Lib.hid hokr
                have HBB := Lib.hid (GAB.out.b.trans HB.out)
                clear hbr hokr s3 hk h74 h75
                obtain ⟨r0, r1, r2, r3, rf⟩ := cells_of4 HBR.out
                obtain ⟨z0, z1, z2, z3, zf⟩ := cells_log HLR.out
                go_wp2_with fail
                refine bodyPost_ret (v := .tuple #[dv Ar nr cr Ar' mr cr' Lr Or, lgv f n (a + (k : Int)) ((x' : Int) + 1), .int .i64 0]) (by simp [results, Try.results13, go_sem, r0, r1, r2, r3, z0, z1, z2, z3]) rfl ⟨_, by rw [HR2.out], ?_, HBB.out⟩
                rw [HR2.out]
                exact HOKR.out
            · have HR2 : Hid (appR D f n a (x' : Int) d = (q.1, (0, 0, 0, 0), e3)) := by show _ = _; rw [HR.out, if_neg (by rw [← HE3.out]; exact he), HE3.out]
              have he' : (e3 == 0) = false := by simpa using he
              obtain ⟨r0, r1, r2, r3, rf⟩ := cells_of4 GAB.out.rd
              obtain ⟨z0, z1, z2, z3, zf⟩ := cells_log GAB.out.rl
              go_wp2_with fail
              refine bodyPost_ret (v := .tuple #[dv Aq nq cq Aq' mq cq' Lq Oq, lgv 0 0 0 0, .int .i64 e3]) (by simp [results, Try.results13, go_sem, r0, r1, r2, r3, z0, z1, z2, z3]) rfl ⟨_, by rw [HR2.out], ?_, ?_⟩
              · rw [HR2.out]
                have hrk := rk_disk GAB.out.rd (shp0 _ _ _ _ _ _ _ _ (by decide)) Aq nq cq Aq' mq cq' Lq Oq hnq
                exact (HOKQ.out.rk hfq hrk).rk hfq (rk_log ((st4_far _ _ _ _ _ (by omega)).trans GAB.out.rl) (shp1 _ _ _ _) 0 0 0 0)
              · exact st4_below (st4_below GAB.out.b (by omega) _ _ _ _) (by omega) _ _ _ _
theorem steps2 {w : World} {v : Value} {D : DD} {t : Nat} {i : Nat} {gs : Nat} {v1 : Value} (h : Okd w v D) (hf : Fit D t) (ht : t ≤ 10000) (h64 : D.S.length ≠ 64) (hi : i + 1 ≤ D.S.length)
    (hg : w.heap[gs]? = some (.cells #[v1, f37] 79 (0, 0))) (h1 : FnO w v1 (i : Int) nz) :
    Calls Try.prog 34 #[v, .slice (some ⟨gs, 0, none⟩) 2 2] w fun e w' => ∃ v', e = .returned (.tuple #[v', .int .i64 (runD (clSteps i) D).2]) ∧ Okd w' v' (runD (clSteps i) D).1 ∧ Below w.heap.size w w' := by
  obtain ⟨c1, rfl, o1⟩ := stp_write (s := D.S.length) (N := 1) h1 nz_len (by omega) (by omega) h64
  have hc : chunks nz 1 = [nz] := by decide
  have hq := do_any w v D t D.S.length gs [⟨57, c1, wrC (i : Int) (chunks nz 1)⟩, ⟨37, #[], flD⟩] h hf ht rfl h64 (fun q hq => by
    simp only [List.mem_cons, List.not_mem_nil, or_false] at hq
    rcases hq with rfl | rfl
    · exact o1
    · exact stp_flush _ _) (by simp) ⟨lt_of_at hg, fun j hj => by
      rw [cell_of_row w gs j _ _ _ hg]
      simp only [List.length_cons, List.length_nil] at hj
      have : j = 0 ∨ j = 1 := by omega
      rcases this with rfl | rfl <;> rfl⟩
  simp only [List.map_cons, List.map_nil, hc] at hq
  exact hq
def ClP (w : World) (D : DD) (f n a x : Int) (e : Ending) (w' : World) : Prop :=
  ∃ v', e = .returned (.tuple #[v', .int .i64 (clR D f n a x).2]) ∧ OkE w' v' (clR D f n a x).1 (clR D f n a x).2 ∧ Below w.heap.size w w'
set_option maxRecDepth 100000 in
set_option maxHeartbeats 8000000 in
theorem clear_any (w : World) (v : Value) (D : DD) (t : Nat) (f n a x : Int) (h : Okd w v D) (hf : Fit D t) (ht : t ≤ 9000) (h64 : D.S.length ≠ 64) (hn2 : n ≤ 9223372036854775807) (ha2 : a ≤ 9223372036854775807) (hf0 : -9223372036854775808 ≤ f) (hf2 : f ≤ 9223372036854775807) :
    Calls Try.prog 24 #[v, lgv f n a x] w (ClP w D f n a x) := by
  obtain ⟨Ad, cd, Ad', cd', hv, hd, hz⟩ := h
  have hok : Okd w v D := ⟨Ad, cd, Ad', cd', hv, hd, hz⟩
  subst hv
  have hS4096 : D.S.length ≤ 4096 := ((may_iff _ _ _).1 hf.may).2.1
  have hm9 : D.W.length ≤ 9000 := by have := hf.w_; omega
  obtain ⟨n0, hn0'⟩ : ∃ n0, n0 = D.S.length := ⟨_, rfl⟩
  obtain ⟨m0, hm0⟩ : ∃ m0, m0 = D.W.length := ⟨_, rfl⟩
  obtain ⟨L0, hL0⟩ : ∃ L0, L0 = D.L := ⟨_, rfl⟩
  obtain ⟨O0, hO0⟩ : ∃ O0, O0 = D.O := ⟨_, rfl⟩
  obtain ⟨w1, hw1⟩ : ∃ w1, w1 = ((w.alloc (.cells #[.slice Ad n0 cd, .slice Ad' m0 cd', .int .i64 L0, .bool O0] 25 (0, 0))).alloc (lgo f n a x)).alloc zdo := ⟨_, rfl⟩
  have X1 : Hid (CB w (.cells #[.slice Ad n0 cd, .slice Ad' m0 cd', .int .i64 L0, .bool O0] 25 (0, 0)) (lgo f n a x) w1) := by show CB _ _ _ _; rw [hw1]; exact CB.new _ _ _
  rw [← hn0', ← hm0, ← hL0, ← hO0] at hok ⊢
  rw [← hn0', ← hm0] at hd
  rw [← hn0'] at h64 hS4096
  rw [← hm0] at hm9
  have HOK := Lib.hid hok
  have HF := Lib.hid hf
  have HW := Lib.hid hw1
  have HN0 : Hid (n0 = D.S.length ∧ L0 = D.L) := ⟨hn0', hL0⟩
  have HDsk : Hid (Dsk w Ad n0 cd Ad' m0 cd' D.S D.W) := hd
  clear hd hz hok hw1 hn0' hm0 hL0 hO0 hf
  obtain ⟨k0, k1, k2, k3, kf⟩ := cells_log X1.out.l
  obtain ⟨q0, q1, q2, q3, qf⟩ := cells_of4 X1.out.d
  go_enter Try.func24, Try.ntmps24
  go_upto_region 1 with fail
  rw [← HW.out]
  go_wp2_with fail
  refine (may_l L0 O0 f n a x (HDsk.out.below X1.out.b) (by omega) (by omega) hf0 hf2).mono ?_
  rintro e w2 ⟨rfl, hb2⟩
  have X2 := Lib.hid (X1.out.below hb2)
  clear hb2 k0 k1 k2 k3 kf q0 q1 q2 q3 qf
  obtain ⟨r0, r1, r2, r3, rf⟩ := cells_of4 X2.out.rl
  cases hML : mayLB D.S D.W L0 f n a x with
  | false =>
    have HR : Hid (clR D f n a x = (D, 1)) := by
      show _ = _
      unfold clR
      rw [← HN0.out.2, hML]
      rfl
    clear hML
    go_wp2_with fail
    refine bodyPost_ret (v := .tuple #[dz, .int .i64 1]) (by simp [results, Try.results24, go_sem, r0, r1, r2, r3]) rfl ⟨dz, by rw [HR.out], ?_, ?_⟩
    · rw [HR.out]; exact OkE.none_ (e := 1) (by decide) (by decide)
    · exact st4_below X2.out.b (by omega) _ _ _ _
  | true =>
    obtain ⟨hmay, p1, p2, p3, p4, p5, p6, p7⟩ := mayLB_iff.1 hML
    obtain ⟨sx, hi⟩ : ∃ sx : Nat, f + a = (sx : Int) := ⟨(f + a).toNat, by omega⟩
    obtain ⟨q, hq⟩ : ∃ q, q = runD (clSteps sx) D := ⟨_, rfl⟩
    have HR : Hid (clR D f n a x = q) := by
      show _ = _
      unfold clR
      rw [← HN0.out.2, hML, hi, hq]
      rfl
    have hsl : sx + 1 ≤ n0 := by have := HN0.out.1; omega
    have hfa : 0 ≤ f + a ∧ f + a ≤ 4096 := by have := HN0.out.1; omega
    have hfit := clear_fit (i := sx) HF.out (by rw [← HN0.out.1]; exact hsl)
    rw [← hq] at hfit
    obtain ⟨hfq, hsq, heq⟩ := hfit
    have HSQ : Hid (q.1.S.length ≠ 64) := by show q.1.S.length ≠ 64; rw [hsq, ← HN0.out.1]; exact h64
    have HQ := Lib.hid hq
    have HHI := Lib.hid hi
    clear hML hmay hq hsq r0 r1 r2 r3 rf hi
    go_upto_region 3 with fail
    refine wp_region_acts (by kernel_rfl) (w.heap.size) (X2.out.b.size) [kv (dv Ad n0 cd Ad' m0 cd' L0 O0), kv (.pointer (some ⟨w.heap.size + 1, 0, none⟩)), kv (.int .i64 f), kv (.pointer (some ⟨w.heap.size + 1, 2, none⟩)), kv (.int .i64 a), kv (.int .i64 (sx : Int)), lfNz, lfFn (sx : Int) nz, lfRow2 (sx : Int) nz, lfT2 q.1 (t + 200) hfq q.2, lfE q.1 (t + 200) hfq q.2, kv (.int .i64 q.2), lfDAt (w.heap.size + 1 + 1) q.1 (t + 200) hfq q.2, kv (.int .i64 q.2)] [11, 12, 13, 14, 15, 16, 17, 18, 19, 20, 21, 22, 4, 5] [none, none, none, none, none, none, none, none, none, none, none, none, some 0, none] rfl (fun (_ : Array Bool) (w' : World) => Okd w' (dv Ad n0 cd Ad' m0 cd' L0 O0) D ∧ w'.heap[w.heap.size]? = some (.cells #[.slice Ad n0 cd, .slice Ad' m0 cd', .int .i64 L0, .bool O0] 25 (0, 0)) ∧ w'.heap[w.heap.size + 1]? = some (lgo f n a x) ∧ (∃ o, w'.heap[w.heap.size + 1 + 1]? = some o ∧ Shp 0 o)) ?hgam3 (by kernel_rfl) (backsB_spec (by kernel_rfl)) ?start3 ?step3 ?store3 ?fin3
    case hgam3 =>
      intro listed i w2 w3 hki hlo2 hb2 hg2
      obtain ⟨g1, g2, g3, ⟨o4, g4, g4s⟩⟩ := hg2
      exact ⟨g1.below hb2, box_at g2 hb2, box_at g3 hb2, ⟨o4, box_at g4 hb2, g4s⟩⟩
    case start3 => exact ⟨HOK.out.below (X2.out.b.trans ((below_dr0 _).mono X2.out.b.size)), X2.out.d, X2.out.l, ⟨_, X2.out.rl, shp0 _ _ _ _ _ _ _ _ (by decide)⟩⟩
    case step3 =>
      intro i o listed a1 w2 hki ho h0 hclo hk hdep
      have hi : i < 14 := (Array.getElem?_eq_some_iff.1 ho).1
      have e2 := ev (show a1.eval (.tmp 2) = .pointer (some ⟨w.heap.size, 0, none⟩) from hk.frame 2 (frame_of (by kernel_rfl)))
      have e3 := ev (show a1.eval (.tmp 3) = .pointer (some ⟨w.heap.size + 1, 0, none⟩) from hk.frame 3 (frame_of (by kernel_rfl)))
      have e4 := ev (show a1.eval (.tmp 4) = .pointer (some ⟨w.heap.size + 1 + 1, 0, none⟩) from hk.frame 4 (frame_of (by kernel_rfl)))
      have hii : i = 0 ∨ i = 1 ∨ i = 2 ∨ i = 3 ∨ i = 4 ∨ i = 5 ∨ i = 6 ∨ i = 7 ∨ i = 8 ∨ i = 9 ∨ i = 10 ∨ i = 11 ∨ i = 12 ∨ i = 13 := by omega
      rcases hii with rfl | rfl | rfl | rfl | rfl | rfl | rfl | rfl | rfl | rfl | rfl | rfl | rfl | rfl
      · cases ho
        obtain ⟨k0, k1, k2, k3, kf⟩ := cells_of4 hk.gam.2.1
        refine wpOp_of rfl rfl (wp_value (v := dv Ad n0 cd Ad' m0 cd' L0 O0) ?_ rfl)
        go_simp
      · cases ho
        refine wpOp_of rfl rfl (wp_value (v := .pointer (some ⟨w.heap.size + 1, 0, none⟩)) ?_ rfl)
        go_simp
      · cases ho
        have d1 := ev (show a1.eval (.tmp 12) = .pointer (some ⟨w.heap.size + 1, 0, none⟩) from hk.done 1 _ 12 rfl rfl (hdep ⟨1, .data⟩ (by simp) rfl))
        obtain ⟨k0, k1, k2, k3, kf⟩ := cells_log hk.gam.2.2.1
        refine wpOp_of rfl rfl (wp_value (v := .int .i64 f) ?_ rfl)
        go_simp
      · cases ho
        refine wpOp_of rfl rfl (wp_value (v := .pointer (some ⟨w.heap.size + 1, 2, none⟩)) ?_ rfl)
        go_simp
      · cases ho
        have d3 := ev (show a1.eval (.tmp 14) = .pointer (some ⟨w.heap.size + 1, 2, none⟩) from hk.done 3 _ 14 rfl rfl (hdep ⟨3, .data⟩ (by simp) rfl))
        obtain ⟨k0, k1, k2, k3, kf⟩ := cells_log hk.gam.2.2.1
        refine wpOp_of rfl rfl (wp_value (v := .int .i64 a) ?_ rfl)
        go_simp
      · cases ho
        have d2 := ev (show a1.eval (.tmp 13) = .int .i64 f from hk.done 2 _ 13 rfl rfl (hdep ⟨2, .data⟩ (by simp) rfl))
        have d4 := ev (show a1.eval (.tmp 15) = .int .i64 a from hk.done 4 _ 15 rfl rfl (hdep ⟨4, .data⟩ (by simp) rfl))
        refine wpOp_of rfl rfl (wp_value (v := .int .i64 (sx : Int)) ?_ rfl)
        go_simp
        rw [← HHI.out, IntKind.wrap_i64]; omega
      · cases ho
        refine wpOp_of rfl rfl ?_
        go_simp
        refine (noughts_any w2).mono ?_
        rintro e w3 ⟨rfl, ho3, hb3⟩
        exact ⟨_, rfl, ⟨_, rfl, ho3⟩, hb3⟩
      · cases ho
        have d5 := ev (show a1.eval (.tmp 16) = .int .i64 (sx : Int) from hk.done 5 _ 16 rfl rfl (hdep ⟨5, .data⟩ (by simp) rfl))
        obtain ⟨gz, hgz, hoz⟩ := hk.done 6 _ 17 rfl rfl (hdep ⟨6, .data⟩ (by simp) rfl)
        have d6 := ev hgz
        refine wpOp_of rfl rfl ?_
        go_simp
        refine (write_fn (sx : Int) (some ⟨gz, 0, none⟩) 64 64 w2).mono ?_
        rintro e w3 ⟨rfl, hga, hgb, hb3⟩
        exact ⟨_, rfl, ⟨_, _, _, _, rfl, hga, hgb, (hoz.below hb3 (Nat.le_refl _)).more hb3.size, by rw [nz_len]; decide, by decide⟩, hb3⟩
      · cases ho
        obtain hf1 := hk.done 7 _ 18 rfl rfl (hdep ⟨7, .data⟩ (by simp) rfl)
        obtain ⟨y1, hy1⟩ : ∃ y, a1.eval (.tmp 18) = y := ⟨_, rfl⟩
        rw [hy1] at hf1
        obtain ⟨ga1, gb1, A1, c1, rfl, hr1⟩ := id hf1
        have d7 := ev hy1
        have F1 := Lib.hid hf1
        clear hf1 hr1 hy1
        refine wpOp_of rfl rfl ?_
        go_simp
        have hba : ∀ o, Below w2.heap.size w2 (w2.alloc o) := fun o => (Below.refl _ _).alloc (Nat.le_refl _) _
        exact ⟨_, rfl, ⟨_, _, rfl, box_new _ _, F1.out.below (hba _)⟩, hba _⟩
      · cases ho
        have d0 := ev (show a1.eval (.tmp 11) = dv Ad n0 cd Ad' m0 cd' L0 O0 from hk.done 0 _ 11 rfl rfl (hdep ⟨0, .data⟩ (by simp) rfl))
        obtain ⟨gs, v1, hgs, hrow, hf1⟩ := hk.done 8 _ 19 rfl rfl (hdep ⟨8, .data⟩ (by simp) rfl)
        have d8 := ev hgs
        have hst := steps2 (i := sx) hk.gam.1 HF.out (by omega) (by rw [← HN0.out.1]; exact h64) (by rw [← HN0.out.1]; exact hsl) hrow hf1
        rw [← HQ.out] at hst
        have HST := Lib.hid hst
        clear hst hrow hf1
        refine wpOp_of rfl rfl ?_
        go_simp
        refine HST.out.mono ?_
        rintro e w3 ⟨v', rfl, hok3, hb3⟩
        exact ⟨_, rfl, ⟨_, rfl, OkE.of _ hok3 HSQ.out⟩, hb3⟩
      · cases ho
        obtain ⟨xx, hv, hx⟩ := hk.done 9 _ 20 rfl rfl (hdep ⟨9, .data⟩ (by simp) rfl)
        have d9 := ev hv
        refine wpOp_of rfl rfl (wp_value (v := xx) ?_ hx)
        clear hx
        go_simp
      · cases ho
        obtain ⟨xx, hv, hx⟩ := hk.done 9 _ 20 rfl rfl (hdep ⟨9, .data⟩ (by simp) rfl)
        have d9 := ev hv
        clear hx
        refine wpOp_of rfl rfl (wp_value (v := .int .i64 q.2) ?_ rfl)
        go_simp
      · exact absurd hki (by simp)
      · cases ho
        have d11 := ev (show a1.eval (.tmp 22) = .int .i64 q.2 from hk.done 11 _ 22 rfl rfl (hdep ⟨11, .data⟩ (by simp) rfl))
        refine wpOp_of rfl rfl (wp_value (v := .int .i64 q.2) ?_ rfl)
        simp [execOp, d11, Act.eval]
    case store3 =>
      intro i K o listed a1 w2 hki ho h0 hclo hk hdep
      have hi : i < 14 := (Array.getElem?_eq_some_iff.1 ho).1
      have e2 := ev (show a1.eval (.tmp 2) = .pointer (some ⟨w.heap.size, 0, none⟩) from hk.frame 2 (frame_of (by kernel_rfl)))
      have e3 := ev (show a1.eval (.tmp 3) = .pointer (some ⟨w.heap.size + 1, 0, none⟩) from hk.frame 3 (frame_of (by kernel_rfl)))
      have e4 := ev (show a1.eval (.tmp 4) = .pointer (some ⟨w.heap.size + 1 + 1, 0, none⟩) from hk.frame 4 (frame_of (by kernel_rfl)))
      have hii : i = 0 ∨ i = 1 ∨ i = 2 ∨ i = 3 ∨ i = 4 ∨ i = 5 ∨ i = 6 ∨ i = 7 ∨ i = 8 ∨ i = 9 ∨ i = 10 ∨ i = 11 ∨ i = 12 ∨ i = 13 := by omega
      rcases hii with rfl | rfl | rfl | rfl | rfl | rfl | rfl | rfl | rfl | rfl | rfl | rfl | rfl | rfl
      · exact absurd hki (by simp)
      · exact absurd hki (by simp)
      · exact absurd hki (by simp)
      · exact absurd hki (by simp)
      · exact absurd hki (by simp)
      · exact absurd hki (by simp)
      · exact absurd hki (by simp)
      · exact absurd hki (by simp)
      · exact absurd hki (by simp)
      · exact absurd hki (by simp)
      · exact absurd hki (by simp)
      · exact absurd hki (by simp)
      · cases hki
        cases ho
        have hx : OkE w2 (a1.eval (.tmp 21)) q.1 q.2 := hk.done 10 _ 21 rfl rfl (hdep ⟨10, .data⟩ (by simp) rfl)
        obtain ⟨⟨Ax, nx, cx, Ax', mx, cx', Lx, Ox, hv, hnx⟩, hx2⟩ := hx
        have d10 := ev hv
        have HX : Hid (OkE w2 (dv Ax nx cx Ax' mx cx' Lx Ox) q.1 q.2) := by rw [← hv]; exact ⟨⟨_, _, _, _, _, _, _, _, hv, hnx⟩, hx2⟩
        obtain ⟨hg1, hg2, hg3, ⟨od, hg4, hg4s⟩⟩ := hk.gam
        have G1 := Lib.hid hg1
        have G2 := Lib.hid hg2
        have G3 := Lib.hid hg3
        have G4 := Lib.hid hg4
        have GS := Lib.hid hg4s
        obtain ⟨y0, y1, y2, y3, j0, j1, j2, j3, jf⟩ := cells_any0 hg4 hg4s
        clear hx2 hg1 hg2 hg3 hg4 hg4s
        refine wpOp_of rfl rfl ?_
        go_simp
        have hrk := rk_disk G4.out GS.out Ax nx cx Ax' mx cx' Lx Ox hnx
        exact ⟨rfl, dbox_st G4.out GS.out hfq hnx HX.out, st4_below (Below.refl _ _) (by omega) _ _ _ _, hrk, G1.out.rk HF.out hrk, (st4_far _ _ _ _ _ (by omega)).trans G2.out, (st4_far _ _ _ _ _ (by omega)).trans G3.out, ⟨_, disk_at G4.out GS.out _ _ _ _ _ _ _ _, shp0 _ _ _ _ _ _ _ _ hnx⟩⟩
      · exact absurd hki (by simp)
    case fin3 =>
      intro listed a2 w2 hall hk
      have hact := keptA_all [11, 12, 13, 14, 15, 16, 17, 18, 19, 20, 21, 22, 5] hk (by kernel_rfl)
      have h11 := hk.done 0 _ 11 rfl rfl (hall 0 (by decide))
      have h12 := hk.done 1 _ 12 rfl rfl (hall 1 (by decide))
      have h13 := hk.done 2 _ 13 rfl rfl (hall 2 (by decide))
      have h14 := hk.done 3 _ 14 rfl rfl (hall 3 (by decide))
      have h15 := hk.done 4 _ 15 rfl rfl (hall 4 (by decide))
      have h16 := hk.done 5 _ 16 rfl rfl (hall 5 (by decide))
      have h17 := hk.done 6 _ 17 rfl rfl (hall 6 (by decide))
      have h18 := hk.done 7 _ 18 rfl rfl (hall 7 (by decide))
      have h19 := hk.done 8 _ 19 rfl rfl (hall 8 (by decide))
      have h20 := hk.done 9 _ 20 rfl rfl (hall 9 (by decide))
      have h21 := hk.done 10 _ 21 rfl rfl (hall 10 (by decide))
      have h22 := hk.done 11 _ 22 rfl rfl (hall 11 (by decide))
      have h5 := hk.done 13 _ 5 rfl rfl (hall 13 (by decide))
      have s12 := hk.acts 12 _ rfl rfl (hall 12 (by decide))
      change PhK _ 12 (a2.eval (.tmp 4)) w2 at s12
      have HB := Lib.hid hk.below
      simp only [List.foldl_cons, List.foldl_nil, List.setIfInBounds_toArray, List.set_cons_succ, List.set_cons_zero] at hact
      generalize a2.eval (.tmp 11) = u11 at hact h11
      generalize a2.eval (.tmp 12) = u12 at hact h12
      generalize a2.eval (.tmp 13) = u13 at hact h13
      generalize a2.eval (.tmp 14) = u14 at hact h14
      generalize a2.eval (.tmp 15) = u15 at hact h15
      generalize a2.eval (.tmp 16) = u16 at hact h16
      generalize a2.eval (.tmp 17) = u17 at hact h17
      generalize a2.eval (.tmp 18) = u18 at hact h18
      generalize a2.eval (.tmp 19) = u19 at hact h19
      generalize a2.eval (.tmp 20) = u20 at hact h20
      generalize a2.eval (.tmp 21) = u21 at hact h21
      generalize a2.eval (.tmp 22) = u22 at hact h22
      generalize a2.eval (.tmp 5) = u5 at hact h5
      rw [hact]
      clear hact
      obtain rfl : u5 = .int .i64 q.2 := h5
      obtain ⟨Ar, nr, cr, Ar', mr, cr', Lr, Or, hbr, hnr, hokr⟩ := s12
      have HBR := Lib.hid hbr
      have HOKR := Lib.hid hokr
      have HBB := Lib.hid (X2.out.b.trans HB.out)
      clear hbr hokr hk h11 h12 h13 h14 h15 h16 h17 h18 h19 h20 h21 h22
      obtain ⟨r0, r1, r2, r3, rf⟩ := cells_of4 HBR.out
      obtain ⟨e9, he9⟩ : ∃ e9, e9 = q.2 := ⟨_, rfl⟩
      rw [← he9]
      have HE9 := Lib.hid he9
      clear he9
      go_wp2_with fail
      refine bodyPost_ret (v := .tuple #[dv Ar nr cr Ar' mr cr' Lr Or, .int .i64 e9]) (by simp [results, Try.results24, go_sem, r0, r1, r2, r3]) rfl ⟨_, by rw [HR.out, HE9.out], ?_, HBB.out⟩
      rw [HR.out]
      exact HOKR.out
theorem okw_iff {w : World} {v : Value} {D : DD} : Okd w v D ↔ Okw w v D := by
  constructor
  · rintro ⟨A, c, A', c', h1, h2, -⟩
    exact ⟨A, c, A', c', h1, h2⟩
  · rintro ⟨A, c, A', c', h1, h2⟩
    exact ⟨A, c, A', c', h1, h2, trivial⟩
end Go.Proofs.Ytjcgggheablpeaa.Wal.Vx

/- The document's Append; what is refused. -/
namespace Go.Proofs.Ytjcgggheablpeaa.Wal.Vx
open Go.RowKit Dis Dis.Dk

/-- The program's Append, refused. -/
theorem app_no (Ad : Option Addr) (n0 cd : Nat) (Ad' : Option Addr) (m0 cd' : Nat) (S : List (List UInt8)) (W : Ws) (L0 : Int) (O0 : Bool) (w : World) (f n a x : Int) (A : Option Addr) (d : List UInt8) (c : Nat) (hd : Dsk w Ad n0 cd Ad' m0 cd' S W) (hS : n0 ≤ 5000) (hM : m0 ≤ 5000)
    (hn2 : n ≤ 9223372036854775807) (ha2 : a ≤ 9223372036854775807) (hf0 : -9223372036854775808 ≤ f) (hf2 : f ≤ 9223372036854775807) (hn0 : -9223372036854775808 ≤ n) (ha0 : -9223372036854775808 ≤ a)
    (ho : Octs w w.heap.size A d) (hdl : d.length ≤ 9223372036854775807) (hR : (Fra.mayB x d.length && mayLB S W L0 f n a x) = false ∨ roomB n a d.length = false) :
    Calls Try.prog 13 #[dv Ad n0 cd Ad' m0 cd' L0 O0, lgv f n a x, .slice A d.length c] w fun e w' => e = .returned (.tuple #[dz, lgv 0 0 0 0, .int .i64 (if (Fra.mayB x d.length && mayLB S W L0 f n a x) = false then 1 else 9)]) ∧ Below w.heap.size w w' := by
  obtain ⟨ee, hee⟩ : ∃ ee : Int, ee = (if (Fra.mayB x d.length && mayLB S W L0 f n a x) = false then 1 else 9) := ⟨_, rfl⟩
  rw [← hee]
  have HEE := Lib.hid hee
  obtain ⟨dl, hdl'⟩ : ∃ dl, dl = d.length := ⟨_, rfl⟩
  obtain ⟨w1, hw1⟩ : ∃ w1, w1 = (((w.alloc (.cells #[.slice Ad n0 cd, .slice Ad' m0 cd', .int .i64 L0, .bool O0] 25 (0, 0))).alloc (lgo f n a x)).alloc zdo).alloc (lgo 0 0 0 0) := ⟨_, rfl⟩
  have X1 : Hid (AB w (.cells #[.slice Ad n0 cd, .slice Ad' m0 cd', .int .i64 L0, .bool O0] 25 (0, 0)) (lgo f n a x) w1) := by show AB _ _ _ _; rw [hw1]; exact AB.new _ _ _
  rw [← hdl'] at hdl HEE hR ⊢
  have HO := Lib.hid ho
  have HW := Lib.hid hw1
  have HDL := Lib.hid hdl'
  have HDsk : Hid (Dsk w Ad n0 cd Ad' m0 cd' S W) := hd
  have HR := Lib.hid hR
  clear hd hw1 ho hdl' hee hR
  obtain ⟨k0, k1, k2, k3, kf⟩ := cells_log X1.out.l
  obtain ⟨r0, r1, r2, r3, rf⟩ := cells_of4 X1.out.rd
  obtain ⟨z0, z1, z2, z3, zf⟩ := cells_log X1.out.rl
  have hdl9 : dl ≤ 9223372036854775807 := hdl
  clear hdl
  cases hMB : Fra.mayB x dl with
  | false =>
    have HE1 : Hid (ee = 1) := by show _ = _; rw [HEE.out, hMB]; rfl
    have HMB := Lib.hid hMB
    clear hMB
    go_enter Try.func13, Try.ntmps13
    go_upto_region 1 with fail
    rw [← HW.out]
    go_wp2_with fail
    refine (Fra.lay_no x A dl c w1 hdl9 HMB.out).mono ?_
    rintro e w2 ⟨rfl, hb2⟩
    have X2 := Lib.hid (X1.out.below hb2)
    clear hb2 k0 k1 k2 k3 kf r0 r1 r2 r3 rf z0 z1 z2 z3 zf
    obtain ⟨r0, r1, r2, r3, rf⟩ := cells_of4 X2.out.rd
    obtain ⟨z0, z1, z2, z3, zf⟩ := cells_log X2.out.rl
    go_wp2_with fail
    refine bodyPost_ret (v := .tuple #[dz, lgv 0 0 0 0, .int .i64 1]) (by simp [results, Try.results13, go_sem, r0, r1, r2, r3, z0, z1, z2, z3]) rfl ⟨by rw [HE1.out], ?_⟩
    exact st4_below (st4_below X2.out.b (by omega) _ _ _ _) (by omega) _ _ _ _
  | true =>
    obtain ⟨hx1, hx3, hd6⟩ := mayB_parts hMB
    have HMB := Lib.hid hMB
    clear hMB
    obtain ⟨x', rfl⟩ : ∃ x' : Nat, x = (x' : Int) := ⟨x.toNat, by omega⟩
    have HLAY : Hid (∀ W, Below w1.heap.size w1 W → Calls Try.prog 32 #[.agg #[.int .i64 (x' : Int), .slice A dl c]] W (Fra.Laid W x' d)) := fun W hb => by
      have := Fra.lay_yes x' A d c W.heap.size W (octs_chk ((HO.out.below (X1.out.b.trans (hb.mono X1.out.b.size)) (Nat.le_refl _)).more (Nat.le_trans X1.out.b.size hb.size))) (Nat.le_refl _) (by omega) (by omega) (by rw [← HDL.out]; exact hd6)
      rwa [← HDL.out] at this
    go_enter Try.func13, Try.ntmps13
    go_upto_region 1 with fail
    rw [← HW.out]
    go_wp2_with fail
    refine (HLAY.out w1 (Below.refl _ _)).mono ?_
    rintro e w2 ⟨v7, rfl, hown7, hb2⟩
    have X2 := Lib.hid (X1.out.below hb2)
    obtain ⟨gl, cl, rfl, hgl, hgl2, hcl⟩ := Chk.own_form hown7 (by rw [Frm.lay_len]; unfold Frm.size Frm.sect; omega)
    clear hb2 hown7 k0 k1 k2 k3 kf r0 r1 r2 r3 rf z0 z1 z2 z3 zf HLAY
    obtain ⟨k0, k1, k2, k3, kf⟩ := cells_log X2.out.l
    obtain ⟨q0, q1, q2, q3, qf⟩ := cells_of4 X2.out.d
    have HD2 := Lib.hid (HDsk.out.below X2.out.b)
    go_wp2_with fail
    refine (may_l L0 O0 f n a (x' : Int) HD2.out (by omega) (by omega) hf0 hf2).mono ?_
    rintro e w3 ⟨rfl, hb3⟩
    have X3 := Lib.hid (X2.out.below hb3)
    clear hb3 k0 k1 k2 k3 kf q0 q1 q2 q3 qf HD2
    obtain ⟨r0, r1, r2, r3, rf⟩ := cells_of4 X3.out.rd
    obtain ⟨z0, z1, z2, z3, zf⟩ := cells_log X3.out.rl
    cases hML : mayLB S W L0 f n a (x' : Int) with
    | false =>
      have HE1 : Hid (ee = 1) := by show _ = _; rw [HEE.out, hML, HMB.out]; rfl
      clear hML
      go_wp2_with fail
      refine bodyPost_ret (v := .tuple #[dz, lgv 0 0 0 0, .int .i64 1]) (by simp [results, Try.results13, go_sem, r0, r1, r2, r3, z0, z1, z2, z3]) rfl ⟨by rw [HE1.out], ?_⟩
      exact st4_below (st4_below X3.out.b (by omega) _ _ _ _) (by omega) _ _ _ _
    | true =>
      have HE9 : Hid (ee = 9) := by show _ = _; rw [HEE.out, hML, HMB.out]; rfl
      have hRB : roomB n a (dl : Int) = false := by
        rcases HR.out with h | h
        · rw [hML, HMB.out] at h; cases h
        · exact h
      have HRB := Lib.hid hRB
      clear hML hRB
      obtain ⟨k0, k1, k2, k3, kf⟩ := cells_log X3.out.l
      go_wp2_with fail
      refine (room_any f n a (x' : Int) (dl : Int) w3 hn0 hn2 ha0 ha2).mono ?_
      rintro e w4 ⟨rfl, hb4⟩
      rw [HRB.out]
      have X4 := Lib.hid (X3.out.below hb4)
      clear hb4 k0 k1 k2 k3 kf r0 r1 r2 r3 rf z0 z1 z2 z3 zf
      obtain ⟨r0, r1, r2, r3, rf⟩ := cells_of4 X4.out.rd
      obtain ⟨z0, z1, z2, z3, zf⟩ := cells_log X4.out.rl
      go_wp2_with fail
      refine bodyPost_ret (v := .tuple #[dz, lgv 0 0 0 0, .int .i64 9]) (by simp [results, Try.results13, go_sem, r0, r1, r2, r3, z0, z1, z2, z3]) rfl ⟨by rw [HE9.out], ?_⟩
      exact st4_below (st4_below X4.out.b (by omega) _ _ _ _) (by omega) _ _ _ _
/-- The document's Append, refused. -/
theorem rapp_no (Ad : Option Addr) (n0 cd : Nat) (Ad' : Option Addr) (m0 cd' : Nat) (S : List (List UInt8)) (W : Ws) (L0 : Int) (O0 : Bool) (w : World) (f n a x : Int) (A : Option Addr) (dl c : Nat) (hd : Dsk w Ad n0 cd Ad' m0 cd' S W) (hS : n0 ≤ 5000) (hM : m0 ≤ 5000)
    (hn2 : n ≤ 9223372036854775807) (hn0 : -9223372036854775808 ≤ n)
    (hdl : dl ≤ 9223372036854775807) (hR : (Fra.mayB x dl && mayLB S W L0 f n a x) = false ∨ roomB n a dl = false) :
    Calls Try.prog 14 #[dv Ad n0 cd Ad' m0 cd' L0 O0, lgv f n a x, .slice A dl c] w fun e w' => e = .returned (.tuple #[dz, lgv 0 0 0 0, .int .i64 (if (Fra.mayB x dl && mayLB S W L0 f n a x) = false then 1 else 9)]) ∧ Below w.heap.size w w' := by
  obtain ⟨ee, hee⟩ : ∃ ee : Int, ee = (if (Fra.mayB x dl && mayLB S W L0 f n a x) = false then 1 else 9) := ⟨_, rfl⟩
  rw [← hee]
  have HEE := Lib.hid hee
  obtain ⟨w1, hw1⟩ : ∃ w1, w1 = (((w.alloc (.cells #[.slice Ad n0 cd, .slice Ad' m0 cd', .int .i64 L0, .bool O0] 25 (0, 0))).alloc (lgo f n a x)).alloc zdo).alloc (lgo 0 0 0 0) := ⟨_, rfl⟩
  have X1 : Hid (AB w (.cells #[.slice Ad n0 cd, .slice Ad' m0 cd', .int .i64 L0, .bool O0] 25 (0, 0)) (lgo f n a x) w1) := by show AB _ _ _ _; rw [hw1]; exact AB.new _ _ _
  have hb1 : Below w1.heap.size w1 (w1.alloc (.cells #[.int .i64 x, .slice A dl c] 58 (0, 0))) := (Below.refl _ _).alloc (Nat.le_refl _) _
  obtain ⟨w2, hw2⟩ : ∃ w2, w2 = w1.alloc (.cells #[.int .i64 x, .slice A dl c] 58 (0, 0)) := ⟨_, rfl⟩
  rw [← hw2] at hb1
  have X2 := Lib.hid (X1.out.below hb1)
  have HFB : Hid (w2.heap[w1.heap.size]? = some (.cells #[.int .i64 x, .slice A dl c] 58 (0, 0))) := by show _ = _; rw [hw2]; exact heap_alloc_new _ _
  have HW := Lib.hid hw1
  have HW2 := Lib.hid hw2
  have HDsk : Hid (Dsk w Ad n0 cd Ad' m0 cd' S W) := hd
  have HR := Lib.hid hR
  clear hd hw1 hee hR hb1 hw2
  obtain ⟨k0, k1, k2, k3, kf⟩ := cells_log X1.out.l
  go_enter Try.func14, Try.ntmps14
  go_upto_region 1 with fail
  rw [← HW.out]
  go_upto_region 2 with fail
  rw [← HW2.out]
  clear k0 k1 k2 k3 kf
  obtain ⟨k0, k1, k2, k3, kf⟩ := cells_log X2.out.l
  obtain ⟨q0, q1, q2, q3, qf⟩ := cells_of4 X2.out.d
  have HD2 := Lib.hid (HDsk.out.below X2.out.b)
  go_wp2_with fail
  refine (rmay6 L0 O0 f n a x HD2.out (by omega) (by omega)).mono ?_
  rintro e w3 ⟨rfl, hb3⟩
  have X3 := Lib.hid (X2.out.below hb3)
  have HFB3 := Lib.hid (box_at HFB.out hb3)
  clear hb3 k0 k1 k2 k3 kf q0 q1 q2 q3 qf HD2
  cases hML : mayLB S W L0 f n a x with
  | false =>
    have HE1 : Hid (ee = 1) := by show _ = _; rw [HEE.out, hML, Bool.and_false]; rfl
    obtain ⟨r0, r1, r2, r3, rf⟩ := cells_of4 X3.out.rd
    obtain ⟨z0, z1, z2, z3, zf⟩ := cells_log X3.out.rl
    clear hML
    go_wp2_with fail
    refine bodyPost_ret (v := .tuple #[dz, lgv 0 0 0 0, .int .i64 1]) (by simp [results, Try.results14, go_sem, r0, r1, r2, r3, z0, z1, z2, z3]) rfl ⟨by rw [HE1.out], ?_⟩
    exact st4_below (st4_below X3.out.b (by omega) _ _ _ _) (by omega) _ _ _ _
  | true =>
    have f0 : w3.cell? ⟨w1.heap.size, 0, none⟩ = some (.int .i64 x) := by rw [cell_of_row _ _ 0 _ _ _ HFB3.out]; rfl
    have f1 : w3.cell? ⟨w1.heap.size, 1, none⟩ = some (.slice A dl c) := by rw [cell_of_row _ _ 1 _ _ _ HFB3.out]; rfl
    have HML := Lib.hid hML
    clear hML
    go_wp2_with fail
    refine (Fra.rmay_any x A dl c w3 hdl).mono ?_
    rintro e w4 ⟨rfl, hb4⟩
    have X4 := Lib.hid (X3.out.below hb4)
    clear hb4 f0 f1
    obtain ⟨r0, r1, r2, r3, rf⟩ := cells_of4 X4.out.rd
    obtain ⟨z0, z1, z2, z3, zf⟩ := cells_log X4.out.rl
    cases hMB : Fra.mayB x dl with
    | false =>
      have HE1 : Hid (ee = 1) := by show _ = _; rw [HEE.out, hMB]; rfl
      clear hMB
      go_wp2_with fail
      refine bodyPost_ret (v := .tuple #[dz, lgv 0 0 0 0, .int .i64 1]) (by simp [results, Try.results14, go_sem, r0, r1, r2, r3, z0, z1, z2, z3]) rfl ⟨by rw [HE1.out], ?_⟩
      exact st4_below (st4_below X4.out.b (by omega) _ _ _ _) (by omega) _ _ _ _
    | true =>
      have HE9 : Hid (ee = 9) := by show _ = _; rw [HEE.out, HML.out, hMB]; rfl
      have hRB : roomB n a (dl : Int) = false := by
        rcases HR.out with h | h
        · rw [HML.out, hMB] at h; cases h
        · exact h
      have HRB := Lib.hid hRB
      clear hMB hRB
      obtain ⟨k0, k1, k2, k3, kf⟩ := cells_log X4.out.l
      go_wp2_with fail
      refine (rroom6 f n a x (dl : Int) w4 hn0 hn2).mono ?_
      rintro e w5 ⟨rfl, hb5⟩
      rw [HRB.out]
      have X5 := Lib.hid (X4.out.below hb5)
      clear hb5 k0 k1 k2 k3 kf r0 r1 r2 r3 rf z0 z1 z2 z3 zf
      obtain ⟨r0, r1, r2, r3, rf⟩ := cells_of4 X5.out.rd
      obtain ⟨z0, z1, z2, z3, zf⟩ := cells_log X5.out.rl
      go_wp2_with fail
      refine bodyPost_ret (v := .tuple #[dz, lgv 0 0 0 0, .int .i64 9]) (by simp [results, Try.results14, go_sem, r0, r1, r2, r3, z0, z1, z2, z3]) rfl ⟨by rw [HE9.out], ?_⟩
      exact st4_below (st4_below X5.out.b (by omega) _ _ _ _) (by omega) _ _ _ _
end Go.Proofs.Ytjcgggheablpeaa.Wal.Vx
