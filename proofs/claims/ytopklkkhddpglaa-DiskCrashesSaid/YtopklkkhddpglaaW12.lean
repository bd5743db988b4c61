/- What a write keeps from round to round. -/
import Derived.Test.YtopklkkhddpglaaW11
namespace Go.Proofs.Ytopklkkhddpglaa
open Go.RowKit Go.Shelf Dk

theorem chunk_stops (n q b o N cap len : Nat) (hn : 1 ≤ n) (hlen : len = 64 * N) (hN : N ≤ 1000000) (hcap : len ≤ cap) (hcap2 : cap ≤ 9223372036854775807) (w : World) (hq2 : q + 1 < w.heap.size)
    (hq : w.heap[q]? = some (.cells #[.slice (some ⟨b, o, none⟩) len cap] 38 (0, 0))) (hq1 : w.heap[q + 1]? = some (.cells #[.int .i64 64] 3 (0, 0))) :
    SeqStopsK Fence.wide n Try.prog 35 #[.pointer (some ⟨q, 0, none⟩), .pointer (some ⟨q + 1, 0, none⟩)] (fun x : Ch N => #[chv b o x]) (Kq q) (fun ys => nums ys = List.range N) (fun pre => ∃ k, k ≤ N ∧ nums pre = List.range k) N w := fun l J Jx W hW hJ _ hY h0 =>
  chunk1_in n l q b o N cap len hn hlen hN hcap hcap2 J Jx (fun pre W h => hJ pre W W.drew none h ⟨rfl, rfl, rfl, Nat.le_refl _, fun _ _ _ => rfl⟩ (fun r e => by cases e)) hY W ((hW.block _ (by omega)).trans hq) ((hW.block _ hq2).trans hq1) h0
theorem kq_t {q : Nat} {A B C : World} (h : Kq q A B) (k : Kq q B C) : Kq q A C := ⟨k.1.trans h.1, k.2.trans h.2⟩
theorem kq_b {q : Nat} {w : World} (hq : q + 1 < w.heap.size) (W : World) (l : Nat) (o o' : Obj) (hl : w.heap.size ≤ l) (_ : W.heap[l]? = some o) (_ : o.isCells = false) (_ : o.isWalk = false) : Kq q W (W.putObj l o') :=
  ⟨World.putObj_heap_other (by omega), World.putObj_heap_other (by omega)⟩

/-- What is left of a budget behind so many writes. -/
def lft (L : Int) (k : Nat) : Int := if L < 0 then L else L - k
theorem lft_zero (L : Int) : lft L 0 = L := by unfold lft; split <;> simp
theorem lft_neg {L : Int} (k : Nat) (h : L < 0) : lft L k = L := if_pos h
theorem lft_pos {L : Int} (k : Nat) (h : ¬ L < 0) : lft L k = L - k := if_neg h
theorem lft_next {L : Int} {k : Nat} (h : lft L k ≠ 0) (h2 : L < 0 ∨ (k : Int) ≤ L) : spL (lft L k) false = lft L (k + 1) ∧ spO (lft L k) false = false ∧ (L < 0 ∨ ((k + 1 : Nat) : Int) ≤ L) := by
  by_cases hL : L < 0
  · rw [lft_neg _ hL, lft_neg _ hL]
    obtain ⟨e1, e2⟩ := spend_neg false hL
    exact ⟨e1, e2, .inl hL⟩
  · rw [lft_pos _ hL] at h ⊢
    rw [lft_pos _ hL]
    have h3 : (k : Int) ≤ L := by
      rcases h2 with h2 | h2
      · exact absurd h2 hL
      · exact h2
    obtain ⟨e1, e2⟩ := spend_pos (L := L - k) (by omega)
    exact ⟨by rw [e1]; omega, e2, .inr (by omega)⟩
theorem lft_range {L : Int} {k : Nat} (h : -1 ≤ L) (h1 : L ≤ 9223372036854775807) (h2 : L < 0 ∨ (k : Int) ≤ L) : lft L k ≤ 9223372036854775807 ∧ -1 ≤ lft L k := by
  unfold lft
  split <;> omega

/-- Octets that an append to a row of writes leaves alone. -/
def OctsW (w : World) (lo : Nat) (A : Option Addr) (l : List UInt8) : Prop :=
  ∀ i, (h : i < l.length) → ∃ b o, A = some ⟨b, o, none⟩ ∧ b < w.heap.size ∧ (b < lo ∨ ∃ cs, w.heap[b]? = some (.cells cs 5 (0, 0))) ∧ w.cell? ⟨b, o + i, none⟩ = some (.int .u8 (l[i].toNat : Int))
/-- What is kept of a world: its first blocks, and those of octets. -/
def KeepW (base : Nat) (w w' : World) : Prop := w.heap.size ≤ w'.heap.size ∧ ∀ b, b < w.heap.size → (b < base ∨ ∃ cs, w.heap[b]? = some (.cells cs 5 (0, 0))) → w'.heap[b]? = w.heap[b]?
theorem OctsW.keep {w w' : World} {base : Nat} {A : Option Addr} {l : List UInt8} (h : OctsW w base A l) (hk : KeepW base w w') : OctsW w' base A l := fun i hi => by
  obtain ⟨b, o, e, hb, ht, hc⟩ := h i hi
  have hh := hk.2 b hb ht
  refine ⟨b, o, e, Nat.lt_of_lt_of_le hb hk.1, ?_, (World.cell?_of_block hh).trans hc⟩
  rcases ht with h1 | ⟨cs, h1⟩
  · exact .inl h1
  · exact .inr ⟨cs, hh.trans h1⟩
theorem OctsW.octs {w : World} {base : Nat} {A : Option Addr} {l : List UInt8} (h : OctsW w base A l) : Octs w w.heap.size A l := fun i hi => by
  obtain ⟨b, o, e, hb, _, hc⟩ := h i hi
  exact ⟨b, o, e, hb, hc⟩
theorem Octs.toW {w : World} {B base : Nat} {A : Option Addr} {l : List UInt8} (h : Octs w B A l) (hB : B ≤ base) (hb : base ≤ w.heap.size) : OctsW w base A l := fun i hi => by
  obtain ⟨b, o, e, h1, hc⟩ := h i hi
  exact ⟨b, o, e, by omega, .inl (by omega), hc⟩
theorem own_toW {w : World} {base b2 : Nat} {v : Value} {l : List UInt8} (h : Own w base v l) : ∃ A c, v = .slice A l.length c ∧ OctsW w b2 A l ∧ l.length ≤ c := by
  have h' := h
  rcases h.2 with ⟨rfl, h1⟩ | ⟨g, cap, cur, rfl, hb, hh, hc, _⟩
  · obtain rfl := List.eq_nil_of_length_eq_zero h1
    exact ⟨none, 0, rfl, (fun i hi => by cases hi), Nat.le_refl _⟩
  · refine ⟨_, cap, rfl, fun i hi => ⟨g, 0, rfl, ?_, .inr ⟨cur, hh⟩, ?_⟩, hc⟩
    · rcases Nat.lt_or_ge g w.heap.size with hlt | hge
      · exact hlt
      · rw [Array.getElem?_eq_none hge] at hh; cases hh
    · have := h'.cells (g := g) rfl i _ (by rw [List.getElem?_map, List.getElem?_eq_getElem hi]; rfl)
      rwa [Addr.add_lit] at this

/-- A row of writes: one of the call's own, or the one that came, cut to what it has. -/
def RowW (w : World) (lo base : Nat) (v : Value) (n : Nat) (xs : List Value) : Prop :=
  w.ownsRow base 40 2 v n xs ∨ ∃ b o, v = .slice (some ⟨b, o, none⟩) n n ∧ b < lo ∧ lo ≤ base ∧ base ≤ w.heap.size ∧ xs.length = n * 2 ∧ ∀ j u, xs[j]? = some u → w.cell? ⟨b, o + j, none⟩ = some u
/-- What a row of writes says. -/
def RdW (w : World) (base : Nat) (xs : List Value) (W : Ws) : Prop :=
  xs.length = W.length * 2 ∧ ∀ k, (h : k < W.length) → ∃ A c, xs[k * 2]? = some (.int .i64 W[k].1) ∧ xs[k * 2 + 1]? = some (.slice A W[k].2.length c) ∧ OctsW w base A W[k].2 ∧ W[k].2.length ≤ c ∧ W[k].2.length ≤ 140737488351232 ∧ -9223372036854775808 ≤ W[k].1 ∧ W[k].1 ≤ 9223372036854775807
theorem RdW.keep {w w' : World} {base : Nat} {xs : List Value} {W : Ws} (h : RdW w base xs W) (hk : KeepW base w w') : RdW w' base xs W := ⟨h.1, fun k hk2 => by
  obtain ⟨A, c, h1, h2, h3, h4⟩ := h.2 k hk2
  exact ⟨A, c, h1, h2, h3.keep hk, h4⟩⟩
theorem RdW.snoc {w : World} {base : Nat} {xs : List Value} {W : Ws} (h : RdW w base xs W) {a : Int} {A : Option Addr} {l : List UInt8} {c : Nat} (ho : OctsW w base A l) (hl : l.length ≤ c) (hl2 : l.length ≤ 140737488351232) (ha1 : -9223372036854775808 ≤ a) (ha2 : a ≤ 9223372036854775807) :
    RdW w base (xs ++ [.int .i64 a, .slice A l.length c]) (W ++ [(a, l)]) := by
  refine ⟨by simp [h.1]; omega, fun k hk => ?_⟩
  rw [List.length_append, List.length_singleton] at hk
  by_cases hkn : k < W.length
  · obtain ⟨A1, c1, h1, h2, h3⟩ := h.2 k hkn
    refine ⟨A1, c1, ?_, ?_, ?_⟩
    · rw [List.getElem?_append_left (by rw [h.1]; omega), List.getElem_append_left hkn]; exact h1
    · rw [List.getElem?_append_left (by rw [h.1]; omega), List.getElem_append_left hkn]; exact h2
    · rw [List.getElem_append_left hkn]; exact h3
  · obtain rfl : k = W.length := by omega
    refine ⟨A, c, ?_, ?_, ?_⟩
    · rw [List.getElem?_append_right (by rw [h.1]; omega), h.1, List.getElem_append_right (Nat.le_refl _)]; simp
    · rw [List.getElem?_append_right (by rw [h.1]; omega), h.1, List.getElem_append_right (Nat.le_refl _)]; simp
    · rw [List.getElem_append_right (Nat.le_refl _)]
      simp only [Nat.sub_self, List.getElem_cons_zero]
      exact ⟨ho, hl, hl2, ha1, ha2⟩
theorem pend_of {w : World} {lo base b2 n c : Nat} {A : Option Addr} {xs : List Value} {W : Ws} (h : RowW w lo base (.slice A n c) n xs) (hr : RdW w b2 xs W) : Pend w w.heap.size A W := fun k hk => by
  obtain ⟨A2, c2, h1, h2, h3, h4, h5, h6, h7⟩ := hr.2 k hk
  rcases h with h | ⟨b, o, e, hb, hlb, hbs, hx, hc⟩
  · have hn : 0 < n := by
      rcases Nat.eq_zero_or_pos n with h0 | h0
      · have := h.1; rw [hr.1, h0] at this; omega
      · exact h0
    obtain ⟨g, cap, e, _, hg⟩ := h.form hn
    injection e with e1 e2 e3
    subst e1
    have k1 := h.cells (g := g) rfl _ _ h1
    have k2 := h.cells (g := g) rfl _ _ h2
    rw [Addr.add_lit] at k1 k2
    exact ⟨g, 0, A2, c2, rfl, hg, k1, k2, h3.octs, h4, h5, h6, h7⟩
  · injection e with e1 e2 e3
    subst e1
    exact ⟨b, o, A2, c2, rfl, by omega, hc _ _ h1, hc _ _ h2, h3.octs, h4, h5, h6, h7⟩
/-- One write more. -/
theorem run_appW (w : World) (lo base : Nat) (v : Value) (n : Nat) (xs : List Value) (h : RowW w lo base v n xs) (g : Nat) (a : Int) (A : Option Addr) (k c : Nat) (h0 : w.cell? ⟨g, 0, none⟩ = some (.int .i64 a)) (h1 : w.cell? ⟨g, 1, none⟩ = some (.slice A k c))
    (hn : n ≤ 1000000) (hb : base ≤ w.heap.size) :
    ∃ v' w', (Builtin.append_ #[23, 23] 23 #[v, .slice (some ⟨g, 0, none⟩) 1 1]).run Try.prog w = .ok v' w' ∧ w'.ownsRow base 40 2 v' (n + 1) (xs ++ [.int .i64 a, .slice A k c]) ∧ KeepW base w w' ∧ Below base w w' ∧ ∀ (j : Nat) (ob : Obj), w.heap[j]? = some ob → ob.isCells = false → w'.heap[j]? = some ob := by
  obtain ⟨i0, hi, hz0, hz1, hz2⟩ := info_parts info40
  have hcells : ∀ j u, ([.int .i64 a, .slice A k c] : List Value)[j]? = some u → w.cell? ⟨g, 0 + j, none⟩ = some u := fun j u hu => by
    rw [Nat.zero_add]
    match j, hu with
    | 0, hu => rw [h0]; simpa using hu
    | 1, hu => rw [h1]; simpa using hu
    | j + 2, hu => simp at hu
  rcases h with h | ⟨b, o, rfl, _, _, _, hx, hc⟩
  · obtain ⟨v', w', hr, h2, h3⟩ := run_app_own (P := Try.prog) w base 23 40 i0 _ 2 32 Try.underlying23 hi hz0 hz1 hz2 rfl (by decide) v n xs h (some ⟨g, 0, none⟩) 1 1 [.int .i64 a, .slice A k c] rfl (fun _ => ⟨g, 0, rfl, hcells⟩)
      (fun u hu => by simp at hu; rcases hu with rfl | rfl <;> rfl) (by simp only [maxLen]; omega) (by omega) hb
    refine ⟨v', w', hr, h2, ⟨h3.size, fun b hb' ht => h3.block b hb' (fun e => ?_)⟩, (Below.refl base w).grown h3 hb (fun g' e => (h.lt g' e).1), fun j ob hj hob => (h3.block j (Array.getElem?_eq_some_iff.1 hj).1 (fun e => ?_)).trans hj⟩
    rcases ht with ht | ⟨cs, ht⟩
    · have := (h.lt b e.symm).1; omega
    · rcases h.2 with ⟨rfl, _⟩ | ⟨g', cap, cur, rfl, _, hh, _⟩
      · simp [Value.ownBlock] at e
      · simp [Value.ownBlock] at e
        subst e
        rw [hh] at ht
        injection ht with ht
        injection ht with _ ht
        cases ht
    · rcases h.2 with ⟨rfl, _⟩ | ⟨g', cap, cur, rfl, _, hh, _⟩
      · simp [Value.ownBlock] at e
      · simp [Value.ownBlock] at e
        subst e
        rw [hh] at hj
        injection hj with hj
        subst hj
        cases hob
  · obtain ⟨v', w', hr, h2, h3⟩ := run_app_full (P := Try.prog) w base 23 40 i0 _ 2 32 Try.underlying23 hi hz0 hz1 hz2 rfl b o n xs hx hc ⟨g, 0, none⟩ 1 1 [.int .i64 a, .slice A k c] rfl (fun j u hu => by rw [Addr.add_lit]; exact hcells j u hu) (by decide) (by simp only [maxLen]; omega) (by omega) hb
    exact ⟨v', w', hr, h2, ⟨h3.size, fun b hb' _ => h3.block b hb' (by simp)⟩, (Below.refl base w).grown h3 hb (fun g' e => by cases e), fun j ob hj _ => (h3.block j (Array.getElem?_eq_some_iff.1 hj).1 (by simp)).trans hj⟩

/-- Rounds leave what is no cells, and the library's boxes, alone. -/
structure Stp (base q : Nat) (W W' : World) : Prop where
  k : KeepsFrom base W W'
  q_ : Kq q W W'
theorem Stp.refl (base q : Nat) (W : World) : Stp base q W W := ⟨KeepsFrom.refl base W, rfl, rfl⟩
theorem Stp.trans {base q : Nat} {A B C : World} (h : Stp base q A B) (k : Stp base q B C) : Stp base q A C := ⟨h.k.trans k.k, kq_t h.q_ k.q_⟩
theorem Stp.below {base q : Nat} {W W' : World} (hb : Below W.heap.size W W') (hq : q + 1 < W.heap.size) : Stp base q W W' :=
  ⟨⟨hb.size, fun k o _ hk _ => (hb.block k (Array.getElem?_eq_some_iff.1 hk).1).trans hk⟩, hb.block _ (by omega), hb.block _ hq⟩
theorem Stp.set {base q : Nat} (W : World) (p : Addr) (u : Value) (h1 : p.block < q) : Stp base q W (W.setCell p u) :=
  ⟨(KeepsOthers.setCell W p u).from base, Below.heap_setCell W p u q (by omega), Below.heap_setCell W p u (q + 1) (by omega)⟩
theorem Stp.st4 {base q : Nat} (W : World) (r : Nat) (a b c d : Value) (h1 : r < q) : Stp base q W (st4 W r a b c d) :=
  (((Stp.set W ⟨r, 0, none⟩ a h1).trans (Stp.set _ ⟨r, 1, none⟩ b h1)).trans (Stp.set _ ⟨r, 2, none⟩ c h1)).trans (Stp.set _ ⟨r, 3, none⟩ d h1)
theorem grown_cells {W W' : World} {row : Option Nat} (hg : W.grownBy W' row) (hr : ∀ r, row = some r → ∃ o : Obj, W.heap[r]? = some o ∧ o.isCells = false) {k : Nat} {c : Array Value} {t : TypeId} {fr : Nat × Nat} (h : W.heap[k]? = some (.cells c t fr)) : W'.heap[k]? = some (.cells c t fr) :=
  (hg.block k (Array.getElem?_eq_some_iff.1 h).1 (fun e => by
    obtain ⟨o, ho, hc⟩ := hr k e.symm
    rw [h] at ho
    injection ho with ho
    subst ho
    cases hc)).trans h
theorem keepW_grown {base : Nat} {W W' : World} {row : Option Nat} (hg : W.grownBy W' row) (hr : ∀ r, row = some r → base ≤ r ∧ ∃ o : Obj, W.heap[r]? = some o ∧ o.isCells = false) : KeepW base W W' :=
  ⟨hg.size, fun b hb ht => hg.block b hb (fun e => by
    obtain ⟨h1, o, ho, hc⟩ := hr b e.symm
    rcases ht with ht | ⟨cs, ht⟩
    · omega
    · rw [ht] at ho
      injection ho with ho
      subst ho
      cases hc)⟩
theorem keepW_below {base : Nat} {W W' : World} (hb : Below W.heap.size W W') : KeepW base W W' := ⟨hb.size, fun b h _ => hb.block b h⟩
theorem keepW_set {base : Nat} (W : World) (p : Addr) (u : Value) {cs : Array Value} {t : TypeId} {fr : Nat × Nat} (h : W.heap[p.block]? = some (.cells cs t fr)) (ht5 : t ≠ 5) (hp : base ≤ p.block) : KeepW base W (W.setCell p u) :=
  ⟨by simp, fun k _ ht => Below.heap_setCell W p u k (fun e => by
    subst e
    rcases ht with ht | ⟨cs, ht⟩
    · omega
    · rw [h] at ht
      injection ht with ht
      injection ht with _ ht
      exact ht5 ht)⟩
theorem KeepW.mono {lo base : Nat} {W W' : World} (h : KeepW base W W') (hl : lo ≤ base) : KeepW lo W W' :=
  ⟨h.1, fun b hb ht => h.2 b hb (by
    rcases ht with ht | ht
    · exact .inl (by omega)
    · exact .inr ht)⟩
theorem KeepW.trans {base : Nat} {A B C : World} (h : KeepW base A B) (k : KeepW base B C) : KeepW base A C :=
  ⟨Nat.le_trans h.1 k.1, fun b hb ht => by
    have e := h.2 b hb ht
    refine (k.2 b (Nat.lt_of_lt_of_le hb h.1) ?_).trans e
    rcases ht with ht | ⟨cs, ht⟩
    · exact .inl ht
    · exact .inr ⟨cs, e.trans ht⟩⟩
theorem keepW_st4 {base : Nat} (W : World) (r : Nat) (a b c d : Value) {cs : Array Value} {t : TypeId} (h : W.heap[r]? = some (.cells cs t (0, 0))) (ht5 : t ≠ 5) (hp : base ≤ r) : KeepW base W (st4 W r a b c d) := by
  have s1 : ∀ (V : World) (cs : Array Value) (j : Nat) (u : Value), V.heap[r]? = some (.cells cs t (0, 0)) → (V.setCell ⟨r, j, none⟩ u).heap[r]? = some (.cells (cs.setIfInBounds j u) t (0, 0)) := fun V cs j u hV => by
    simp [World.setCell, Array.getElem?_modify, hV]
  have h1 := s1 W _ 0 a h
  have h2 := s1 _ _ 1 b h1
  have h3 := s1 _ _ 2 c h2
  exact (((keepW_set W ⟨r, 0, none⟩ a h ht5 hp).trans (keepW_set _ ⟨r, 1, none⟩ b h1 ht5 hp)).trans (keepW_set _ ⟨r, 2, none⟩ c h2 ht5 hp)).trans (keepW_set _ ⟨r, 3, none⟩ d h3 ht5 hp)
theorem RowW.grown {lo base n : Nat} {v : Value} {xs : List Value} {W W' : World} {row : Option Nat} (h : RowW W lo base v n xs) (hg : W.grownBy W' row) (hr : ∀ r, row = some r → base ≤ r ∧ ∃ o : Obj, W.heap[r]? = some o ∧ o.isCells = false) : RowW W' lo base v n xs := by
  rcases h with h | ⟨b, o, e, hb, hlb, hbs, hx, hc⟩
  · refine .inl (h.kept hg ?_)
    rcases h.2 with ⟨rfl, _⟩ | ⟨g, cap, cur, rfl, _, hh, _⟩
    · exact .inl rfl
    · refine .inr (fun e => ?_)
      obtain ⟨_, ob, ho, hc⟩ := hr g e.symm
      rw [hh] at ho
      injection ho with ho
      subst ho
      cases hc
  · exact .inr ⟨b, o, e, hb, hlb, Nat.le_trans hbs hg.size, hx, fun j u hu => (World.cell?_of_block (hg.block b (by omega) (fun e => by have := (hr b e.symm).1; omega))).trans (hc j u hu)⟩
theorem RowW.below {lo base n : Nat} {v : Value} {xs : List Value} {W W' : World} (h : RowW W lo base v n xs) (hb : Below W.heap.size W W') : RowW W' lo base v n xs := by
  rcases h with h | ⟨b, o, e, hb1, hlb, hbs, hx, hc⟩
  · exact .inl (h.kept (row := none) ⟨hb.os, hb.tape, hb.output, hb.size, fun k hk _ => hb.block k hk⟩ (by
      cases hv : v.ownBlock with
      | none => exact .inl rfl
      | some g => exact .inr (by simp)))
  · exact .inr ⟨b, o, e, hb1, hlb, Nat.le_trans hbs hb.size, hx, fun j u hu => (hb.cell (p := ⟨b, o + j, none⟩) (by simp only; omega)).trans (hc j u hu)⟩
/-- A store to a box of the call's own below the rows. -/
theorem RowW.box {lo base n : Nat} {v : Value} {xs : List Value} {W : World} (h : RowW W lo base v n xs) {p : Addr} (u : Value) (hp : lo ≤ p.block) (hp2 : p.block < base) : RowW (W.setCell p u) lo base v n xs := by
  rcases h with h | ⟨b, o, e, hb1, hlb, hbs, hx, hc⟩
  · refine .inl (h.kept (row := some p.block) ⟨rfl, rfl, rfl, by simp, fun k _ hne => Below.heap_setCell W p u k (fun e => hne (by rw [e]))⟩ ?_)
    cases hv : v.ownBlock with
    | none => exact .inl rfl
    | some g => exact .inr (fun e => by
        injection e with e
        have := (h.lt g hv).1
        omega)
  · refine .inr ⟨b, o, e, hb1, hlb, by simpa using hbs, hx, fun j u' hu => (World.cell?_setCell_other W p _ u (fun e' => ?_)).trans (hc j u' hu)⟩
    rw [e'] at hp
    simp only at hp
    omega
theorem RowW.st4 {lo base n : Nat} {v : Value} {xs : List Value} {W : World} (h : RowW W lo base v n xs) (r : Nat) (a b c d : Value) (hp : lo ≤ r) (hp2 : r < base) : RowW (st4 W r a b c d) lo base v n xs :=
  (((RowW.box h (p := ⟨r, 0, none⟩) a hp hp2) |> fun h => RowW.box h (p := ⟨r, 1, none⟩) b hp hp2) |> fun h => RowW.box h (p := ⟨r, 2, none⟩) c hp hp2) |> fun h => RowW.box h (p := ⟨r, 3, none⟩) d hp hp2

/-- Octets of one chunk. -/
theorem octs_chunk {w : World} {B b o : Nat} {l : List UInt8} (h : Octs w B (some ⟨b, o, none⟩) l) {k : Nat} (hk : 64 * k + 64 ≤ l.length) : Octs w B (some ⟨b, o + 64 * k, none⟩) (chunk l k) := fun i hi => by
  rw [chunk_len l k hk] at hi
  obtain ⟨b', o', e, hb, hc⟩ := h (64 * k + i) (by omega)
  injection e with e
  injection e with e1 e2
  subst e1
  subst e2
  refine ⟨b, o + 64 * k, rfl, hb, ?_⟩
  rw [show o + 64 * k + i = o + (64 * k + i) by omega, hc]
  simp [chunk]
/-- The row that came, cut to what it has. -/
theorem row_start {w W0 : World} {A : Option Addr} {m : Nat} {W : Ws} {base : Nat} (h : Pend w w.heap.size A W) (hm : W.length = m) (hz : m = 0 → A = none) (hb : Below w.heap.size w W0) (hb1 : w.heap.size ≤ base) (hb2 : base ≤ W0.heap.size) :
    ∃ xs, RowW W0 w.heap.size base (.slice A m m) m xs ∧ RdW W0 w.heap.size xs W := by
  rcases Nat.eq_zero_or_pos m with h0 | h0
  · subst h0
    rw [hz rfl]
    obtain rfl : W = [] := List.eq_nil_of_length_eq_zero hm
    exact ⟨[], .inl (World.ownsRow_nil W0 base 40 2), rfl, fun k hk => by cases hk⟩
  · obtain ⟨b, o, A0, c0, e, hbl, _⟩ := h 0 (by omega)
    subst e
    have hcell : ∀ k, (hk : k < W.length) → ∃ A' c, w.cell? ⟨b, o + k * 2, none⟩ = some (.int .i64 W[k].1) ∧ w.cell? ⟨b, o + k * 2 + 1, none⟩ = some (.slice A' W[k].2.length c) ∧ Octs w w.heap.size A' W[k].2 ∧ W[k].2.length ≤ c ∧ W[k].2.length ≤ 140737488351232 ∧ -9223372036854775808 ≤ W[k].1 ∧ W[k].1 ≤ 9223372036854775807 := fun k hk => by
      obtain ⟨b', o', A', c, e, _, hc⟩ := h k hk
      injection e with e
      injection e with e1 e2
      subst e1
      subst e2
      exact ⟨A', c, hc⟩
    have hget : ∀ j, j < m * 2 → ((List.range (m * 2)).map (fun j => (w.cell? ⟨b, o + j, none⟩).getD undef))[j]? = some ((w.cell? ⟨b, o + j, none⟩).getD undef) := fun j hj => by
      rw [List.getElem?_map, List.getElem?_eq_getElem (by simpa using hj), List.getElem_range]; rfl
    have hsome : ∀ j, j < m * 2 → ∃ u, w.cell? ⟨b, o + j, none⟩ = some u := fun j hj => by
      obtain ⟨A', c, h1, h2, _⟩ := hcell (j / 2) (by omega)
      rcases Nat.mod_two_eq_zero_or_one j with h3 | h3
      · exact ⟨_, by rw [show o + j = o + j / 2 * 2 by omega]; exact h1⟩
      · exact ⟨_, by rw [show o + j = o + j / 2 * 2 + 1 by omega]; exact h2⟩
    refine ⟨(List.range (m * 2)).map (fun j => (w.cell? ⟨b, o + j, none⟩).getD undef), .inr ⟨b, o, rfl, hbl, hb1, hb2, by simp, fun j u hu => ?_⟩, by simp [hm], fun k hk => ?_⟩
    · have hj : j < m * 2 := by
        rcases Nat.lt_or_ge j (m * 2) with h | h
        · exact h
        · rw [List.getElem?_eq_none (by simpa using h)] at hu; cases hu
      rw [hget j hj] at hu
      obtain ⟨x, hx⟩ := hsome j hj
      rw [hx] at hu
      refine (hb.cell (p := ⟨b, o + j, none⟩) hbl).trans ?_
      rw [hx]
      simpa using hu
    · obtain ⟨A', c, h1, h2, h3, h4⟩ := hcell k hk
      refine ⟨A', c, ?_, ?_, ?_, h4⟩
      · rw [hget _ (by omega), h1]; rfl
      · rw [hget _ (by omega), show o + (k * 2 + 1) = o + k * 2 + 1 by omega, h2]; rfl
      · exact (h3.below hb (Nat.le_refl _)).toW (Nat.le_refl _) hb.size
end Go.Proofs.Ytopklkkhddpglaa
