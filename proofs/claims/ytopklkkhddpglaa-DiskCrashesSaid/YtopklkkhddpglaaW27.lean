/- Rows of slices of the call's own, and rows of writes: what the document's Copy makes. -/
import Derived.Test.YtopklkkhddpglaaW26
import Derived.Test.YtopklkkhddpglaaW12
namespace Go.Proofs.Ytopklkkhddpglaa
open Go.RowKit Dk

/-- What a row of sectors says. -/
def RdS (w : World) (base : Nat) (xs : List Value) (S : List (List UInt8)) : Prop :=
  xs.length = S.length ∧ ∀ k, (h : k < S.length) → ∃ A c, xs[k]? = some (.slice A S[k].length c) ∧ OctsW w base A S[k] ∧ S[k].length ≤ c ∧ S[k].length ≤ 140737488351232
theorem RdS.keep {w w' : World} {base : Nat} {xs : List Value} {S : List (List UInt8)} (h : RdS w base xs S) (hk : KeepW base w w') : RdS w' base xs S := ⟨h.1, fun k hk2 => by
  obtain ⟨A, c, h1, h2, h3⟩ := h.2 k hk2
  exact ⟨A, c, h1, h2.keep hk, h3⟩⟩
theorem RdS.snoc {w : World} {base : Nat} {xs : List Value} {S : List (List UInt8)} (h : RdS w base xs S) {A : Option Addr} {l : List UInt8} {c : Nat} (ho : OctsW w base A l) (hl : l.length ≤ c) (hl2 : l.length ≤ 140737488351232) :
    RdS w base (xs ++ [.slice A l.length c]) (S ++ [l]) := by
  refine ⟨by simp [h.1], fun k hk => ?_⟩
  rw [List.length_append, List.length_singleton] at hk
  by_cases hkn : k < S.length
  · obtain ⟨A1, c1, h1, h2, h3⟩ := h.2 k hkn
    have e : (S ++ [l])[k] = S[k] := List.getElem_append_left hkn
    rw [e]
    exact ⟨A1, c1, by rw [List.getElem?_append_left (by rw [h.1]; exact hkn)]; exact h1, h2, h3⟩
  · obtain rfl : k = S.length := by omega
    have e : (S ++ [l])[S.length] = l := by simp
    rw [e]
    exact ⟨A, c, by rw [← h.1]; simp, ho, hl, hl2⟩
theorem parts_of {w : World} {base b2 n c : Nat} {A : Option Addr} {xs : List Value} {S : List (List UInt8)} (h : w.ownsRow base 38 1 (.slice A n c) n xs) (hr : RdS w b2 xs S) : Parts w w.heap.size A S := fun k hk => by
  obtain ⟨A2, c2, h1, h3, h4, h5⟩ := hr.2 k hk
  have hn : 0 < n := by
    rcases Nat.eq_zero_or_pos n with h0 | h0
    · have := h.1; rw [hr.1, h0] at this; omega
    · exact h0
  obtain ⟨g, cap, e, _, hg⟩ := h.form hn
  injection e with e1 e2 e3
  subst e1
  have k1 := h.cells (g := g) rfl _ _ h1
  rw [Addr.add_lit] at k1
  exact ⟨g, 0, A2, c2, rfl, hg, k1, h3.octs, h4, h5⟩
theorem info38x : ∃ i : TypeInfo, Try.prog.info? 38 = some i ∧ i.zero = some (.slice none 0 0) ∧ i.size = 1 ∧ i.bytes = 24 := by
  obtain ⟨i0, hi, hz0, hz1, hz2⟩ := info_parts info38
  exact ⟨i0, hi, hz0, hz1, hz2⟩
/-- What an append to a row of the call's own keeps. -/
theorem keep_row {w w' : World} {base base2 n size : Nat} {e : TypeId} {v : Value} {xs : List Value} (h : w.ownsRow base2 e size v n xs) (he : e ≠ 5) (hb : base ≤ base2) (hg : w.grownBy w' v.ownBlock) : KeepW base w w' := by
  refine ⟨hg.size, fun b hb' ht => hg.block b hb' (fun e1 => ?_)⟩
  rcases ht with ht | ⟨cs, ht⟩
  · have := (h.lt b e1.symm).1; omega
  · rcases h.2 with ⟨rfl, _⟩ | ⟨g', cap, cur, rfl, _, hh, _⟩
    · simp [Value.ownBlock] at e1
    · simp [Value.ownBlock] at e1
      subst e1
      rw [hh] at ht
      injection ht with ht
      injection ht with _ ht
      exact he ht
theorem run_appS (w : World) (base : Nat) (v : Value) (n : Nat) (xs : List Value) (h : w.ownsRow base 38 1 v n xs) (g : Nat) (u : Value) (h1 : u.oneCell' = true) (h0 : w.cell? ⟨g, 0, none⟩ = some u) (hn : n ≤ 1000000) (hb : base ≤ w.heap.size) :
    ∃ v' w', (Builtin.append_ #[22, 22] 22 #[v, .slice (some ⟨g, 0, none⟩) 1 1]).run Try.prog w = .ok v' w' ∧ w'.ownsRow base 38 1 v' (n + 1) (xs ++ [u]) ∧ w.grownBy w' v.ownBlock := by
  obtain ⟨i0, hi, hz0, hz1, hz2⟩ := info38x
  exact run_app_own (P := Try.prog) w base 22 38 i0 (.slice none 0 0) 1 24 Try.underlying22 hi hz0 hz1 hz2 rfl (by decide) v n xs h (some ⟨g, 0, none⟩) 1 1 [u] rfl (fun _ => ⟨g, 0, rfl, fun j u' hu => by
    rcases j with _ | j
    · simp at hu; subst hu; exact h0
    · simp at hu⟩) (by intro x hx; simp at hx; subst hx; exact h1) (by simp only [maxLen]; omega) (by omega) hb
theorem run_appP (w : World) (base : Nat) (v : Value) (n : Nat) (xs : List Value) (h : w.ownsRow base 40 2 v n xs) (g : Nat) (a : Int) (A : Option Addr) (k c : Nat) (h0 : w.cell? ⟨g, 0, none⟩ = some (.int .i64 a)) (h1 : w.cell? ⟨g, 1, none⟩ = some (.slice A k c)) (hn : n ≤ 1000000) (hb : base ≤ w.heap.size) :
    ∃ v' w', (Builtin.append_ #[23, 23] 23 #[v, .slice (some ⟨g, 0, none⟩) 1 1]).run Try.prog w = .ok v' w' ∧ w'.ownsRow base 40 2 v' (n + 1) (xs ++ [.int .i64 a, .slice A k c]) ∧ w.grownBy w' v.ownBlock := by
  obtain ⟨i0, hi, hz0, hz1, hz2⟩ := info_parts info40
  exact run_app_own (P := Try.prog) w base 23 40 i0 _ 2 32 Try.underlying23 hi hz0 hz1 hz2 rfl (by decide) v n xs h (some ⟨g, 0, none⟩) 1 1 [.int .i64 a, .slice A k c] rfl (fun _ => ⟨g, 0, rfl, fun j u' hu => by
    rcases j with _ | _ | j
    · simp at hu; subst hu; exact h0
    · simp at hu; subst hu; exact h1
    · simp at hu⟩) (by intro x hx; simp at hx; rcases hx with rfl | rfl <;> rfl) (by simp only [maxLen]; omega) (by omega) hb
/-- A row of one type of cells is kept while one of another type grows. -/
theorem row_kept {w w' : World} {base base2 n n2 size size2 : Nat} {e e2 : TypeId} {v u : Value} {xs ys : List Value} (h : w.ownsRow base e size v n xs) (h2 : w.ownsRow base2 e2 size2 u n2 ys) (he : e ≠ e2) (hg : w.grownBy w' u.ownBlock) : w'.ownsRow base e size v n xs := by
  refine h.kept hg ?_
  rcases hb : v.ownBlock with _ | g
  · exact .inl rfl
  · refine .inr fun e1 => he ?_
    rcases h.2 with ⟨rfl, _⟩ | ⟨g1, cap, cur, rfl, _, hh, _⟩
    · simp [Value.ownBlock] at hb
    · simp [Value.ownBlock] at hb
      subst hb
      rcases h2.2 with ⟨rfl, _⟩ | ⟨g2, cap2, cur2, rfl, _, hh2, _⟩
      · simp [Value.ownBlock] at e1
      · simp [Value.ownBlock] at e1
        subst e1
        rw [hh] at hh2
        injection hh2 with hh2
        injection hh2
theorem row_below {w w' : World} {base n size B : Nat} {e : TypeId} {v : Value} {xs : List Value} (h : w.ownsRow base e size v n xs) (hb : Below B w w') (hB : w.heap.size ≤ B) : w'.ownsRow base e size v n xs := by
  refine ⟨h.1, ?_⟩
  rcases h.2 with h2 | ⟨g, cap, cur, hv, hbg, hh, h3⟩
  · exact .inl h2
  · refine .inr ⟨g, cap, cur, hv, hbg, ?_, h3⟩
    have hlt : g < w.heap.size := by
      rcases Nat.lt_or_ge g w.heap.size with hlt | hge
      · exact hlt
      · rw [Array.getElem?_eq_none hge] at hh; cases hh
    rw [← hh]
    exact hb.block g (by omega)
theorem row_set {w : World} {base n size : Nat} {e : TypeId} {v : Value} {xs : List Value} (h : w.ownsRow base e size v n xs) (p : Addr) (u : Value) (hp : p.block < base) : (w.setCell p u).ownsRow base e size v n xs := by
  refine ⟨h.1, ?_⟩
  rcases h.2 with h2 | ⟨g, cap, cur, hv, hbg, hh, h3⟩
  · exact .inl h2
  · exact .inr ⟨g, cap, cur, hv, hbg, (Below.heap_setCell w p u g (by omega)).trans hh, h3⟩
/-- The boxes of Copy: the disk's, the result's, the new one's. -/
structure Bx3 (w0 : World) (a0 a1 a2 a3 x0 x1 x2 x3 : Value) (w : World) : Prop where
  d : w.heap[w0.heap.size]? = some (.cells #[a0, a1, a2, a3] 25 (0, 0))
  r_ : w.heap[w0.heap.size + 1]? = some (.cells #[.slice none 0 0, .slice none 0 0, .int .i64 0, .bool false] 25 (0, 0))
  x : w.heap[w0.heap.size + 1 + 1]? = some (.cells #[x0, x1, x2, x3] 25 (0, 0))
  b : Below w0.heap.size w0 w
  hi : w0.heap.size + 3 ≤ w.heap.size
theorem Bx3.below {w0 w w' : World} {a0 a1 a2 a3 x0 x1 x2 x3 : Value} (h : Bx3 w0 a0 a1 a2 a3 x0 x1 x2 x3 w) (hb : Below (w0.heap.size + 3) w w') : Bx3 w0 a0 a1 a2 a3 x0 x1 x2 x3 w' :=
  ⟨(hb.block _ (by omega)).trans h.d, (hb.block _ (by omega)).trans h.r_, (hb.block _ (by omega)).trans h.x, h.b.trans (hb.mono (by omega)), Nat.le_trans h.hi hb.size⟩
theorem Bx3.set {w0 w : World} {a0 a1 a2 a3 x0 x1 x2 x3 : Value} (h : Bx3 w0 a0 a1 a2 a3 x0 x1 x2 x3 w) (j : Nat) (u a b c d : Value) (e : (#[x0, x1, x2, x3].setIfInBounds j u) = #[a, b, c, d]) : Bx3 w0 a0 a1 a2 a3 a b c d (w.setCell ⟨w0.heap.size + 1 + 1, j, none⟩ u) := by
  refine ⟨(Below.heap_setCell w _ u _ (by simp only; omega)).trans h.d, (Below.heap_setCell w _ u _ (by simp)).trans h.r_, ?_, h.b.setCell (by simp only; omega) _, by simpa using h.hi⟩
  rw [← e]
  simp [World.setCell, Array.getElem?_modify, h.x]
/-- What Copy's loops keep. -/
structure CpI (w0 : World) (a0 a1 a2 a3 : Value) (L : Int) (O : Bool) (S : List (List UInt8)) (W : Ws) (w : World) : Prop where
  ex : ∃ v n xs u m ys, Bx3 w0 a0 a1 a2 a3 v u (.int .i64 L) (.bool O) w ∧ w.ownsRow (w0.heap.size + 3) 38 1 v n xs ∧ n = S.length ∧ RdS w 0 xs S ∧ w.ownsRow (w0.heap.size + 3) 40 2 u m ys ∧ m = W.length ∧ RdW w 0 ys W
theorem below_drew1 (w : World) : Below w.heap.size w w.drew := ⟨rfl, rfl, rfl, Nat.le_refl _, fun _ _ => rfl⟩
theorem row_sl {w : World} {base n size : Nat} {e : TypeId} {v : Value} {xs : List Value} (h : w.ownsRow base e size v n xs) : ∃ A c, v = .slice A n c ∧ n ≤ c := by
  rcases h.2 with ⟨rfl, h1⟩ | ⟨g, cap, cur, rfl, hb, hh, hc, _⟩
  · exact ⟨none, 0, by rw [h1], by omega⟩
  · exact ⟨_, cap, rfl, hc⟩
/-- A sector more. -/
theorem CpI.sector {w0 : World} {a0 a1 a2 a3 : Value} {L : Int} {O : Bool} {S : List (List UInt8)} {W : Ws} {w : World} {v u : Value} {n m : Nat} {xs ys : List Value} (hx : Bx3 w0 a0 a1 a2 a3 v u (.int .i64 L) (.bool O) w)
    (hv : w.ownsRow (w0.heap.size + 3) 38 1 v n xs) (hn : n = S.length) (hr : RdS w 0 xs S) (hu : w.ownsRow (w0.heap.size + 3) 40 2 u m ys) (hm : m = W.length) (hrw : RdW w 0 ys W) (hn1 : n ≤ 100000)
    (A : Option Addr) (l : List UInt8) (c : Nat) (ho : Octs w w.heap.size A l) (hl2 : l.length ≤ 140737488351232) :
    ∃ A9 c9 w1 A8 c8 w2, (Builtin.append_ #[38, 38] 38 #[.slice (some ⟨w.heap.size, 0, none⟩) 0 0, .slice A l.length c]).run Try.prog (w.drew.alloc (.cells #[] 5)) = .ok (.slice A9 l.length c9) w1 ∧
      Below w.heap.size w w1 ∧ (Builtin.append_ #[22, 22] 22 #[v, .slice (some ⟨w1.heap.size, 0, none⟩) 1 1]).run Try.prog (w1.alloc (.cells #[.slice A9 l.length c9] 38)) = .ok (.slice A8 (n + 1) c8) w2 ∧
      Bx3 w0 a0 a1 a2 a3 v u (.int .i64 L) (.bool O) w2 ∧ CpI w0 a0 a1 a2 a3 L O (S ++ [l]) W (w2.setCell ⟨w0.heap.size + 1 + 1, 0, none⟩ (.slice A8 (n + 1) c8)) := by
  obtain ⟨V, hV⟩ : ∃ V, V = w.drew.alloc (.cells #[] 5) := ⟨_, rfl⟩
  have hbV : Below w.heap.size w V := by rw [hV]; exact (below_drew1 w).alloc (Nat.le_refl _) _
  have hown : Own V w.heap.size (.slice (some ⟨w.heap.size, 0, none⟩) 0 0) [] := by rw [hV]; exact ⟨rfl, .inr ⟨w.heap.size, 0, #[], rfl, Nat.le_refl _, heap_alloc_new w.drew _, Nat.le_refl _, Nat.zero_le _, rfl, rfl⟩⟩
  obtain ⟨v1, w1, hr1, ho1, hg1⟩ := run_app8 V w.heap.size _ [] hown w.heap.size A l c (ho.below hbV (Nat.le_refl _)) (by simpa using (by omega : l.length ≤ 140737488355328)) hbV.size
  have hb1 : Below w.heap.size w w1 := hbV.grown hg1 hbV.size (fun k e => by simp [Value.ownBlock] at e; omega)
  rw [List.nil_append] at ho1
  obtain ⟨A1, c1, rfl, ow1, hc1⟩ := own_toW (b2 := 0) ho1
  obtain ⟨V2, hV2⟩ : ∃ V2, V2 = w1.alloc (.cells #[.slice A1 l.length c1] 38) := ⟨_, rfl⟩
  have hb2 : Below w1.heap.size w1 V2 := by rw [hV2]; exact (Below.refl _ _).alloc (Nat.le_refl _) _
  have hbw : Below w.heap.size w V2 := hb1.trans (hb2.mono hb1.size)
  have hhi := hx.hi
  have hv2 := row_below hv hbw (Nat.le_refl _)
  have hu2 := row_below hu hbw (Nat.le_refl _)
  have hx2 := hx.below (hbw.mono hhi)
  have hr2 := hr.keep (keepW_below hbw)
  have hrw2 := hrw.keep (keepW_below hbw)
  have how2 := ow1.keep (keepW_below hb2)
  have hcell : V2.cell? ⟨w1.heap.size, 0, none⟩ = some (.slice A1 l.length c1) := by rw [hV2]; exact World.cell?_alloc_new w1 _ 38 0
  obtain ⟨v2, w2, hr3, ho3, hg3⟩ := run_appS V2 (w0.heap.size + 3) v n xs hv2 w1.heap.size (.slice A1 l.length c1) rfl hcell (by omega) (Nat.le_trans hhi hbw.size)
  obtain ⟨A8, c8, rfl, _⟩ := row_sl ho3
  have hkp := keep_row (base := 0) hv2 (by decide) (by omega) hg3
  have hb3 : Below (w0.heap.size + 3) V2 w2 := (Below.refl _ V2).grown hg3 (Nat.le_trans hhi hbw.size) (fun k e => (hv2.lt k e).1)
  have hx3 := hx2.below hb3
  have hu3 := row_kept hu2 hv2 (by decide) hg3
  refine ⟨A1, c1, w1, A8, c8, w2, by rw [← hV]; exact hr1, hb1, by rw [← hV2]; exact hr3, hx3, ⟨_, n + 1, xs ++ [.slice A1 l.length c1], u, m, ys, hx3.set 0 _ _ u _ _ rfl, row_set ho3 _ _ (by simp only; omega), by simp [hn], ?_, row_set hu3 _ _ (by simp only; omega), hm, ?_⟩⟩
  · exact ((hr2.keep hkp).snoc (how2.keep hkp) hc1 hl2).keep (keepW_set w2 _ _ hx3.x (by decide) (by simp only; omega))
  · exact (hrw2.keep hkp).keep (keepW_set w2 _ _ hx3.x (by decide) (by simp only; omega))
/-- A write more. -/
theorem CpI.write {w0 : World} {a0 a1 a2 a3 : Value} {L : Int} {O : Bool} {S : List (List UInt8)} {W : Ws} {w : World} {v u : Value} {n m : Nat} {xs ys : List Value} (hx : Bx3 w0 a0 a1 a2 a3 v u (.int .i64 L) (.bool O) w)
    (hv : w.ownsRow (w0.heap.size + 3) 38 1 v n xs) (hn : n = S.length) (hr : RdS w 0 xs S) (hu : w.ownsRow (w0.heap.size + 3) 40 2 u m ys) (hm : m = W.length) (hrw : RdW w 0 ys W) (hm1 : m ≤ 100000)
    (at' : Int) (A : Option Addr) (l : List UInt8) (c : Nat) (ho : Octs w w.heap.size A l) (hl2 : l.length ≤ 140737488351232) (ha1 : -9223372036854775808 ≤ at') (ha2 : at' ≤ 9223372036854775807) :
    ∃ A9 c9 w1 A8 c8 w2, (Builtin.append_ #[38, 38] 38 #[.slice (some ⟨w.heap.size, 0, none⟩) 0 0, .slice A l.length c]).run Try.prog (w.drew.alloc (.cells #[] 5)) = .ok (.slice A9 l.length c9) w1 ∧
      Below w.heap.size w w1 ∧ (Builtin.append_ #[23, 23] 23 #[u, .slice (some ⟨w1.heap.size, 0, none⟩) 1 1]).run Try.prog (w1.alloc (.cells #[.int .i64 at', .slice A9 l.length c9] 40)) = .ok (.slice A8 (m + 1) c8) w2 ∧
      Bx3 w0 a0 a1 a2 a3 v u (.int .i64 L) (.bool O) w2 ∧ CpI w0 a0 a1 a2 a3 L O S (W ++ [(at', l)]) (w2.setCell ⟨w0.heap.size + 1 + 1, 1, none⟩ (.slice A8 (m + 1) c8)) := by
  obtain ⟨V, hV⟩ : ∃ V, V = w.drew.alloc (.cells #[] 5) := ⟨_, rfl⟩
  have hbV : Below w.heap.size w V := by rw [hV]; exact (below_drew1 w).alloc (Nat.le_refl _) _
  have hown : Own V w.heap.size (.slice (some ⟨w.heap.size, 0, none⟩) 0 0) [] := by rw [hV]; exact ⟨rfl, .inr ⟨w.heap.size, 0, #[], rfl, Nat.le_refl _, heap_alloc_new w.drew _, Nat.le_refl _, Nat.zero_le _, rfl, rfl⟩⟩
  obtain ⟨v1, w1, hr1, ho1, hg1⟩ := run_app8 V w.heap.size _ [] hown w.heap.size A l c (ho.below hbV (Nat.le_refl _)) (by simpa using (by omega : l.length ≤ 140737488355328)) hbV.size
  have hb1 : Below w.heap.size w w1 := hbV.grown hg1 hbV.size (fun k e => by simp [Value.ownBlock] at e; omega)
  rw [List.nil_append] at ho1
  obtain ⟨A1, c1, rfl, ow1, hc1⟩ := own_toW (b2 := 0) ho1
  obtain ⟨V2, hV2⟩ : ∃ V2, V2 = w1.alloc (.cells #[.int .i64 at', .slice A1 l.length c1] 40) := ⟨_, rfl⟩
  have hb2 : Below w1.heap.size w1 V2 := by rw [hV2]; exact (Below.refl _ _).alloc (Nat.le_refl _) _
  have hbw : Below w.heap.size w V2 := hb1.trans (hb2.mono hb1.size)
  have hhi := hx.hi
  have hv2 := row_below hv hbw (Nat.le_refl _)
  have hu2 := row_below hu hbw (Nat.le_refl _)
  have hx2 := hx.below (hbw.mono hhi)
  have hr2 := hr.keep (keepW_below hbw)
  have hrw2 := hrw.keep (keepW_below hbw)
  have how2 := ow1.keep (keepW_below hb2)
  have hcell0 : V2.cell? ⟨w1.heap.size, 0, none⟩ = some (.int .i64 at') := by rw [hV2]; exact World.cell?_alloc_new w1 _ 40 0
  have hcell1 : V2.cell? ⟨w1.heap.size, 1, none⟩ = some (.slice A1 l.length c1) := by rw [hV2]; exact World.cell?_alloc_new w1 _ 40 1
  obtain ⟨v2, w2, hr3, ho3, hg3⟩ := run_appP V2 (w0.heap.size + 3) u m ys hu2 w1.heap.size at' A1 l.length c1 hcell0 hcell1 (by omega) (Nat.le_trans hhi hbw.size)
  obtain ⟨A8, c8, rfl, _⟩ := row_sl ho3
  have hkp := keep_row (base := 0) hu2 (by decide) (by omega) hg3
  have hb3 : Below (w0.heap.size + 3) V2 w2 := (Below.refl _ V2).grown hg3 (Nat.le_trans hhi hbw.size) (fun k e => (hu2.lt k e).1)
  have hx3 := hx2.below hb3
  have hv3 := row_kept hv2 hu2 (by decide) hg3
  refine ⟨A1, c1, w1, A8, c8, w2, by rw [← hV]; exact hr1, hb1, by rw [← hV2]; exact hr3, hx3, ⟨v, n, xs, _, m + 1, ys ++ [.int .i64 at', .slice A1 l.length c1], hx3.set 1 _ v _ _ _ rfl, row_set hv3 _ _ (by simp only; omega), hn, ?_, row_set ho3 _ _ (by simp only; omega), by simp [hm], ?_⟩⟩
  · exact (hr2.keep hkp).keep (keepW_set w2 _ _ hx3.x (by decide) (by simp only; omega))
  · exact ((hrw2.keep hkp).snoc (how2.keep hkp) hc1 hl2 ha1 ha2).keep (keepW_set w2 _ _ hx3.x (by decide) (by simp only; omega))
end Go.Proofs.Ytopklkkhddpglaa
