/- Contracts: Write. -/
import Derived.Test.YtopklkkhddpglaaW12
import Derived.Test.YtopklkkhddpglaaAny
namespace Go.Proofs.Ytopklkkhddpglaa
open Go.RowKit Go.Shelf Dk
attribute [local go_sem] Oper.semAt_some

/-- The four boxes of a write. -/
structure B4 (w0 : World) (v0 v1 v2 v3 : Value) (i : Int) (w : World) : Prop where
  d : w.heap[w0.heap.size]? = some (.cells #[v0, v1, v2, v3] 25 (0, 0))
  i_ : w.heap[w0.heap.size + 1]? = some (.cells #[.int .i64 i] 3 (0, 0))
  r_ : w.heap[w0.heap.size + 1 + 1]? = some (.cells #[.slice none 0 0, .slice none 0 0, .int .i64 0, .bool false] 25 (0, 0))
  e_ : w.heap[w0.heap.size + 1 + 1 + 1]? = some (.cells #[.int .i64 0] 28 (0, 0))
  b : Below w0.heap.size w0 w
  hi : w0.heap.size + 3 < w.heap.size
theorem B4.below {w0 w w' : World} {v0 v1 v2 v3 : Value} {i : Int} (h : B4 w0 v0 v1 v2 v3 i w) (hb : Below w.heap.size w w') : B4 w0 v0 v1 v2 v3 i w' := by
  have h1 := h.hi
  exact ⟨(hb.block _ (by omega)).trans h.d, (hb.block _ (by omega)).trans h.i_, (hb.block _ (by omega)).trans h.r_, (hb.block _ (by omega)).trans h.e_, h.b.trans (hb.mono h.b.size), Nat.lt_of_lt_of_le h1 hb.size⟩
theorem B4.new (w : World) (v0 v1 v2 v3 : Value) (i : Int) : B4 w v0 v1 v2 v3 i ((((w.alloc (.cells #[v0, v1, v2, v3] 25)).alloc (.cells #[.int .i64 i] 3)).alloc (.cells #[.slice none 0 0, .slice none 0 0, .int .i64 0, .bool false] 25)).alloc (.cells #[.int .i64 0] 28)) := by
  refine ⟨?_, ?_, ?_, ?_, ((below2 _ _ _).alloc (by simp; omega) _).alloc (by simp; omega) _, by simp⟩
  · rw [Below.heap_alloc _ _ _ (by simp; omega), Below.heap_alloc _ _ _ (by simp; omega), Below.heap_alloc _ _ _ (by simp)]; exact heap_alloc_new _ _
  · rw [Below.heap_alloc _ _ _ (by simp), Below.heap_alloc _ _ _ (by simp)]
    have := heap_alloc_new (w.alloc (.cells #[v0, v1, v2, v3] 25)) (.cells #[.int .i64 i] 3)
    simpa using this
  · rw [Below.heap_alloc _ _ _ (by simp)]
    have := heap_alloc_new ((w.alloc (.cells #[v0, v1, v2, v3] 25)).alloc (.cells #[.int .i64 i] 3)) (.cells #[.slice none 0 0, .slice none 0 0, .int .i64 0, .bool false] 25)
    simpa using this
  · have := heap_alloc_new (((w.alloc (.cells #[v0, v1, v2, v3] 25)).alloc (.cells #[.int .i64 i] 3)).alloc (.cells #[.slice none 0 0, .slice none 0 0, .int .i64 0, .bool false] 25)) (.cells #[.int .i64 0] 28)
    simpa using this
theorem B4.set1 {w0 w : World} {v0 v1 v2 v3 : Value} {i : Int} (h : B4 w0 v0 v1 v2 v3 i w) (u : Value) : B4 w0 v0 u v2 v3 i (w.setCell ⟨w0.heap.size, 1, none⟩ u) := by
  refine ⟨?_, (Below.heap_setCell w _ _ _ (by simp)).trans h.i_, (Below.heap_setCell w _ _ _ (by simp; omega)).trans h.r_, (Below.heap_setCell w _ _ _ (by simp; omega)).trans h.e_, h.b.setCell (by simp) _, by simpa using h.hi⟩
  simp [World.setCell, Array.getElem?_modify, h.d]
theorem cell_of1 {w : World} {g : Nat} {a : Value} {t : TypeId} (h : w.heap[g]? = some (.cells #[a] t (0, 0))) : w.cell? ⟨g, 0, none⟩ = some a ∧ ∀ j, w.frozen? ⟨g, j, none⟩ = false := by
  refine ⟨?_, fun j => ?_⟩
  · rw [cell_of_row w g 0 _ _ _ h]; rfl
  · simp [World.frozen?, h]

theorem B4.grown {w0 w w' : World} {v0 v1 v2 v3 : Value} {i : Int} (h : B4 w0 v0 v1 v2 v3 i w) {base : Nat} (hlo : w0.heap.size ≤ base) {row : Option Nat} (hg : w.grownBy w' row) (hr : ∀ r, row = some r → base ≤ r ∧ ∃ o : Obj, w.heap[r]? = some o ∧ o.isCells = false) : B4 w0 v0 v1 v2 v3 i w' :=
  ⟨grown_cells hg (fun r e => (hr r e).2) h.d, grown_cells hg (fun r e => (hr r e).2) h.i_, grown_cells hg (fun r e => (hr r e).2) h.r_, grown_cells hg (fun r e => (hr r e).2) h.e_, h.b.grown hg h.b.size (fun r e => by have := (hr r e).1; omega), Nat.lt_of_lt_of_le h.hi hg.size⟩
theorem B4.st {w0 w : World} {v0 v1 v2 v3 : Value} {i : Int} (h : B4 w0 v0 v1 v2 v3 i w) (a b c d : Value) : B4 w0 a b c d i (st4 w w0.heap.size a b c d) :=
  ⟨st4_at h.d a b c d, (st4_far w a b c d (by omega)).trans h.i_, (st4_far w a b c d (by omega)).trans h.r_, (st4_far w a b c d (by omega)).trans h.e_, st4_below h.b (Nat.le_refl _) a b c d, by rw [st4_size]; exact h.hi⟩
theorem B4.seti {w0 w : World} {v0 v1 v2 v3 : Value} {i : Int} (h : B4 w0 v0 v1 v2 v3 i w) (j : Int) : B4 w0 v0 v1 v2 v3 j (w.setCell ⟨w0.heap.size + 1, 0, none⟩ (.int .i64 j)) := by
  refine ⟨(Below.heap_setCell w _ _ _ (by simp)).trans h.d, ?_, (Below.heap_setCell w _ _ _ (by simp)).trans h.r_, (Below.heap_setCell w _ _ _ (by simp; omega)).trans h.e_, h.b.setCell (by simp) _, by simpa using h.hi⟩
  simp [World.setCell, Array.getElem?_modify, h.i_]
def lfC (lo : Nat) (ch : List UInt8) : Left := ⟨fun v w => ∃ A2 c2, v = .slice A2 64 c2 ∧ OctsW w lo A2 ch ∧ 64 ≤ c2, fun _ _ _ hb ⟨A2, c2, e, h, hc⟩ => ⟨A2, c2, e, h.keep (keepW_below hb), hc⟩⟩
def lfA (lo : Nat) (a : Int) (ch : List UInt8) : Left := ⟨fun v w => ∃ A2 c2, v = .agg #[.int .i64 a, .slice A2 64 c2] ∧ OctsW w lo A2 ch ∧ 64 ≤ c2, fun _ _ _ hb ⟨A2, c2, e, h, hc⟩ => ⟨A2, c2, e, h.keep (keepW_below hb), hc⟩⟩
def lfS (lo : Nat) (a : Int) (ch : List UInt8) : Left := ⟨fun v w => ∃ g A2 c2, v = .slice (some ⟨g, 0, none⟩) 1 1 ∧ g < w.heap.size ∧ w.cell? ⟨g, 0, none⟩ = some (.int .i64 a) ∧ w.cell? ⟨g, 1, none⟩ = some (.slice A2 64 c2) ∧ OctsW w lo A2 ch ∧ 64 ≤ c2,
  fun _ _ _ hb ⟨g, A2, c2, e, hg, h0, h1, h, hc⟩ => ⟨g, A2, c2, e, Nat.lt_of_lt_of_le hg hb.size, (hb.cell (p := ⟨g, 0, none⟩) hg).trans h0, (hb.cell (p := ⟨g, 1, none⟩) hg).trans h1, h.keep (keepW_below hb), hc⟩⟩
/-- Behind the append. -/
def APo (w : World) (base q : Nat) (V : World) (v0 v1 v2 v3 : Value) (i : Int) (mk : Nat) (Wd : Ws) (a : Act) (w' : World) : Prop :=
  a.defers = [] ∧ a.tmps.size = 62 ∧ a.eval (.tmp 3) = .pointer (some ⟨w.heap.size, 0, none⟩) ∧ a.eval (.tmp 4) = .pointer (some ⟨w.heap.size + 1, 0, none⟩) ∧
  ∃ A3 c3 xs, a.eval (.tmp 57) = .slice A3 mk c3 ∧ RowW w' w.heap.size base (.slice A3 mk c3) mk xs ∧ RdW w' w.heap.size xs Wd ∧ B4 w v0 v1 v2 v3 i w' ∧ Stp base q V w' ∧ base ≤ w'.heap.size
/-- Behind the store. -/
def FPo (w : World) (base q : Nat) (V : World) (v0 v2 v3 : Value) (i : Int) (mk : Nat) (Wd : Ws) (a : Act) (w' : World) : Prop :=
  a.defers = [] ∧ a.tmps.size = 62 ∧ a.eval (.tmp 4) = .pointer (some ⟨w.heap.size + 1, 0, none⟩) ∧
  ∃ A3 c3 xs, RowW w' w.heap.size base (.slice A3 mk c3) mk xs ∧ RdW w' w.heap.size xs Wd ∧ B4 w v0 (.slice A3 mk c3) v2 v3 i w' ∧ Stp base q V w' ∧ base ≤ w'.heap.size
/-- Behind so many rounds. -/
structure WI (w0 : World) (base : Nat) (A : Option Addr) (n c m : Nat) (W : Ws) (L : Int) (O : Bool) (i : Int) (l : List UInt8) (ks : List Nat) (w : World) : Prop where
  ex : ∃ A1 c1 xs, B4 w0 (.slice A n c) (.slice A1 (m + ks.length) c1) (.int .i64 (lft L ks.length)) (.bool O) (i + ks.length) w ∧ RowW w w0.heap.size base (.slice A1 (m + ks.length) c1) (m + ks.length) xs ∧ RdW w w0.heap.size xs (W ++ wsA i (ks.map (chunk l))) ∧ (m + ks.length = 0 → A1 = none ∧ c1 = 0)
  on : ks = [] ∨ O = false
  bud : L < 0 ∨ (ks.length : Int) ≤ L
  hi : base ≤ w.heap.size
/-- Where the power was off. -/
structure WR (w0 : World) (base : Nat) (A : Option Addr) (n c m : Nat) (W : Ws) (L : Int) (O : Bool) (i : Int) (l : List UInt8) (ks : List Nat) (w : World) : Prop where
  ex : ∃ A1 c1 xs, w.heap[w0.heap.size + 1 + 1]? = some (.cells #[.slice A n c, .slice A1 (m + ks.length) c1, .int .i64 (lft L ks.length), .bool true] 25 (0, 0)) ∧ w.heap[w0.heap.size + 1 + 1 + 1]? = some (.cells #[.int .i64 10] 28 (0, 0)) ∧
    Below w0.heap.size w0 w ∧ RowW w w0.heap.size base (.slice A1 (m + ks.length) c1) (m + ks.length) xs ∧ RdW w w0.heap.size xs (W ++ wsA i (ks.map (chunk l))) ∧ (m + ks.length = 0 → A1 = none ∧ c1 = 0)
  why : (O = true ∧ ks = []) ∨ (O = false ∧ L = ks.length)
theorem wi_own (w0 : World) (base : Nat) (A : Option Addr) (n c m : Nat) (W : Ws) (L : Int) (O : Bool) (i : Int) (l : List UInt8) {N : Nat} (hlo : w0.heap.size ≤ base) : OwnFrom base (fun (pre : List (Ch N)) w => WI w0 base A n c m W L O i l (nums pre) w) := fun s V V' row hs hg hr => by
  obtain ⟨A1, c1, xs, hB, hrow, hrd, hnz⟩ := hs.ex
  exact ⟨⟨A1, c1, xs, hB.grown hlo hg hr, hrow.grown hg hr, hrd.keep ((keepW_grown hg hr).mono hlo), hnz⟩, hs.on, hs.bud, Nat.le_trans hs.hi hg.size⟩
theorem wr_own (w0 : World) (base : Nat) (A : Option Addr) (n c m : Nat) (W : Ws) (L : Int) (O : Bool) (i : Int) (l : List UInt8) {N : Nat} (hlo : w0.heap.size ≤ base) (cd : Code) : OwnFrom base (fun (pre : List (Ch N)) w => cd = .ret ∧ ∃ ks x, nums pre = ks ++ [x] ∧ WR w0 base A n c m W L O i l ks w) := fun s V V' row hs hg hr => by
  obtain ⟨e, ks, x, hks, hw⟩ := hs
  obtain ⟨A1, c1, xs, hR, hE, hb, hrow, hrd, hnz⟩ := hw.ex
  exact ⟨e, ks, x, hks, ⟨A1, c1, xs, grown_cells hg (fun r e => (hr r e).2) hR, grown_cells hg (fun r e => (hr r e).2) hE, hb.grown hg hb.size (fun r e => by have := (hr r e).1; omega), hrow.grown hg hr, hrd.keep ((keepW_grown hg hr).mono hlo), hnz⟩, hw.why⟩

/-- What comes of a write: all of it waits, or the power is off, and those ahead wait. -/
def WPost (A : Option Addr) (n c m : Nat) (S : List (List UInt8)) (W : Ws) (L : Int) (O : Bool) (i : Int) (l : List UInt8) (N : Nat) (w : World) (e : Ending) (w' : World) : Prop :=
  ∃ k A1 c1, Dsk w' A n c A1 (m + k) c1 S (W ++ wsA i (chunks l k)) ∧ Below w.heap.size w w' ∧ (m + k = 0 → A1 = none ∧ c1 = 0) ∧
    ((k = N ∧ O = false ∧ (L < 0 ∨ (N : Int) ≤ L) ∧ e = .returned (.tuple #[dv A n c A1 (m + k) c1 (lft L k) false, .int .i64 0])) ∨
     (k < N ∧ ((O = true ∧ k = 0) ∨ (O = false ∧ L = k)) ∧ e = .returned (.tuple #[dv A n c A1 (m + k) c1 (lft L k) true, .int .i64 10])))
theorem roww_le {w : World} {lo base n c : Nat} {A : Option Addr} {xs : List Value} (h : RowW w lo base (.slice A n c) n xs) : n ≤ c := by
  rcases h with h | ⟨b, o, e, _⟩
  · rcases h.2 with ⟨e, h0⟩ | ⟨g, cap, cur, e, _, _, hc, _⟩
    · omega
    · injection e with _ _ e3; omega
  · injection e with _ _ e3; omega
theorem wfin {w F : World} {A A1 A' : Option Addr} {n c c1 m c' k lo base : Nat} {S : List (List UInt8)} {W Wd : Ws} {xs : List Value} (H : Dsk w A n c A' m c' S W) (hb : Below w.heap.size w F) (hrow : RowW F lo base (.slice A1 k c1) k xs) (hrd : RdW F lo xs Wd) (hl : Wd.length = k) : Dsk F A n c A1 k c1 S Wd :=
  ⟨(H.s.below hb (Nat.le_refl _)).more hb.size, pend_of hrow hrd, H.hn, hl, H.hc, roww_le hrow⟩

set_option maxRecDepth 100000 in
set_option maxHeartbeats 4000000 in
theorem write_any (A : Option Addr) (n c : Nat) (A' : Option Addr) (m c' : Nat) (S : List (List UInt8)) (W : Ws) (L : Int) (O : Bool) (bb bo cb N : Nat) (l : List UInt8) (i : Int) (w : World) (h : Dsk w A n c A' m c' S W) (hy : may S W L = true) (hm : m ≤ 100000) (hz : m = 0 → A' = none ∧ c' = 0)
    (hN : 1 ≤ N) (hN2 : N ≤ 4096) (hl : l.length = 64 * N) (ho : Octs w w.heap.size (some ⟨bb, bo, none⟩) l) (hcb : l.length ≤ cb) (hcb2 : cb ≤ 9223372036854775807) (hL2 : L ≤ 9223372036854775807) (hth : thereB n i N = true) (hi : -9223372036854775808 ≤ i) (hi2 : i ≤ 9223372036854775807) :
    Calls Try.prog 16 #[dv A n c A' m c' L O, .int .i64 i, .slice (some ⟨bb, bo, none⟩) l.length cb] w (WPost A n c m S W L O i l N w) := by
  have hn : n ≤ 4096 := by have := (may_iff S W L).1 hy; rw [h.hn] at this; exact this.2.1
  have hm2 : m ≤ 2305843009213693952 := by omega
  have hmc := h.hc'
  have X0 := Lib.hid (B4.new w (.slice A n c) (.slice A' m c') (.int .i64 L) (.bool O) i)
  have H := Lib.hid h
  have HY := Lib.hid hy
  have HO := Lib.hid ho
  have HTH := Lib.hid hth
  have hir : 0 ≤ i ∧ i + N ≤ 4096 := by
    unfold thereB at hth
    simp only [Bool.and_eq_true, decide_eq_true_eq] at hth
    omega
  obtain ⟨len, hlen⟩ : ∃ len, len = l.length := ⟨_, rfl⟩
  rw [← hlen] at hcb ⊢
  have HLEN : Hid (len = 64 * N) := hlen.trans hl
  have HLL : Hid (l.length = len) := hlen.symm
  have hlen2 : len ≤ 262144 := by have := HLEN.out; omega
  have t1 : ((len : Int) == 0) = false := by simp; have := HLEN.out; omega
  have t2 : ((len : Int) % 64 != 0) = false := by have := HLEN.out; simp; omega
  have t3 : Hid ((len : Int) / 64 = N) := by have := HLEN.out; show _ = _; omega
  clear h hy ho hth hlen hl
  refine (callsIn_wide (n := 3)).1 ?_
  refine callsIn_of_wp_marks Try.func16 rfl trivial ?_ rfl
  simp only [Try.ntmps16, List.size_toArray, List.length_cons, List.length_nil, Nat.reduceAdd, Nat.reduceSub, Array.replicate_succ, Array.replicate_zero, List.push_toArray, List.append_toArray, List.nil_append, List.cons_append]
  gi_wp2_with fail
  obtain ⟨w0, hw0⟩ : ∃ w0, w0 = ((((w.alloc (.cells #[.slice A n c, .slice A' m c', .int .i64 L, .bool O] 25)).alloc (.cells #[.int .i64 i] 3)).alloc (.cells #[.slice none 0 0, .slice none 0 0, .int .i64 0, .bool false] 25)).alloc (.cells #[.int .i64 0] 28)) := ⟨_, rfl⟩
  rw [← hw0] at X0 ⊢
  clear hw0
  refine ⟨trivial, (callsIn_wide.2 ((H.out.below X0.out.b).may L O (by omega) hm2)).mono ?_⟩
  rintro e w1 ⟨rfl, hb1⟩
  rw [HY.out]
  have X1 := Lib.hid (X0.out.below hb1)
  clear hb1
  obtain ⟨k0, k1, k2, k3, kf⟩ := cells_of4 X1.out.d
  obtain ⟨i0, jf⟩ := cell_of1 X1.out.i_
  gi_wp2_with fail
  rw [t3.out]
  clear k0 k1 k2 k3 kf i0 jf
  refine ⟨trivial, (callsIn_wide.2 (there_any A n c A' m c' L O i N _ (by omega) hi hi2)).mono ?_⟩
  rintro e w2 ⟨rfl, hb2⟩
  rw [HTH.out]
  have X2 := Lib.hid (X1.out.below hb2)
  clear hb2
  obtain ⟨k0, k1, k2, k3, kf⟩ := cells_of4 X2.out.d
  gi_wp2_with fail
  clear k0 k1 k2 k3 kf
  have X3 := Lib.hid (X2.out.set1 (.slice A' m m))
  obtain ⟨w3, hw3⟩ : ∃ w3, w3 = w2.setCell ⟨w.heap.size, 1, none⟩ (.slice A' m m) := ⟨_, rfl⟩
  rw [← hw3] at X3 ⊢
  clear hw3
  refine ⟨trivial, (callsIn_wide.2 (chunk_any _ _ _ _)).mono ?_⟩
  rintro e w4 ⟨rfl, hw4⟩
  have X4 : Hid (B4 w (.slice A n c) (.slice A' m m) (.int .i64 L) (.bool O) i w4) := by
    rw [← hw4]
    exact X3.out.below (below2 _ _ _)
  have C0 : Hid (w4.heap[w3.heap.size]? = some (.cells #[.slice (some ⟨bb, bo, none⟩) len cb] 38 (0, 0))) := by
    show _ = _
    rw [← hw4, Below.heap_alloc _ _ _ (by simp)]; exact heap_alloc_new _ _
  have C1 : Hid (w4.heap[w3.heap.size + 1]? = some (.cells #[.int .i64 64] 3 (0, 0))) := by
    show _ = _
    rw [← hw4]
    have := heap_alloc_new (w3.alloc (.cells #[.slice (some ⟨bb, bo, none⟩) len cb] 38)) (.cells #[.int .i64 64] 3)
    simpa using this
  have hq : w3.heap.size + 2 = w4.heap.size := by rw [← hw4]; simp
  have hq3 := X3.out.hi
  obtain ⟨q, hqq⟩ : ∃ q, q = w3.heap.size := ⟨_, rfl⟩
  rw [← hqq] at C0 C1 hq hq3 ⊢
  clear hw4 hqq
  gi_wp2_with fail
  have hbase : q + 2 = w4.heap.size := hq
  have hlo : w.heap.size ≤ w4.heap.size := X4.out.b.size
  have HI0 : Hid (WI w w4.heap.size A n c m W L O i l (nums ([] : List (Ch N))) w4) := by
    obtain ⟨xs, hr1, hr2⟩ := row_start (base := w4.heap.size) H.out.w_ H.out.hm (fun h => (hz h).1) X4.out.b hlo (Nat.le_refl _)
    exact ⟨⟨A', m, xs, by simpa [nums, lft_zero] using X4.out, by simpa [nums] using hr1, by simpa [nums, wsA] using hr2, fun h => ⟨(hz (by simpa [nums] using h)).1, by simpa [nums] using h⟩⟩, .inl rfl, by have := ((may_iff S W L).1 HY.out).2.2.1; simp [nums]; omega, Nat.le_refl _⟩
  obtain ⟨base, hbs⟩ : ∃ base, base = w4.heap.size := ⟨_, rfl⟩
  refine wpIn_rangeFunc_ownG rfl (by omega) (gf := 35) (lb := #[.pointer (some ⟨q, 0, none⟩), .pointer (some ⟨q + 1, 0, none⟩)]) rfl trivial (enters_of Try.func35 (by kernel_rfl) rfl)
    (chunk_stops 2 q bb bo N cb len (by omega) HLEN.out (by omega) hcb hcb2 w4 (by omega) C0.out C1.out) kq_t (kq_b (by omega)) (Below.refl _ _) (fun _ => rfl)
    (fun pre V => WI w w4.heap.size A n c m W L O i l (nums pre) V) (fun cd pre V => cd = .ret ∧ ∃ ks x, nums pre = ks ++ [x] ∧ WR w w4.heap.size A n c m W L O i l ks V)
    (wi_own w w4.heap.size A n c m W L O i l hlo) (fun cd => wr_own w w4.heap.size A n c m W L O i l hlo cd) HI0.out
    (fun x => { tmps := #[dv A n c A' m c' L O, .int .i64 i, .slice (some ⟨bb, bo, none⟩) len cb, .pointer (some ⟨w.heap.size, 0, none⟩), .pointer (some ⟨w.heap.size + 1, 0, none⟩), undef, .pointer (some ⟨w.heap.size + 1 + 1, 0, none⟩), .pointer (some ⟨w.heap.size + 1 + 1 + 1, 0, none⟩), chv bb bo x, .agg #[.slice A n c, .slice A' m c', .int .i64 L, .bool O], .bool true, .bool false, .bool false, .slice (some ⟨bb, bo, none⟩) len cb, .int .i64 len, .bool false, .bool false, .bool false, .slice (some ⟨bb, bo, none⟩) len cb, .int .i64 len, .int .i64 ((len : Int) % 64), .bool false, .bool false, undef, .agg #[.slice A n c, .slice A' m c', .int .i64 L, .bool O], .int .i64 i, .slice (some ⟨bb, bo, none⟩) len cb, .int .i64 len, .int .i64 N, .bool true, .bool false, undef, .pointer (some ⟨w.heap.size, 1, none⟩), .slice A' m c', .pointer (some ⟨w.heap.size, 1, none⟩), .slice A' m c', .int .i64 m, .pointer (some ⟨w.heap.size, 1, none⟩), .slice A' m c', .int .i64 m, .slice A' m m, .pointer (some ⟨w.heap.size, 1, none⟩), .slice (some ⟨bb, bo, none⟩) len cb, .func (.func 35) #[] #[.pointer (some ⟨q, 0, none⟩), .pointer (some ⟨q + 1, 0, none⟩)], chv bb bo x, undef, undef, undef, undef, undef, undef, undef, undef, undef, undef, undef, undef, undef, undef, undef, undef, undef], defers := [] }) ?assign ?body ?done ?stop
  case assign =>
    intro l' x V K hK
    gi_wp2
    exact hK
  case body =>
    rintro l' pre x V hI hlen
    obtain ⟨A1, c1, xs, hB, hrow, hrd, hnz⟩ := hI.ex
    have hxs : 64 * x.1 + 64 ≤ l.length := by have := HLL.out; have := HLEN.out; have := x.2; omega
    have hOC : Hid (Octs V V.heap.size (some ⟨bb, bo + 64 * x.1, none⟩) (chunk l x.1)) := octs_chunk ((HO.out.below hB.b (Nat.le_refl _)).more hB.b.size) hxs
    have hCL := Lib.hid (chunk_len l x.1 hxs)
    have hkl : (nums pre).length < N := by rw [nums_len]; exact hlen
    obtain ⟨ks, hks⟩ : ∃ ks, ks = nums pre := ⟨_, rfl⟩
    have HKS : Hid (nums (pre ++ [x]) = ks ++ [x.1]) := by show _ = _; rw [nums_snoc, hks]
    have HON := Lib.hid hI.on
    have HBUD := Lib.hid hI.bud
    have hVb := hI.hi
    rw [← hks] at hB hrow hrd hnz hkl HON HBUD
    obtain ⟨k, hk⟩ : ∃ k, k = ks.length := ⟨_, rfl⟩
    rw [← hk] at hB hrow hnz hkl HBUD
    have HKL := Lib.hid hk
    have HB := Lib.hid hB
    have HROW := Lib.hid hrow
    have HRD := Lib.hid hrd
    have HNZ := Lib.hid hnz
    have hVs := hB.hi
    obtain ⟨L', hL'⟩ : ∃ L', L' = lft L k := ⟨_, rfl⟩
    rw [← hL'] at HB
    have HL' := Lib.hid hL'
    have hL2' : L' ≤ 9223372036854775807 := by have := (lft_range (k := k) ((may_iff S W L).1 HY.out).2.2.1 hL2 HBUD.out).1; rw [hL']; exact this
    clear hI hB hrow hrd hnz hks hk hL' hxs
    by_cases hoff : O = true ∨ L' = 0
    · have HSP : Hid (spO L' O = true ∧ spL L' O = L') := by
        rcases hoff with h | h
        · subst h; exact ⟨(spend_off L').2, (spend_off L').1⟩
        · subst h; exact ⟨(spend_eq0 O).2, (spend_eq0 O).1⟩
      have HOFF := Lib.hid hoff
      clear hoff
      obtain ⟨k0, k1, k2, k3, kf⟩ := cells_of4 HB.out.d
      gi_wp2_with fail
      refine ⟨trivial, (CallsIn.inRound l' (callsIn_wide.2 (spend_any A n c A1 (m + k) c1 L' O V hL2'))).mono ?_⟩
      rintro e V1 ⟨rfl, hb1⟩
      rw [HSP.out.1, HSP.out.2]
      clear k0 k1 k2 k3 kf
      have HB1 := Lib.hid (HB.out.below hb1)
      have HROW1 := Lib.hid (HROW.out.below hb1)
      have HRD1 := Lib.hid (HRD.out.keep (keepW_below hb1))
      have HST := Lib.hid (Stp.below (base := w4.heap.size) (q := q) hb1 (by omega))
      clear hb1
      obtain ⟨k0, k1, k2, k3, kf⟩ := cells_of4 HB1.out.d
      obtain ⟨r0, r1, r2, r3, rf⟩ := cells_of4 HB1.out.r_
      obtain ⟨e0, ef⟩ := cell_of1 HB1.out.e_
      gi_wp2_with fail
      obtain ⟨E, hE⟩ : ∃ E, E = (st4 (st4 V1 w.heap.size (.slice A n c) (.slice A1 (m + k) c1) (.int .i64 L') (.bool true)) (w.heap.size + 1 + 1) (.slice A n c) (.slice A1 (m + k) c1) (.int .i64 L') (.bool true)).setCell ⟨w.heap.size + 1 + 1 + 1, 0, none⟩ (.int .i64 10) := ⟨_, rfl⟩
      have hE' := hE
      unfold st4 at hE'
      rw [← hE']
      clear hE' k0 k1 k2 k3 kf r0 r1 r2 r3 rf e0 ef
      have d2 := (st4_far V1 (r := w.heap.size) (k := w.heap.size + 1 + 1) (.slice A n c) (.slice A1 (m + k) c1) (.int .i64 L') (.bool true) (by omega)).trans HB1.out.r_
      have d3 := (st4_far V1 (r := w.heap.size) (k := w.heap.size + 1 + 1 + 1) (.slice A n c) (.slice A1 (m + k) c1) (.int .i64 L') (.bool true) (by omega)).trans HB1.out.e_
      have d4 := (st4_far _ (r := w.heap.size + 1 + 1) (k := w.heap.size + 1 + 1 + 1) (.slice A n c) (.slice A1 (m + k) c1) (.int .i64 L') (.bool true) (by omega)).trans d3
      have g1 : E.heap[w.heap.size + 1 + 1]? = some (.cells #[.slice A n c, .slice A1 (m + k) c1, .int .i64 L', .bool true] 25 (0, 0)) := by
        rw [hE, Below.heap_setCell _ _ _ _ (by simp)]; exact st4_at d2 _ _ _ _
      have g2 : E.heap[w.heap.size + 1 + 1 + 1]? = some (.cells #[.int .i64 10] 28 (0, 0)) := by
        rw [hE]
        generalize st4 (st4 V1 w.heap.size (.slice A n c) (.slice A1 (m + k) c1) (.int .i64 L') (.bool true)) (w.heap.size + 1 + 1) (.slice A n c) (.slice A1 (m + k) c1) (.int .i64 L') (.bool true) = X at d4
        simp [World.setCell, Array.getElem?_modify, d4]
      have g3 : Below w.heap.size w E := by
        rw [hE]
        exact (st4_below (st4_below HB1.out.b (Nat.le_refl _) _ _ _ _) (by omega) _ _ _ _).setCell (by simp only; omega) _
      have g4 : RowW E w.heap.size w4.heap.size (.slice A1 (m + k) c1) (m + k) xs := by
        rw [hE]
        exact ((HROW1.out.st4 _ _ _ _ _ (by omega) (by omega)).st4 _ _ _ _ _ (by omega) (by omega)).box _ (by simp only; omega) (by simp only; omega)
      have g5 : RdW E w.heap.size xs (W ++ wsA i (ks.map (chunk l))) := by
        rw [hE]
        exact HRD1.out.keep (((keepW_st4 V1 _ _ _ _ _ HB1.out.d (by decide) (by omega)).trans (keepW_st4 _ _ _ _ _ _ d2 (by decide) (by omega))).trans (keepW_set _ ⟨w.heap.size + 1 + 1 + 1, 0, none⟩ _ d4 (by decide) (by simp only; omega)))
      have g6 : Stp w4.heap.size q V E := by
        rw [hE]
        exact ((HST.out.trans (Stp.st4 V1 _ _ _ _ _ (by omega))).trans (Stp.st4 _ _ _ _ _ _ (by omega))).trans (Stp.set _ _ _ (by simp only; omega))
      refine ⟨g6.k, rfl, ks, x.1, HKS.out, ⟨A1, c1, xs, ?_, g2, g3, ?_, g5, ?_⟩, ?_⟩
      · rw [← HKL.out, ← HL'.out]; exact g1
      · rw [← HKL.out]; exact g4
      · rw [← HKL.out]; exact HNZ.out
      · rcases HON.out with h | h
        · have hk0 : k = 0 := by rw [HKL.out, h]; rfl
          rcases HOFF.out with ho | ho
          · exact .inl ⟨ho, h⟩
          · cases O with
            | true => exact .inl ⟨rfl, h⟩
            | false =>
              refine .inr ⟨rfl, ?_⟩
              rw [HL'.out, hk0, lft_zero] at ho
              rw [← HKL.out, hk0, ho]; rfl
        · refine .inr ⟨h, ?_⟩
          rw [← HKL.out]
          rcases HOFF.out with ho | ho
          · rw [h] at ho; cases ho
          · rw [HL'.out] at ho
            unfold lft at ho
            by_cases hneg : L < 0
            · rw [if_pos hneg] at ho; omega
            · rw [if_neg hneg] at ho; omega
    · have hOf : O = false := by
        cases O with
        | false => rfl
        | true => exact absurd (.inl rfl) hoff
      have hL0 : L' ≠ 0 := fun h => hoff (.inr h)
      have HNX : Hid (spL L' false = lft L (k + 1) ∧ spO L' false = false ∧ (L < 0 ∨ ((k + 1 : Nat) : Int) ≤ L)) := by
        rw [HL'.out] at hL0 ⊢
        exact lft_next hL0 HBUD.out
      subst hOf
      obtain ⟨L2, hL2e⟩ : ∃ L2, L2 = lft L (k + 1) := ⟨_, rfl⟩
      rw [← hL2e] at HNX
      have HL2 := Lib.hid hL2e
      clear hoff hL0 hL2e
      obtain ⟨k0, k1, k2, k3, kf⟩ := cells_of4 HB.out.d
      gi_wp2_with fail
      refine ⟨trivial, (CallsIn.inRound l' (callsIn_wide.2 (spend_any A n c A1 (m + k) c1 L' false V hL2'))).mono ?_⟩
      rintro e V1 ⟨rfl, hb1⟩
      rw [HNX.out.1, HNX.out.2.1]
      clear k0 k1 k2 k3 kf
      have HB1 := Lib.hid (HB.out.below hb1)
      have HROW1 := Lib.hid (HROW.out.below hb1)
      have HRD1 := Lib.hid (HRD.out.keep (keepW_below hb1))
      have HST := Lib.hid (Stp.below (base := w4.heap.size) (q := q) hb1 (by omega))
      have HOC1 := Lib.hid ((hOC.out.below hb1 (Nat.le_refl _)).more hb1.size)
      have hV1 := hb1.size
      clear hb1
      obtain ⟨k0, k1, k2, k3, kf⟩ := cells_of4 HB1.out.d
      gi_wp2_with fail
      clear k0 k1 k2 k3 kf
      have X2 := Lib.hid (HB1.out.st (.slice A n c) (.slice A1 (m + k) c1) (.int .i64 L2) (.bool false))
      have R2 : Hid (RowW (st4 V1 w.heap.size (.slice A n c) (.slice A1 (m + k) c1) (.int .i64 L2) (.bool false)) w.heap.size w4.heap.size (.slice A1 (m + k) c1) (m + k) xs) := HROW1.out.st4 _ _ _ _ _ (by omega) (by omega)
      have KW2 := keepW_st4 (base := w.heap.size) V1 w.heap.size (.slice A n c) (.slice A1 (m + k) c1) (.int .i64 L2) (.bool false) HB1.out.d (by decide) (Nat.le_refl _)
      have D2 := Lib.hid (HRD1.out.keep KW2)
      have O2 : Hid (OctsW (st4 V1 w.heap.size (.slice A n c) (.slice A1 (m + k) c1) (.int .i64 L2) (.bool false)) w.heap.size (some ⟨bb, bo + 64 * x.1, none⟩) (chunk l x.1)) := by
        have h0 := (octs_chunk HO.out (k := x.1) (by have := HLL.out; have := HLEN.out; have := x.2; omega)).toW (Nat.le_refl _) (Nat.le_refl _)
        exact ((h0.keep (keepW_below HB1.out.b)).keep KW2)
      have S2 := Lib.hid (HST.out.trans (Stp.st4 V1 w.heap.size (.slice A n c) (.slice A1 (m + k) c1) (.int .i64 L2) (.bool false) (by omega)))
      have z2 : (st4 V1 w.heap.size (.slice A n c) (.slice A1 (m + k) c1) (.int .i64 L2) (.bool false)).heap.size = V1.heap.size := st4_size _ _ _ _ _ _
      obtain ⟨V2, hV2⟩ : ∃ V2, V2 = st4 V1 w.heap.size (.slice A n c) (.slice A1 (m + k) c1) (.int .i64 L2) (.bool false) := ⟨_, rfl⟩
      rw [← hV2] at X2 R2 D2 O2 S2 z2
      unfold st4 at hV2
      rw [← hV2]
      have hWd : Hid ((W ++ wsA i (ks.map (chunk l))) ++ [(i + k, chunk l x.1)] = W ++ wsA i ((ks ++ [x.1]).map (chunk l))) := by
        show _ = _
        rw [List.map_append, List.map_singleton, wsA_snoc, List.length_map, ← HKL.out, List.append_assoc]
      obtain ⟨Wd, hWde⟩ : ∃ Wd, Wd = W ++ wsA i ((ks ++ [x.1]).map (chunk l)) := ⟨_, rfl⟩
      rw [← hWde] at hWd
      have HWE := Lib.hid hWde
      clear hWde
      clear hV2 KW2 HB1 HROW1 HRD1 HST
      have hmk : m + k ≤ 1000000 := by omega
      have hsz2 : w4.heap.size ≤ V2.heap.size := by omega
      refine wpIn_region_app (t8 := 58) (by kernel_rfl) (Phi [.val (.pointer (some ⟨w.heap.size, 1, none⟩)), .val (.slice A1 (m + k) c1), .val (.int .i64 (i + k)), .val (chv bb bo x), lfC w.heap.size (chunk l x.1), lfA w.heap.size (i + k) (chunk l x.1), lfS w.heap.size (i + k) (chunk l x.1), ⟨fun _ _ => True, fun _ _ _ _ _ => trivial⟩, .val (.pointer (some ⟨w.heap.size, 1, none⟩))]) (phi_stab _) (by kernel_rfl) rfl (noDefer_spec (by kernel_rfl)) (backs_spec (by kernel_rfl))
        (APo w w4.heap.size q V (.slice A n c) (.slice A1 (m + k) c1) (.int .i64 L2) (.bool false) (i + k) (m + k + 1) Wd) (FPo w w4.heap.size q V (.slice A n c) (.int .i64 L2) (.bool false) (i + k) (m + k + 1) Wd) (.pointer (some ⟨w.heap.size, 1, none⟩)) ?h7 ?h7' ?h9 ?step ?app ?step8 ?last ?fin
      case h7 =>
        intro listed hc h j hj
        have l6 := hc.2 7 _ rfl h ⟨6, .data⟩ (by simp) rfl
        have l1 := hc.2 7 _ rfl h ⟨1, .data⟩ (by simp) rfl
        have l5 := hc.2 6 _ rfl l6 ⟨5, .data⟩ (by simp) rfl
        have l4 := hc.2 5 _ rfl l5 ⟨4, .data⟩ (by simp) rfl
        have l2 := hc.2 5 _ rfl l5 ⟨2, .data⟩ (by simp) rfl
        have l3 := hc.2 4 _ rfl l4 ⟨3, .data⟩ (by simp) rfl
        have l0 := hc.2 1 _ rfl l1 ⟨0, .data⟩ (by simp) rfl
        have hjj : j = 0 ∨ j = 1 ∨ j = 2 ∨ j = 3 ∨ j = 4 ∨ j = 5 ∨ j = 6 := by omega
        rcases hjj with rfl | rfl | rfl | rfl | rfl | rfl | rfl <;> assumption
      case h7' =>
        intro listed hc h j hj
        have l6 := h _ rfl ⟨6, .data⟩ (by simp) rfl
        have l1 := h _ rfl ⟨1, .data⟩ (by simp) rfl
        have l5 := hc.2 6 _ rfl l6 ⟨5, .data⟩ (by simp) rfl
        have l4 := hc.2 5 _ rfl l5 ⟨4, .data⟩ (by simp) rfl
        have l2 := hc.2 5 _ rfl l5 ⟨2, .data⟩ (by simp) rfl
        have l3 := hc.2 4 _ rfl l4 ⟨3, .data⟩ (by simp) rfl
        have l0 := hc.2 1 _ rfl l1 ⟨0, .data⟩ (by simp) rfl
        have hjj : j = 0 ∨ j = 1 ∨ j = 2 ∨ j = 3 ∨ j = 4 ∨ j = 5 ∨ j = 6 := by omega
        rcases hjj with rfl | rfl | rfl | rfl | rfl | rfl | rfl <;> assumption
      case h9 =>
        intro listed h
        exact ⟨h _ rfl ⟨7, .data⟩ (by simp) rfl, h _ rfl ⟨8, .data⟩ (by simp) rfl⟩
      case step =>
        intro j o listed a1 w1 hj ho hk hdep
        have e3 := ev (show a1.eval (.tmp 3) = .pointer (some ⟨w.heap.size, 0, none⟩) from hk.frame 3 (frame_of (by kernel_rfl)))
        have e4 := ev (show a1.eval (.tmp 4) = .pointer (some ⟨w.heap.size + 1, 0, none⟩) from hk.frame 4 (frame_of (by kernel_rfl)))
        have e8 := ev (show a1.eval (.tmp 8) = chv bb bo x from hk.frame 8 (frame_of (by kernel_rfl)))
        have XB := X2.out.below hk.below
        obtain ⟨k0, k1, k2, k3, kf⟩ := cells_of4 XB.d
        obtain ⟨m0, mf⟩ := cell_of1 XB.i_
        have hjj : j = 0 ∨ j = 1 ∨ j = 2 ∨ j = 3 ∨ j = 4 ∨ j = 5 ∨ j = 6 ∨ j = 8 := by omega
        rcases hjj with rfl | rfl | rfl | rfl | rfl | rfl | rfl | rfl
        · cases ho
          refine ⟨rfl, wp_value (v := .pointer (some ⟨w.heap.size, 1, none⟩)) ?_ rfl⟩
          go_simp
        · cases ho
          have d0 := ev (show a1.eval (.tmp 50) = .pointer (some ⟨w.heap.size, 1, none⟩) from hk.done 0 _ 50 rfl rfl (hdep ⟨0, .data⟩ (by simp) rfl))
          refine ⟨rfl, wp_value (v := .slice A1 (m + k) c1) ?_ rfl⟩
          go_simp
        · cases ho
          refine ⟨rfl, wp_value (v := .int .i64 (i + k)) ?_ rfl⟩
          go_simp
        · cases ho
          refine ⟨rfl, wp_value (v := chv bb bo x) ?_ rfl⟩
          simp [execOp, e8, Act.eval]
        · cases ho
          have d3 := ev (show a1.eval (.tmp 53) = chv bb bo x from hk.done 3 _ 53 rfl rfl (hdep ⟨3, .data⟩ (by simp) rfl))
          refine ⟨rfl, ?_⟩
          have hcl := bclone_any w1.heap.size (some ⟨bb, bo + 64 * x.1, none⟩) (chunk l x.1) 64 w1 ((O2.out.keep (keepW_below hk.below)).octs) (by rw [hCL.out]; decide)
          rw [hCL.out] at hcl
          go_simp
          refine hcl.mono ?_
          rintro e w2 ⟨v, rfl, hown, hb2⟩
          obtain ⟨A2, c2, ev2, ho2, hc2⟩ := own_toW (b2 := w.heap.size) hown
          rw [hCL.out] at ev2 hc2
          exact ⟨_, rfl, ⟨A2, c2, ev2, ho2, hc2⟩, hb2⟩
        · cases ho
          have d2 := ev (show a1.eval (.tmp 52) = .int .i64 (i + k) from hk.done 2 _ 52 rfl rfl (hdep ⟨2, .data⟩ (by simp) rfl))
          obtain ⟨A2, c2, ev2, ho2, hc2⟩ := hk.done 4 _ 54 rfl rfl (hdep ⟨4, .data⟩ (by simp) rfl)
          have d4 := ev ev2
          refine ⟨rfl, wp_value (v := .agg #[.int .i64 (i + k), .slice A2 64 c2]) ?_ ⟨A2, c2, rfl, ho2, hc2⟩⟩
          go_simp
        · cases ho
          obtain ⟨A2, c2, ev2, ho2, hc2⟩ := hk.done 5 _ 55 rfl rfl (hdep ⟨5, .data⟩ (by simp) rfl)
          have d5 := ev ev2
          refine ⟨rfl, ?_⟩
          go_simp
          refine ⟨_, rfl, ⟨w1.heap.size, A2, c2, rfl, by simp, ?_, ?_, ho2.keep (keepW_below ((Below.refl _ _).alloc (Nat.le_refl _) _)), hc2⟩, (Below.refl _ _).alloc (Nat.le_refl _) _⟩
          · rw [World.cell?_alloc_new]; rfl
          · rw [World.cell?_alloc_new]; rfl
        · cases ho
          refine ⟨rfl, wp_value (v := .pointer (some ⟨w.heap.size, 1, none⟩)) ?_ rfl⟩
          go_simp
      case app =>
        intro o listed a1 w1 ho hk hall
        cases ho
        have d1 : a1.eval (.tmp 51) = .slice A1 (m + k) c1 := hk.done 1 _ 51 rfl rfl (hall 1 (by decide))
        obtain ⟨g, A2, c2, ev2, hg, hg0, hg1, ho2, hc2⟩ := hk.done 6 _ 56 rfl rfl (hall 6 (by decide))
        have hlow := hk.below.size
        obtain ⟨v', w', hr, hown, hkw, hbw, hko⟩ := run_appW w1 w.heap.size w4.heap.size (.slice A1 (m + k) c1) (m + k) xs (R2.out.below hk.below) g (i + k) A2 64 c2 hg0 hg1 hmk (by omega)
        refine ⟨rfl, Go.Lib.wp_append_run w1 (.tmp 51) (.tmp 56) 23 23 rfl _ _ d1 ev2 v' w' hr ⟨⟨hk.defers, ?_, ?_, ?_, ?_⟩, fun h => ?_⟩⟩
        · have := hk.size
          simpa [Act.put] using this
        · exact (eval_put_ne (by decide)).trans (hk.frame 3 (frame_of (by kernel_rfl)))
        · exact (eval_put_ne (by decide)).trans (hk.frame 4 (frame_of (by kernel_rfl)))
        · obtain ⟨g3, c3, hv3, _, _⟩ := hown.form (by omega)
          subst hv3
          refine ⟨some ⟨g3, 0, none⟩, c3, _, eval_put_same (by rw [hk.size]; simp), .inl hown, ?_, ?_, ?_, ?_⟩
          · rw [← hWd.out]
            have hch := (ho2.keep (hkw.mono hlo))
            have := (((D2.out.keep (keepW_below hk.below)).keep (hkw.mono hlo)).snoc (a := i + k) (l := chunk l x.1) hch (by rw [hCL.out]; exact hc2) (by rw [hCL.out]; decide) (by omega) (by omega))
            rw [hCL.out] at this
            exact this
          · have XB := X2.out.below hk.below
            exact ⟨(hbw.block _ (by omega)).trans XB.d, (hbw.block _ (by omega)).trans XB.i_, (hbw.block _ (by omega)).trans XB.r_, (hbw.block _ (by omega)).trans XB.e_, XB.b.trans (hbw.mono hlo), Nat.lt_of_lt_of_le XB.hi hbw.size⟩
          · refine (S2.out.trans (Stp.below hk.below (by omega))).trans ⟨⟨hbw.size, fun j ob _ hj hob => hko j ob hj hob⟩, hbw.block _ (by omega), hbw.block _ (by omega)⟩
          · have := hbw.size
            omega
        · exact (eval_put_ne (by decide)).trans (hk.done 8 _ 58 rfl rfl h)
      case step8 =>
        intro o a1 w1 ho hA
        cases ho
        obtain ⟨h1, h2, h3, h4, A3, c3, xs3, h57, hrest⟩ := hA
        have e3 := ev h3
        have H2 := Lib.hid h2
        clear h2
        refine ⟨rfl, Oper.wp_mono (fun a' w' hl => ?_) (wp_value (φ := fun v w' => v = .pointer (some ⟨w.heap.size, 1, none⟩) ∧ w' = w1) (v := .pointer (some ⟨w.heap.size, 1, none⟩)) ?_ ⟨rfl, rfl⟩)⟩
        · obtain ⟨v, rfl, ⟨rfl, rfl⟩, _⟩ := hl
          refine ⟨⟨h1, ?_, (eval_put_ne (by decide)).trans h3, (eval_put_ne (by decide)).trans h4, A3, c3, xs3, (eval_put_ne (by decide)).trans h57, hrest⟩, eval_put_same (by rw [H2.out]; decide)⟩
          simpa [Act.put] using H2.out
        · go_simp
      case last =>
        intro o a1 w1 ho hA h58
        cases ho
        obtain ⟨h1, h2, h3, h4, A3, c3, xs3, h57, hrow3, hrd3, hb3, hst3, hsz3⟩ := hA
        have e57 := ev h57
        have e58 := ev h58
        obtain ⟨k0, k1, k2, k3, kf⟩ := cells_of4 hb3.d
        have H2 := Lib.hid h2
        clear h2
        refine ⟨rfl, ?_⟩
        go_simp
        refine ⟨h1, H2.out, h4, A3, c3, xs3, ?_, ?_, hb3.set1 _, ?_, ?_⟩
        · exact hrow3.box _ (by simp) (by simp only; omega)
        · exact hrd3.keep (keepW_set w1 ⟨w.heap.size, 1, none⟩ _ hb3.d (by decide) (by simp))
        · exact hst3.trans (Stp.set w1 ⟨w.heap.size, 1, none⟩ _ (by simp only; omega))
        · simpa using hsz3
      case fin =>
        intro a1 w1 hF
        obtain ⟨h1, h2, h4, A3, c3, xs3, hrow3, hrd3, hb3, hst3, hsz3⟩ := hF
        have e4 := ev h4
        obtain ⟨m0, mf⟩ := cell_of1 hb3.i_
        have hw3 := hb3.hi
        have H3 := Lib.hid hrow3
        have H4 := Lib.hid hrd3
        have H5 := Lib.hid hb3
        have H6 := Lib.hid hst3
        have e4' : a1.tmps[4]'(by rw [h2]; decide) = .pointer (some ⟨w.heap.size + 1, 0, none⟩) := by
          have h5 := h4
          unfold Act.eval at h5
          simpa [h2] using h5
        clear hrow3 hrd3 hb3 hst3 h4 e4
        gi_wp2_with fail
        have f5 := H5.out.seti (i + k + 1)
        have f3 : RowW (w1.setCell ⟨w.heap.size + 1, 0, none⟩ (.int .i64 (i + k + 1))) w.heap.size w4.heap.size (.slice A3 (m + k + 1) c3) (m + k + 1) xs3 := H3.out.box _ (by simp) (by simp only; omega)
        have f4 := H4.out.keep (keepW_set w1 ⟨w.heap.size + 1, 0, none⟩ (.int .i64 (i + k + 1)) H5.out.i_ (by decide) (by simp))
        have f6 := H6.out.trans (Stp.set w1 ⟨w.heap.size + 1, 0, none⟩ (.int .i64 (i + k + 1)) (by simp only; omega))
        have hl1 : (nums (pre ++ [x])).length = k + 1 := by rw [HKS.out, List.length_append, ← HKL.out]; rfl
        refine ⟨f6.k, f6.q_, ⟨A3, c3, xs3, ?_, ?_, ?_, fun h => by rw [hl1] at h; omega⟩, .inr rfl, ?_, by simpa using hsz3⟩
        · rw [hl1, ← HL2.out, show i + ((k + 1 : Nat) : Int) = i + k + 1 by omega, show m + (k + 1) = m + k + 1 by omega]; exact f5
        · rw [hl1, show m + (k + 1) = m + k + 1 by omega]; exact f3
        · rw [HKS.out, ← HWE.out]; exact f4
        · rw [hl1]; exact HNX.out.2.2
  case done =>
    rintro D ys V hD hys hI hK
    have hks : (nums ys).length = N := by rw [hys]; simp
    have hmap : (nums ys).map (chunk l) = chunks l N := by rw [hys]; rfl
    obtain ⟨A1, c1, xs, hB, hrow, hrd, hnz⟩ := hI.ex
    have hon := hI.on
    have hbud := hI.bud
    rw [hks] at hB hrow hnz hbud
    rw [hmap] at hrd
    have HOF : Hid (O = false) := by
      rcases hon with h | h
      · rw [h] at hks; simp at hks; omega
      · exact h
    rw [HOF.out] at hB
    have HB := Lib.hid hB
    have HROW := Lib.hid hrow
    have HRD := Lib.hid hrd
    have HNZ := Lib.hid hnz
    have HK := Lib.hid hK
    have HBUD := Lib.hid hbud
    obtain ⟨L', hL'⟩ : ∃ L', L' = lft L N := ⟨_, rfl⟩
    rw [← hL'] at HB
    have HL' := Lib.hid hL'
    clear hks hmap hI hB hrow hrd hnz hK hbud hon hL' hys
    obtain ⟨k0, k1, k2, k3, kf⟩ := cells_of4 HB.out.d
    obtain ⟨r0, r1, r2, r3, rf⟩ := cells_of4 HB.out.r_
    obtain ⟨e0, ef⟩ := cell_of1 HB.out.e_
    gi_wp2
    obtain ⟨E, hE⟩ : ∃ E, E = (st4 V (w.heap.size + 1 + 1) (.slice A n c) (.slice A1 (m + N) c1) (.int .i64 L') (.bool false)).setCell ⟨w.heap.size + 1 + 1 + 1, 0, none⟩ (.int .i64 0) := ⟨_, rfl⟩
    have hE' := hE
    unfold st4 at hE'
    rw [← hE']
    clear hE'
    have hr1 : E.heap[w.heap.size + 1 + 1]? = some (.cells #[.slice A n c, .slice A1 (m + N) c1, .int .i64 L', .bool false] 25 (0, 0)) := by
      rw [hE, Below.heap_setCell _ _ _ _ (by simp)]; exact st4_at HB.out.r_ _ _ _ _
    have he1 : E.heap[w.heap.size + 1 + 1 + 1]? = some (.cells #[.int .i64 0] 28 (0, 0)) := by
      have := (st4_far V (r := w.heap.size + 1 + 1) (k := w.heap.size + 1 + 1 + 1) (.slice A n c) (.slice A1 (m + N) c1) (.int .i64 L') (.bool false) (by omega)).trans HB.out.e_
      rw [hE]
      generalize st4 V (w.heap.size + 1 + 1) (.slice A n c) (.slice A1 (m + N) c1) (.int .i64 L') (.bool false) = X at this
      simp [World.setCell, Array.getElem?_modify, this]
    have hD1 : E.heap[D]? = some (.deferred (some [])) := by
      rw [hE, Below.heap_setCell _ _ _ _ (by simp; omega), st4_far _ _ _ _ _ (by omega)]; exact HK.out
    have hg := grownBy_putObj' E D (.deferred none)
    have hgr : ∀ r, some D = some r → q + 2 ≤ r ∧ ∃ o : Obj, E.heap[r]? = some o ∧ o.isCells = false := fun r e => by cases e; exact ⟨by omega, _, hD1, rfl⟩
    have hr2 := grown_cells hg (fun r e => (hgr r e).2) hr1
    have he2 := grown_cells hg (fun r e => (hgr r e).2) he1
    have hbE : Below w.heap.size w E := by rw [hE]; exact (st4_below HB.out.b (by omega) _ _ _ _).setCell (by simp only; omega) _
    have hbF : Below w.heap.size w (E.putObj D (.deferred none)) := hbE.grown hg hbE.size (fun r e => by have := (hgr r e).1; omega)
    have hrowF : RowW (E.putObj D (.deferred none)) w.heap.size (q + 2) (.slice A1 (m + N) c1) (m + N) xs := by
      refine RowW.grown ?_ hg hgr
      rw [hE]
      refine RowW.box ?_ _ (by simp only; omega) (by simp only; omega)
      rw [hbase]
      exact HROW.out.st4 _ _ _ _ _ (by omega) (by omega)
    have hrdF : RdW (E.putObj D (.deferred none)) w.heap.size xs (W ++ wsA i (chunks l N)) := by
      refine (HRD.out.keep ?_).keep ((keepW_grown hg hgr).mono (by omega))
      rw [hE]
      exact (keepW_st4 V _ _ _ _ _ HB.out.r_ (by decide) (by omega)).trans (keepW_set _ ⟨w.heap.size + 1 + 1 + 1, 0, none⟩ _ (by
        rw [st4_far _ _ _ _ _ (by simp)]; exact HB.out.e_) (by decide) (by simp only; omega))
    obtain ⟨s0, s1, s2, s3, _⟩ := cells_of4 hr2
    obtain ⟨u0, _⟩ := cell_of1 he2
    refine ⟨by simp, .inl ⟨_, _, rfl, run_takeDeferred hD1, ?_⟩⟩
    refine ⟨.tuple #[dv A n c A1 (m + N) c1 L' false, .int .i64 0], by simp [results, Try.results16, go_sem, s0, s1, s2, s3, u0], N, A1, c1, wfin H.out hbF hrowF hrdF ?_, hbF, HNZ.out, .inl ⟨rfl, HOF.out, HBUD.out, by rw [HL'.out]⟩⟩
    rw [List.length_append, wsA_len, chunks_len, H.out.hm]
  case stop =>
    rintro D cd pre V hD ⟨k', hk', hpre⟩ ⟨rfl, ks, x, hks, hR⟩ hK
    have hks2 : ks = List.range (k' - 1) ∧ 1 ≤ k' := by
      rw [hpre] at hks
      rcases k' with _ | k'
      · simp at hks
      · rw [List.range_succ] at hks
        exact ⟨((List.append_inj' hks rfl).1).symm, by omega⟩
    obtain ⟨hks3, hk1⟩ := hks2
    obtain ⟨k, hk⟩ : ∃ k, k = k' - 1 := ⟨_, rfl⟩
    rw [← hk] at hks3
    have hkN : k < N := by omega
    subst hks3
    obtain ⟨A1, c1, xs, hR1, hE1, hb, hrow, hrd, hnz⟩ := hR.ex
    have hwhy := hR.why
    have hmap : (List.range k).map (chunk l) = chunks l k := rfl
    rw [List.length_range] at hR1 hrow hnz hwhy
    rw [hmap] at hrd
    have hwhy2 : (O = true ∧ k = 0) ∨ (O = false ∧ L = k) := by
      rcases hwhy with ⟨h1, h2⟩ | h1
      · refine .inl ⟨h1, ?_⟩
        rw [List.range_eq_nil] at h2
        exact h2
      · exact .inr h1
    have HK := Lib.hid hK
    have HE := Lib.hid hE1
    have HR1 := Lib.hid hR1
    have HB := Lib.hid hb
    have HROW := Lib.hid hrow
    have HRD := Lib.hid hrd
    have HNZ := Lib.hid hnz
    have HW := Lib.hid hwhy2
    clear hK hE1 hR1 hb hrow hrd hnz hwhy hwhy2 hR hmap hpre hks hk'
    gi_wp2
    have hg := grownBy_putObj' V D (.deferred none)
    have hgr : ∀ r, some D = some r → q + 2 ≤ r ∧ ∃ o : Obj, V.heap[r]? = some o ∧ o.isCells = false := fun r e => by cases e; exact ⟨by omega, _, HK.out, rfl⟩
    have hr2 := grown_cells hg (fun r e => (hgr r e).2) HR1.out
    have he2 := grown_cells hg (fun r e => (hgr r e).2) HE.out
    have hbF : Below w.heap.size w (V.putObj D (.deferred none)) := HB.out.grown hg HB.out.size (fun r e => by have := (hgr r e).1; omega)
    have hrowF : RowW (V.putObj D (.deferred none)) w.heap.size (q + 2) (.slice A1 (m + k) c1) (m + k) xs := by
      refine RowW.grown ?_ hg hgr
      rw [hbase]
      exact HROW.out
    have hrdF : RdW (V.putObj D (.deferred none)) w.heap.size xs (W ++ wsA i (chunks l k)) := HRD.out.keep ((keepW_grown hg hgr).mono (by omega))
    obtain ⟨s0, s1, s2, s3, _⟩ := cells_of4 hr2
    obtain ⟨u0, _⟩ := cell_of1 he2
    refine ⟨by simp, .inl ⟨_, _, rfl, run_takeDeferred HK.out, ?_⟩⟩
    refine ⟨.tuple #[dv A n c A1 (m + k) c1 (lft L k) true, .int .i64 10], by simp [results, Try.results16, go_sem, s0, s1, s2, s3, u0], k, A1, c1, wfin H.out hbF hrowF hrdF ?_, hbF, HNZ.out, .inr ⟨hkN, HW.out, rfl⟩⟩
    rw [List.length_append, wsA_len, chunks_len, H.out.hm]
end Go.Proofs.Ytopklkkhddpglaa
