/- Contracts: Flush, Budget, Crash. -/
import Derived.Test.YtopklkkhddpglaaW7
namespace Go.Proofs.Ytopklkkhddpglaa
open Go.RowKit Dk

/-- A disk as a value: where its sectors and its writes lie, and what they have. -/
structure Dsk (w : World) (A : Option Addr) (n c : Nat) (A' : Option Addr) (m c' : Nat) (S : List (List UInt8)) (W : Ws) : Prop where
  s : Parts w w.heap.size A S
  w_ : Pend w w.heap.size A' W
  hn : S.length = n
  hm : W.length = m
  hc : n ≤ c
  hc' : m ≤ c'
theorem Dsk.below {w w' : World} {A : Option Addr} {n c : Nat} {A' : Option Addr} {m c' : Nat} {S : List (List UInt8)} {W : Ws} (h : Dsk w A n c A' m c' S W) (hb : Below w.heap.size w w') : Dsk w' A n c A' m c' S W :=
  ⟨(h.s.below hb (Nat.le_refl _)).more hb.size, (h.w_.below hb (Nat.le_refl _)).more hb.size, h.hn, h.hm, h.hc, h.hc'⟩
theorem Dsk.may {w : World} {A : Option Addr} {n c : Nat} {A' : Option Addr} {m c' : Nat} {S : List (List UInt8)} {W : Ws} (h : Dsk w A n c A' m c' S W) (L : Int) (O : Bool) (hn : n ≤ 4611686018427387904) (hm : m ≤ 2305843009213693952) :
    Calls Try.prog 21 #[dv A n c A' m c' L O] w fun e w' => e = .returned (.bool (may S W L)) ∧ Below w.heap.size w w' := by
  have := may_any A S c A' W c' L O w h.s h.w_ (by rw [h.hn]; exact hn) (by rw [h.hm]; exact hm)
  rwa [h.hn, h.hm] at this
theorem Dsk.done_ {w : World} {A : Option Addr} {n c : Nat} {A' : Option Addr} {m c' : Nat} {S : List (List UInt8)} {W : Ws} (h : Dsk w A n c A' m c' S W) (L0 L : Int) (O : Bool) (hy : Dk.may S W L0 = true) (hm : m ≤ 1000000000) :
    Calls Try.prog 22 #[dv A n c A' m c' L O, .func (.func 28) #[] #[]] w fun e w' => ∃ g cap, e = .returned (dv (some ⟨g, 0, none⟩) n cap none 0 0 L O) ∧ w.heap.size ≤ g ∧ Dsk w' (some ⟨g, 0, none⟩) n cap none 0 0 (done (fun _ => true) 0 W S) [] ∧ Below w.heap.size w w' := by
  obtain ⟨h1, h2, _, _, h5⟩ := (may_iff S W L0).1 hy
  have := do_all A S c A' W c' L O w h.s h.w_ h1 h2 (fun p hp => (h5 p hp).2) (by rw [h.hm]; exact hm)
  rw [h.hn, h.hm] at this
  exact this.mono fun e w' ⟨g, cap, he, hlo, hc, hp, hb⟩ => ⟨g, cap, he, hlo, ⟨hp, (fun i hi => by cases hi), by rw [done_len]; exact h.hn, rfl, hc, Nat.le_refl _⟩, hb⟩
theorem Dsk.some_ {w : World} {A : Option Addr} {n c : Nat} {A' : Option Addr} {m c' : Nat} {S : List (List UInt8)} {W : Ws} (h : Dsk w A n c A' m c' S W) (L0 L : Int) (O : Bool) (gk ck : Nat) (K : List Bool) (AK : Option Addr) (hgk : gk < w.heap.size)
    (hck : w.cell? ⟨gk, 0, none⟩ = some (.slice AK K.length ck)) (hK : Bools w w.heap.size AK K) (hy : Dk.may S W L0 = true) (hm : m ≤ 1000000000) :
    Calls Try.prog 22 #[dv A n c A' m c' L O, .func (.func 23) #[] #[.pointer (some ⟨gk, 0, none⟩)]] w fun e w' => ∃ g cap, e = .returned (dv (some ⟨g, 0, none⟩) n cap none 0 0 L O) ∧ w.heap.size ≤ g ∧ Dsk w' (some ⟨g, 0, none⟩) n cap none 0 0 (done (keepB K) 0 W S) [] ∧ Below w.heap.size w w' := by
  obtain ⟨h1, h2, _, _, h5⟩ := (may_iff S W L0).1 hy
  have := do_some A S c A' W c' L O gk ck K AK w h.s h.w_ h1 h2 (fun p hp => (h5 p hp).2) (by rw [h.hm]; exact hm) hgk hck hK
  rw [h.hn, h.hm] at this
  exact this.mono fun e w' ⟨g, cap, he, hlo, hc, hp, hb⟩ => ⟨g, cap, he, hlo, ⟨hp, (fun i hi => by cases hi), by rw [done_len]; exact h.hn, rfl, hc, Nat.le_refl _⟩, hb⟩
/-- The zero disk. -/
abbrev dz : Value := dv none 0 0 none 0 0 0 false

/-- The boxes of a disk's variable and of a result. -/
structure Bx (w0 : World) (r : Nat) (v0 v1 v2 v3 : Value) (w : World) : Prop where
  d : w.heap[w0.heap.size]? = some (.cells #[v0, v1, v2, v3] 25 (0, 0))
  r_ : w.heap[r]? = some (.cells #[.slice none 0 0, .slice none 0 0, .int .i64 0, .bool false] 25 (0, 0))
  b : Below w0.heap.size w0 w
  lo : w0.heap.size < r
  hi : r < w.heap.size
theorem Bx.new (w : World) (v0 v1 v2 v3 : Value) : Bx w (w.heap.size + 1) v0 v1 v2 v3 ((w.alloc (.cells #[v0, v1, v2, v3] 25)).alloc (.cells #[.slice none 0 0, .slice none 0 0, .int .i64 0, .bool false] 25)) := by
  refine ⟨?_, ?_, below2 _ _ _, by omega, by simp⟩
  · rw [Below.heap_alloc _ _ _ (by simp)]; exact heap_alloc_new _ _
  · have := heap_alloc_new (w.alloc (.cells #[v0, v1, v2, v3] 25)) (.cells #[.slice none 0 0, .slice none 0 0, .int .i64 0, .bool false] 25)
    simpa using this
theorem Bx.new2 (w : World) (v0 v1 v2 v3 : Value) (o : Obj) : Bx w (w.heap.size + 1 + 1) v0 v1 v2 v3 (((w.alloc (.cells #[v0, v1, v2, v3] 25)).alloc o).alloc (.cells #[.slice none 0 0, .slice none 0 0, .int .i64 0, .bool false] 25)) := by
  refine ⟨?_, ?_, (below2 _ _ _).alloc (by simp; omega) _, by omega, by simp⟩
  · rw [Below.heap_alloc _ _ _ (by simp; omega), Below.heap_alloc _ _ _ (by simp)]; exact heap_alloc_new _ _
  · have := heap_alloc_new ((w.alloc (.cells #[v0, v1, v2, v3] 25)).alloc o) (.cells #[.slice none 0 0, .slice none 0 0, .int .i64 0, .bool false] 25)
    simpa using this
theorem Bx.below {w0 w w' : World} {r : Nat} {v0 v1 v2 v3 : Value} (h : Bx w0 r v0 v1 v2 v3 w) (hb : Below w.heap.size w w') : Bx w0 r v0 v1 v2 v3 w' := by
  have h1 := h.hi
  have h2 := h.lo
  exact ⟨(hb.block _ (by omega)).trans h.d, (hb.block _ (by omega)).trans h.r_, h.b.trans (hb.mono h.b.size), h2, Nat.lt_of_lt_of_le h1 hb.size⟩
theorem Bx.set {w0 w : World} {r : Nat} {v0 v1 v2 v3 : Value} (h : Bx w0 r v0 v1 v2 v3 w) (a b c d : Value) : Bx w0 r a b c d (st4 w w0.heap.size a b c d) := by
  have h2 := h.lo
  exact ⟨st4_at h.d a b c d, (st4_far w a b c d (by omega)).trans h.r_, st4_below h.b (Nat.le_refl _) a b c d, h2, by rw [st4_size]; exact h.hi⟩
theorem Bx.set_ {w0 w : World} {r : Nat} {v0 v1 v2 v3 : Value} (h : Bx w0 r v0 v1 v2 v3 w) (j : Nat) (u a b c d : Value) (e : (#[v0, v1, v2, v3].setIfInBounds j u) = #[a, b, c, d]) : Bx w0 r a b c d (w.setCell ⟨w0.heap.size, j, none⟩ u) := by
  have h2 := h.lo
  refine ⟨?_, (Below.heap_setCell w ⟨w0.heap.size, j, none⟩ _ _ (by simp only; omega)).trans h.r_, h.b.setCell (by simp) _, h2, by simpa using h.hi⟩
  rw [← e]
  simp [World.setCell, Array.getElem?_modify, h.d]
/-- The zero box has no octet. -/
theorem nu_sl (A : Option Addr) (n c : Nat) : noU8 (.slice A n c) := fun x h => by cases h
theorem nu_i (k : Int) : noU8 (.int .i64 k) := fun x h => by cases h
theorem nu_b (b : Bool) : noU8 (.bool b) := fun x h => by cases h

set_option maxHeartbeats 1600000 in
theorem flush_on (A : Option Addr) (n c : Nat) (A' : Option Addr) (m c' : Nat) (S : List (List UInt8)) (W : Ws) (L : Int) (w : World) (h : Dsk w A n c A' m c' S W) (hy : may S W L = true) (hm : m ≤ 1000000000) (hL : L ≠ 0) (hL2 : L ≤ 9223372036854775807) :
    Calls Try.prog 18 #[dv A n c A' m c' L false] w fun e w' => ∃ g cap, e = .returned (.tuple #[dv (some ⟨g, 0, none⟩) n cap none 0 0 (spL L false) false, .int .i64 0]) ∧ Dsk w' (some ⟨g, 0, none⟩) n cap none 0 0 (done (fun _ => true) 0 W S) [] ∧ Below w.heap.size w w' := by
  have hn : n ≤ 4096 := by have := (may_iff S W L).1 hy; rw [h.hn] at this; exact this.2.1
  have hm2 : m ≤ 2305843009213693952 := by omega
  have HO : Hid (spO L false = false) := by show _ = _; unfold spO; simp [hL]
  have X0 := Lib.hid (Bx.new w (.slice A n c) (.slice A' m c') (.int .i64 L) (.bool false))
  have H := Lib.hid h
  have HY := Lib.hid hy
  clear h hy hL
  go_enter Try.func18, Try.ntmps18
  go_wp2_with fail
  obtain ⟨w0, hw0⟩ : ∃ w0, w0 = ((w.alloc (.cells #[.slice A n c, .slice A' m c', .int .i64 L, .bool false] 25)).alloc (.cells #[.slice none 0 0, .slice none 0 0, .int .i64 0, .bool false] 25)) := ⟨_, rfl⟩
  rw [← hw0] at X0 ⊢
  clear hw0
  refine ((H.out.below X0.out.b).may L false (by omega) hm2).mono ?_
  rintro e w1 ⟨rfl, hb1⟩
  rw [HY.out]
  have X1 := Lib.hid (X0.out.below hb1)
  clear hb1
  obtain ⟨k0, k1, k2, k3, kf⟩ := cells_of4 X1.out.d
  go_wp2_with fail
  clear k0 k1 k2 k3 kf
  refine (spend_any A n c A' m c' L false _ hL2).mono ?_
  rintro e w2 ⟨rfl, hb2⟩
  rw [HO.out]
  have X2 := Lib.hid (X1.out.below hb2)
  clear hb2
  obtain ⟨L', hL'⟩ : ∃ L', L' = spL L false := ⟨_, rfl⟩
  rw [← hL']
  have HL := Lib.hid hL'
  clear hL'
  obtain ⟨k0, k1, k2, k3, kf⟩ := cells_of4 X2.out.d
  go_wp2_with fail
  clear k0 k1 k2 k3 kf
  have X3 := Lib.hid (X2.out.set (.slice A n c) (.slice A' m c') (.int .i64 L') (.bool false))
  refine ((H.out.below X3.out.b).done_ L L' false HY.out hm).mono ?_
  rintro e w4 ⟨g, cap, rfl, hg, hD, hb4⟩
  have X4 := Lib.hid (X3.out.below hb4)
  have HD := Lib.hid hD
  have hg2 := X3.out.hi
  clear hb4 hD
  obtain ⟨r0, r1, r2, r3, rf⟩ := cells_of4 X4.out.r_
  go_wp2_with fail
  refine bodyPost_ret (v := .tuple #[dv (some ⟨g, 0, none⟩) n cap none 0 0 L' false, .int .i64 0]) (by simp [results, Try.results18, go_sem, r0, r1, r2, r3]) rfl ⟨g, cap, by rw [HL.out], ?_, ?_⟩
  · have p5 := HD.out.s.st4 X4.out.r_ (by omega) (nu_sl _ _ _) (nu_sl _ _ _) (nu_i _) (nu_b _) (.slice (some ⟨g, 0, none⟩) n cap) (.slice none 0 0) (.int .i64 L') (.bool false)
    exact ⟨by simpa using p5, (fun i hi => by cases hi), HD.out.hn, rfl, HD.out.hc, Nat.le_refl _⟩
  · exact st4_below X4.out.b (by omega) _ _ _ _

set_option maxHeartbeats 1600000 in
theorem flush_off (A : Option Addr) (n c : Nat) (A' : Option Addr) (m c' : Nat) (S : List (List UInt8)) (W : Ws) (L : Int) (O : Bool) (w : World) (h : Dsk w A n c A' m c' S W) (hy : may S W L = true) (hm : m ≤ 1000000000) (hO : spO L O = true) (hL2 : L ≤ 9223372036854775807) :
    Calls Try.prog 18 #[dv A n c A' m c' L O] w fun e w' => e = .returned (.tuple #[dv A n c A' m c' (spL L O) true, .int .i64 10]) ∧ Below w.heap.size w w' := by
  have hn : n ≤ 4096 := by have := (may_iff S W L).1 hy; rw [h.hn] at this; exact this.2.1
  have hm2 : m ≤ 2305843009213693952 := by omega
  have HO := Lib.hid hO
  have X0 := Lib.hid (Bx.new w (.slice A n c) (.slice A' m c') (.int .i64 L) (.bool O))
  have H := Lib.hid h
  have HY := Lib.hid hy
  clear h hy hO
  go_enter Try.func18, Try.ntmps18
  go_wp2_with fail
  obtain ⟨w0, hw0⟩ : ∃ w0, w0 = ((w.alloc (.cells #[.slice A n c, .slice A' m c', .int .i64 L, .bool O] 25)).alloc (.cells #[.slice none 0 0, .slice none 0 0, .int .i64 0, .bool false] 25)) := ⟨_, rfl⟩
  rw [← hw0] at X0 ⊢
  clear hw0
  refine ((H.out.below X0.out.b).may L O (by omega) hm2).mono ?_
  rintro e w1 ⟨rfl, hb1⟩
  rw [HY.out]
  have X1 := Lib.hid (X0.out.below hb1)
  clear hb1
  obtain ⟨k0, k1, k2, k3, kf⟩ := cells_of4 X1.out.d
  go_wp2_with fail
  clear k0 k1 k2 k3 kf
  refine (spend_any A n c A' m c' L O _ hL2).mono ?_
  rintro e w2 ⟨rfl, hb2⟩
  rw [HO.out]
  have X2 := Lib.hid (X1.out.below hb2)
  clear hb2
  obtain ⟨L', hL'⟩ : ∃ L', L' = spL L O := ⟨_, rfl⟩
  rw [← hL']
  have HL := Lib.hid hL'
  clear hL'
  obtain ⟨k0, k1, k2, k3, kf⟩ := cells_of4 X2.out.d
  obtain ⟨r0, r1, r2, r3, rf⟩ := cells_of4 X2.out.r_
  go_wp2_with fail
  refine bodyPost_ret (v := .tuple #[dv A n c A' m c' L' true, .int .i64 10]) (by simp [results, Try.results18, go_sem, r0, r1, r2, r3]) rfl ⟨by rw [HL.out], ?_⟩
  exact st4_below (st4_below X2.out.b (Nat.le_refl _) _ _ _ _) (by omega) _ _ _ _

set_option maxHeartbeats 1600000 in
theorem budget_yes (A : Option Addr) (n c : Nat) (A' : Option Addr) (m c' : Nat) (S : List (List UInt8)) (W : Ws) (L : Int) (O : Bool) (k : Int) (w : World) (h : Dsk w A n c A' m c' S W) (hy : may S W L = true) (hm : m ≤ 2305843009213693952) (hk : -1 ≤ k) :
    Calls Try.prog 9 #[dv A n c A' m c' L O, .int .i64 k] w fun e w' => e = .returned (.tuple #[dv A n c A' m c' k O, .int .i64 0]) ∧ Below w.heap.size w w' := by
  have hn : n ≤ 4096 := by have := (may_iff S W L).1 hy; rw [h.hn] at this; exact this.2.1
  have X0 := Lib.hid (Bx.new w (.slice A n c) (.slice A' m c') (.int .i64 L) (.bool O))
  have H := Lib.hid h
  have HY := Lib.hid hy
  clear h hy
  have hk' : decide (k < -1) = false := by simp; omega
  go_enter Try.func9, Try.ntmps9
  go_wp2_with fail
  obtain ⟨w0, hw0⟩ : ∃ w0, w0 = ((w.alloc (.cells #[.slice A n c, .slice A' m c', .int .i64 L, .bool O] 25)).alloc (.cells #[.slice none 0 0, .slice none 0 0, .int .i64 0, .bool false] 25)) := ⟨_, rfl⟩
  rw [← hw0] at X0 ⊢
  clear hw0
  refine ((H.out.below X0.out.b).may L O (by omega) hm).mono ?_
  rintro e w1 ⟨rfl, hb1⟩
  rw [HY.out]
  have X1 := Lib.hid (X0.out.below hb1)
  clear hb1
  obtain ⟨k0, k1, k2, k3, kf⟩ := cells_of4 X1.out.d
  obtain ⟨r0, r1, r2, r3, rf⟩ := cells_of4 X1.out.r_
  go_wp2_with fail
  refine bodyPost_ret (v := .tuple #[dv A n c A' m c' k O, .int .i64 0]) (by simp [results, Try.results9, go_sem, r0, r1, r2, r3]) rfl ⟨rfl, ?_⟩
  exact st4_below (X1.out.b.setCell (by simp) _) (by omega) _ _ _ _

set_option maxHeartbeats 1600000 in
theorem budget_no (A : Option Addr) (n c : Nat) (A' : Option Addr) (m c' : Nat) (S : List (List UInt8)) (W : Ws) (L : Int) (O : Bool) (k : Int) (w : World) (h : Dsk w A n c A' m c' S W) (hy : may S W L = false ∨ k < -1) (hn : n ≤ 4611686018427387904) (hm : m ≤ 2305843009213693952) :
    Calls Try.prog 9 #[dv A n c A' m c' L O, .int .i64 k] w fun e w' => e = .returned (.tuple #[dz, .int .i64 1]) ∧ Below w.heap.size w w' := by
  have X0 := Lib.hid (Bx.new w (.slice A n c) (.slice A' m c') (.int .i64 L) (.bool O))
  have H := Lib.hid h
  clear h
  cases hmay : may S W L with
  | false =>
    have HY := Lib.hid hmay
    clear hmay hy
    go_enter Try.func9, Try.ntmps9
    go_wp2_with fail
    obtain ⟨w0, hw0⟩ : ∃ w0, w0 = ((w.alloc (.cells #[.slice A n c, .slice A' m c', .int .i64 L, .bool O] 25)).alloc (.cells #[.slice none 0 0, .slice none 0 0, .int .i64 0, .bool false] 25)) := ⟨_, rfl⟩
    rw [← hw0] at X0 ⊢
    clear hw0
    refine ((H.out.below X0.out.b).may L O hn hm).mono ?_
    rintro e w1 ⟨rfl, hb1⟩
    rw [HY.out]
    have X1 := Lib.hid (X0.out.below hb1)
    clear hb1
    obtain ⟨r0, r1, r2, r3, rf⟩ := cells_of4 X1.out.r_
    go_wp2_with fail
    refine bodyPost_ret (v := .tuple #[dz, .int .i64 1]) (by simp [results, Try.results9, go_sem, r0, r1, r2, r3]) rfl ⟨rfl, ?_⟩
    exact st4_below X1.out.b (by omega) _ _ _ _
  | true =>
    have HY := Lib.hid hmay
    have hk : k < -1 := by
      rcases hy with h | h
      · rw [h] at hmay; cases hmay
      · exact h
    clear hmay hy
    go_enter Try.func9, Try.ntmps9
    go_wp2_with fail
    obtain ⟨w0, hw0⟩ : ∃ w0, w0 = ((w.alloc (.cells #[.slice A n c, .slice A' m c', .int .i64 L, .bool O] 25)).alloc (.cells #[.slice none 0 0, .slice none 0 0, .int .i64 0, .bool false] 25)) := ⟨_, rfl⟩
    rw [← hw0] at X0 ⊢
    clear hw0
    refine ((H.out.below X0.out.b).may L O hn hm).mono ?_
    rintro e w1 ⟨rfl, hb1⟩
    rw [HY.out]
    have X1 := Lib.hid (X0.out.below hb1)
    clear hb1
    obtain ⟨r0, r1, r2, r3, rf⟩ := cells_of4 X1.out.r_
    go_wp2_with fail
    refine bodyPost_ret (v := .tuple #[dz, .int .i64 1]) (by simp [results, Try.results9, go_sem, r0, r1, r2, r3]) rfl ⟨rfl, ?_⟩
    exact st4_below X1.out.b (by omega) _ _ _ _

set_option maxHeartbeats 1600000 in
theorem crash_no (A : Option Addr) (n c : Nat) (A' : Option Addr) (m c' : Nat) (S : List (List UInt8)) (W : Ws) (L : Int) (O : Bool) (AK : Option Addr) (nk ck : Nat) (w : World) (h : Dsk w A n c A' m c' S W) (hy : may S W L = false) (hn : n ≤ 4611686018427387904) (hm : m ≤ 2305843009213693952) :
    Calls Try.prog 11 #[dv A n c A' m c' L O, .slice AK nk ck] w fun e w' => e = .returned dz ∧ Below w.heap.size w w' := by
  have X0 := Lib.hid (Bx.new2 w (.slice A n c) (.slice A' m c') (.int .i64 L) (.bool O) (.cells #[.slice AK nk ck] 26))
  have H := Lib.hid h
  have HY := Lib.hid hy
  clear h hy
  go_enter Try.func11, Try.ntmps11
  go_wp2_with fail
  obtain ⟨w0, hw0⟩ : ∃ w0, w0 = (((w.alloc (.cells #[.slice A n c, .slice A' m c', .int .i64 L, .bool O] 25)).alloc (.cells #[.slice AK nk ck] 26)).alloc (.cells #[.slice none 0 0, .slice none 0 0, .int .i64 0, .bool false] 25)) := ⟨_, rfl⟩
  rw [← hw0] at X0 ⊢
  clear hw0
  refine ((H.out.below X0.out.b).may L O hn hm).mono ?_
  rintro e w1 ⟨rfl, hb1⟩
  rw [HY.out]
  have X1 := Lib.hid (X0.out.below hb1)
  clear hb1
  obtain ⟨r0, r1, r2, r3, rf⟩ := cells_of4 X1.out.r_
  go_wp2_with fail
  refine bodyPost_ret (v := dz) (by simp [results, Try.results11, go_sem, r0, r1, r2, r3]) rfl ⟨rfl, ?_⟩
  exact st4_below X1.out.b (by omega) _ _ _ _

end Go.Proofs.Ytopklkkhddpglaa
