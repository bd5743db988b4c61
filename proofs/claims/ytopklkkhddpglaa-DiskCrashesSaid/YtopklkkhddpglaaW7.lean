/- Contracts: do. -/
import Derived.Test.YtopklkkhddpglaaW6
import Derived.Laws.Rows
namespace Go.Proofs.Ytopklkkhddpglaa
open Go.RowKit Dk

theorem Octs.setSlice {w : World} {B : Nat} {A : Option Addr} {l : List UInt8} (h : Octs w B A l) {p : Addr} {A' : Option Addr} {n c : Nat} (hp : w.cell? p = some (.slice A' n c)) (u : Value) : Octs (w.setCell p u) B A l := fun i hi => by
  obtain ⟨b, o, e, hb, hc⟩ := h i hi
  refine ⟨b, o, e, hb, (World.cell?_setCell_other w p ⟨b, o + i, none⟩ u (fun e => ?_)).trans hc⟩
  subst e
  rw [hc] at hp
  cases hp
theorem Parts.set_ {w : World} {B g a c : Nat} {S : List (List UInt8)} {A' : Option Addr} {l : List UInt8} (h : Parts w B (some ⟨g, 0, none⟩) S) (ha : a < S.length) (ho : Octs w B A' l) (hl : l.length ≤ c) (hl2 : l.length ≤ 140737488351232) :
    Parts (w.setCell ⟨g, a, none⟩ (.slice A' l.length c)) B (some ⟨g, 0, none⟩) (S.set a l) := fun i hi => by
  have hi' : i < S.length := by simpa using hi
  obtain ⟨b, o, A1, c1, e, hb, hc, ho1, hl1, hl3⟩ := h a ha
  injection e with e
  injection e with e1 e2
  subst e1
  subst e2
  rw [Nat.zero_add] at hc
  by_cases hia : a = i
  · subst hia
    refine ⟨g, 0, A', c, rfl, hb, ?_, ?_, ?_, ?_⟩
    · rw [Nat.zero_add, List.getElem_set_self]
      exact World.cell?_setCell_same' _ _ _ (by rw [hc]; rfl)
    · rw [List.getElem_set_self]; exact ho.setSlice hc _
    · rw [List.getElem_set_self]; exact hl
    · rw [List.getElem_set_self]; exact hl2
  · obtain ⟨b, o, A2, c2, e, hb2, hc2, ho2, hl2', hl3'⟩ := h i hi'
    injection e with e
    injection e with e1 e2
    subst e1
    subst e2
    refine ⟨g, 0, A2, c2, rfl, hb, ?_, ?_, ?_, ?_⟩
    · rw [List.getElem_set_ne hia]
      refine (World.cell?_setCell_other w _ _ _ (fun e => hia ?_)).trans hc2
      injection e with _ e
      omega
    · rw [List.getElem_set_ne hia]; exact ho2.setSlice hc _
    · rw [List.getElem_set_ne hia]; exact hl2'
    · rw [List.getElem_set_ne hia]; exact hl3'

theorem Octs.setFar {w : World} {B : Nat} {A : Option Addr} {l : List UInt8} (h : Octs w B A l) {p : Addr} {v : Value} (hp : w.cell? p = some v) (hv : ∀ x, v ≠ .int .u8 x) (u : Value) : Octs (w.setCell p u) B A l := fun i hi => by
  obtain ⟨b, o, e, hb, hc⟩ := h i hi
  refine ⟨b, o, e, hb, (World.cell?_setCell_other w p ⟨b, o + i, none⟩ u (fun e => ?_)).trans hc⟩
  subst e
  rw [hc] at hp
  injection hp with hp
  exact hv _ hp.symm
theorem Parts.setFar {w : World} {B g : Nat} {S : List (List UInt8)} (h : Parts w B (some ⟨g, 0, none⟩) S) {p : Addr} {v : Value} (hp : w.cell? p = some v) (hv : ∀ x, v ≠ .int .u8 x) (hne : p.block ≠ g) (u : Value) : Parts (w.setCell p u) B (some ⟨g, 0, none⟩) S := fun i hi => by
  obtain ⟨b, o, A1, c1, e, hb, hc, ho, hl⟩ := h i hi
  refine ⟨b, o, A1, c1, e, hb, (World.cell?_setCell_other w p ⟨b, o + i, none⟩ u (fun e' => hne ?_)).trans hc, ho.setFar hp hv u, hl⟩
  injection e with e
  injection e with e3 e4
  rw [e', ← e3]
/-- Four cells of a block are stored. -/
abbrev st4 (w : World) (r : Nat) (a b c d : Value) : World := (((w.setCell ⟨r, 0, none⟩ a).setCell ⟨r, 1, none⟩ b).setCell ⟨r, 2, none⟩ c).setCell ⟨r, 3, none⟩ d
theorem st4_at {w : World} {r : Nat} {o0 o1 o2 o3 : Value} {t : TypeId} (h : w.heap[r]? = some (.cells #[o0, o1, o2, o3] t (0, 0))) (a b c d : Value) : (st4 w r a b c d).heap[r]? = some (.cells #[a, b, c, d] t (0, 0)) := by
  simp [st4, World.setCell, Array.getElem?_modify, h]
theorem st4_far (w : World) {r k : Nat} (a b c d : Value) (h : k ≠ r) : (st4 w r a b c d).heap[k]? = w.heap[k]? := by
  unfold st4
  rw [Below.heap_setCell _ _ _ _ h, Below.heap_setCell _ _ _ _ h, Below.heap_setCell _ _ _ _ h, Below.heap_setCell _ _ _ _ h]
theorem st4_below {B : Nat} {a w : World} (h : Below B a w) {r : Nat} (hr : B ≤ r) (x y z u : Value) : Below B a (st4 w r x y z u) := (((h.setCell (by simpa using hr) _).setCell (by simpa using hr) _).setCell (by simpa using hr) _).setCell (by simpa using hr) _
theorem st4_size (w : World) (r : Nat) (a b c d : Value) : (st4 w r a b c d).heap.size = w.heap.size := by simp [st4]
theorem cells_of4 {w : World} {g : Nat} {a b c d : Value} {t : TypeId} (h : w.heap[g]? = some (.cells #[a, b, c, d] t (0, 0))) :
    w.cell? ⟨g, 0, none⟩ = some a ∧ w.cell? ⟨g, 1, none⟩ = some b ∧ w.cell? ⟨g, 2, none⟩ = some c ∧ w.cell? ⟨g, 3, none⟩ = some d ∧ ∀ j, w.frozen? ⟨g, j, none⟩ = false := by
  refine ⟨?_, ?_, ?_, ?_, fun j => ?_⟩
  · rw [cell_of_row w g 0 _ _ _ h]; rfl
  · rw [cell_of_row w g 1 _ _ _ h]; rfl
  · rw [cell_of_row w g 2 _ _ _ h]; rfl
  · rw [cell_of_row w g 3 _ _ _ h]; rfl
  · simp [World.frozen?, h]
/-- No octet. -/
def noU8 (v : Value) : Prop := ∀ x, v ≠ .int .u8 x
theorem Parts.st4 {w : World} {B g r : Nat} {S : List (List UInt8)} (h : Parts w B (some ⟨g, 0, none⟩) S) {o0 o1 o2 o3 : Value} {t : TypeId} (hr : w.heap[r]? = some (.cells #[o0, o1, o2, o3] t (0, 0))) (hne : r ≠ g)
    (h0 : noU8 o0) (h1 : noU8 o1) (h2 : noU8 o2) (h3 : noU8 o3) (a b c d : Value) : Parts (st4 w r a b c d) B (some ⟨g, 0, none⟩) S := by
  obtain ⟨c0, c1, c2, c3, _⟩ := cells_of4 hr
  have p1 := h.setFar (p := ⟨r, 0, none⟩) c0 h0 hne a
  have p2 := p1.setFar (p := ⟨r, 1, none⟩) ((World.cell?_setCell_other _ _ _ _ (by simp)).trans c1) h1 hne b
  have p3 := p2.setFar (p := ⟨r, 2, none⟩) (((World.cell?_setCell_other _ _ _ _ (by simp)).trans (World.cell?_setCell_other _ _ _ _ (by simp))).trans c2) h2 hne c
  exact p3.setFar (p := ⟨r, 3, none⟩) ((((World.cell?_setCell_other _ _ _ _ (by simp)).trans (World.cell?_setCell_other _ _ _ _ (by simp))).trans (World.cell?_setCell_other _ _ _ _ (by simp))).trans c3) h3 hne d
/-- What the loop of do keeps. -/
structure DoSt (w : World) (g cap n : Nat) (S : List (List UInt8)) (A' : Option Addr) (m c' : Nat) (L : Int) (O : Bool) (wr : World) : Prop where
  d : wr.heap[w.heap.size]? = some (.cells #[.slice (some ⟨g, 0, none⟩) n cap, .slice A' m c', .int .i64 L, .bool O] 25 (0, 0))
  r : wr.heap[w.heap.size + 1]? = some (.cells #[.slice none 0 0, .slice none 0 0, .int .i64 0, .bool false] 25 (0, 0))
  p : Parts wr wr.heap.size (some ⟨g, 0, none⟩) S
  f : ∀ j, wr.frozen? ⟨g, j, none⟩ = false
  b : Below w.heap.size w wr
  lo : w.heap.size + 2 ≤ g
  hi : g < wr.heap.size
theorem DoSt.skip {w : World} {g cap n : Nat} {S : List (List UInt8)} {A' : Option Addr} {m c' : Nat} {L : Int} {O : Bool} {wr : World} (h : DoSt w g cap n S A' m c' L O wr) (o : Obj) : DoSt w g cap n S A' m c' L O (wr.alloc o) := by
  have h1 := h.hi
  have h2 := h.lo
  have hb : Below wr.heap.size wr (wr.alloc o) := (Below.refl _ _).alloc (Nat.le_refl _) _
  exact ⟨(Below.heap_alloc wr o _ (by omega)).trans h.d, (Below.heap_alloc wr o _ (by omega)).trans h.r, (h.p.below hb (Nat.le_refl _)).more hb.size, fun j => (hb.frozen (p := ⟨g, j, none⟩) h1).trans (h.f j), h.b.trans (hb.mono h.b.size), h2, Nat.lt_of_lt_of_le h1 hb.size⟩
theorem DoSt.keep {w : World} {g cap n : Nat} {S : List (List UInt8)} {A' : Option Addr} {m c' : Nat} {L : Int} {O : Bool} {wr : World} (h : DoSt w g cap n S A' m c' L O wr) {a c : Nat} {l : List UInt8} {A1 : Option Addr} (ha : a < S.length) (ho : Octs wr wr.heap.size A1 l) (hl : l.length ≤ c) (hl2 : l.length ≤ 140737488351232) :
    DoSt w g cap n (S.set a l) A' m c' L O (wr.setCell ⟨g, a, none⟩ (.slice A1 l.length c)) := by
  have h1 := h.hi
  have h2 := h.lo
  refine ⟨(Below.heap_setCell wr ⟨g, a, none⟩ _ _ (by simp only; omega)).trans h.d, (Below.heap_setCell wr ⟨g, a, none⟩ _ _ (by simp only; omega)).trans h.r, ?_, fun j => ?_, h.b.setCell (by simp only; omega) _, h2, by simpa using h1⟩
  · have := h.p.set_ (c := c) ha ho hl hl2
    simpa using this
  · rw [World.frozen?_setCell]; exact h.f j
theorem pend_at {w : World} {B : Nat} {A : Option Addr} {W : Ws} (h : Pend w B A W) {k : Nat} {n : Nat} (hk : k < W.length) (hn : ∀ p ∈ W, 0 ≤ p.1 ∧ p.1 < n) :
    ∃ (b o : Nat) (A' : Option Addr) (c a : Nat) (l : List UInt8), A = some ⟨b, o, none⟩ ∧ b < B ∧ W[k]? = some ((a : Int), l) ∧ a < n ∧ w.cell? ⟨b, o + k * 2, none⟩ = some (.int .i64 (a : Int)) ∧ w.cell? ⟨b, o + k * 2 + 1, none⟩ = some (.slice A' l.length c) ∧ Octs w B A' l ∧ l.length ≤ c ∧ l.length ≤ 140737488351232 := by
  obtain ⟨b, o, A', c, e, hb, hc, hd, ho, hl1, hl2, _, _⟩ := h k hk
  obtain ⟨h1, h2⟩ := hn _ (List.getElem_mem hk)
  refine ⟨b, o, A', c, W[k].1.toNat, W[k].2, e, hb, ?_, by omega, ?_, hd, ho, hl1, hl2⟩
  · rw [List.getElem?_eq_getElem hk, show ((W[k].1.toNat : Nat) : Int) = W[k].1 by omega]
  · rw [hc, show ((W[k].1.toNat : Nat) : Int) = W[k].1 by omega]
theorem done_drop {keep : Nat → Bool} {W : Ws} {k a : Nat} {l : List UInt8} (h : W[k]? = some ((a : Int), l)) (S : List (List UInt8)) :
    done keep k (W.drop k) S = done keep (k + 1) (W.drop (k + 1)) (if keep k then S.set a l else S) := by
  obtain ⟨hk, e⟩ := List.getElem?_eq_some_iff.1 h
  rw [List.drop_eq_getElem_cons hk, e]
  rfl

set_option maxHeartbeats 1600000 in
theorem do_all (A : Option Addr) (S : List (List UInt8)) (c : Nat) (A' : Option Addr) (W : Ws) (c' : Nat) (L : Int) (O : Bool) (w : World) (hs : Parts w w.heap.size A S) (hw : Pend w w.heap.size A' W) (h1 : 1 ≤ S.length) (h2 : S.length ≤ 4096)
    (hn : ∀ p ∈ W, 0 ≤ p.1 ∧ p.1 < S.length) (hm : W.length ≤ 1000000000) :
    Calls Try.prog 22 #[dv A S.length c A' W.length c' L O, .func (.func 28) #[] #[]] w fun e w' => ∃ g cap, e = .returned (dv (some ⟨g, 0, none⟩) S.length cap none 0 0 L O) ∧ w.heap.size ≤ g ∧ S.length ≤ cap ∧ Parts w' w'.heap.size (some ⟨g, 0, none⟩) (done (fun _ => true) 0 W S) ∧ Below w.heap.size w w' := by
  have HK : Hid (∀ (w' : World) (k : Nat), Below w.heap.size w w' → Calls Try.prog 28 #[.int .i64 k] w' fun e w'' => e = .returned (.bool ((fun _ => true) k)) ∧ w' = w'') := fun w' k hb => all_any k w'
  obtain ⟨keep, hkeep⟩ : ∃ keep : Nat → Bool, keep = (fun _ => true) := ⟨_, rfl⟩
  rw [← hkeep] at HK ⊢
  clear hkeep
  have HS : Hid (∀ w' : World, Below w.heap.size w w' → Calls Try.prog 34 #[.slice A S.length c] w' fun e w'' => ∃ g cap, e = .returned (.slice (some ⟨g, 0, none⟩) S.length cap) ∧ w'.heap.size ≤ g ∧ g < w''.heap.size ∧ S.length ≤ cap ∧ Parts w'' w''.heap.size (some ⟨g, 0, none⟩) S ∧
      (∀ j, w''.frozen? ⟨g, j, none⟩ = false) ∧ Below w'.heap.size w' w'') := fun w' hb => sclone_any A S c w' ((hs.below hb (Nat.le_refl _)).more hb.size) (by omega) h2
  have HW := Lib.hid hw
  have HN := Lib.hid hn
  clear hs hw hn
  have HB2 := Lib.hid (below2 w (.cells #[.slice A S.length c, .slice A' W.length c', .int .i64 L, .bool O] 25) (.cells #[.slice none 0 0, .slice none 0 0, .int .i64 0, .bool false] 25))
  go_enter Try.func22, Try.ntmps22
  go_wp2_with fail
  refine (HS.out _ HB2.out).mono ?_
  rintro e w1 ⟨g, cap, rfl, hg1, hg2, hcap, hp, hf, hb1⟩
  have hz2 : ((w.alloc (.cells #[.slice A S.length c, .slice A' W.length c', .int .i64 L, .bool O] 25)).alloc (.cells #[.slice none 0 0, .slice none 0 0, .int .i64 0, .bool false] 25)).heap.size = w.heap.size + 2 := by simp
  have e1 : w1.heap[w.heap.size]? = some (.cells #[.slice A S.length c, .slice A' W.length c', .int .i64 L, .bool O] 25 (0, 0)) := by
    rw [hb1.block _ (by rw [hz2]; omega), Below.heap_alloc _ _ _ (by simp)]
    exact heap_alloc_new w _
  have e2 : w1.heap[w.heap.size + 1]? = some (.cells #[.slice none 0 0, .slice none 0 0, .int .i64 0, .bool false] 25 (0, 0)) := by
    rw [hb1.block _ (by rw [hz2]; omega)]
    have := heap_alloc_new (w.alloc (.cells #[.slice A S.length c, .slice A' W.length c', .int .i64 L, .bool O] 25)) (.cells #[.slice none 0 0, .slice none 0 0, .int .i64 0, .bool false] 25)
    simpa using this
  rw [hz2] at hg1
  obtain ⟨k0, k1, k2, k3, kf⟩ := cells_of4 e1
  have HST : Hid (DoSt w g cap S.length S A' W.length c' L O (w1.setCell ⟨w.heap.size, 0, none⟩ (.slice (some ⟨g, 0, none⟩) S.length cap))) := by
    refine ⟨?_, (Below.heap_setCell w1 _ _ _ (by simp)).trans e2, ?_, fun j => ?_, (HB2.out.trans (hb1.mono HB2.out.size)).setCell (by simp) _, hg1, by simpa using hg2⟩
    · simp [World.setCell, Array.getElem?_modify, e1]
    · have := hp.moved (w' := w1.setCell ⟨w.heap.size, 0, none⟩ (.slice (some ⟨g, 0, none⟩) S.length cap)) (B := w1.heap.size)
      intro i hi
      obtain ⟨b, o, A1, c1, e, hb, hc, ho, hl⟩ := hp i hi
      refine ⟨b, o, A1, c1, e, by simpa using hb, (World.cell?_setCell_other w1 _ _ _ (fun e' => ?_)).trans hc, ?_, hl⟩
      · injection e with e
        injection e with e3 e4
        injection e' with e5 e6
        omega
      · have := ho.setSlice k0 (.slice (some ⟨g, 0, none⟩) S.length cap)
        simpa using this
    · rw [World.frozen?_setCell]; exact hf j
  clear e1 e2 hp hf hb1 hz2
  go_wp2_with fail
  obtain ⟨w2, hw2⟩ : ∃ w2, w2 = w1.setCell ⟨w.heap.size, 0, none⟩ (.slice (some ⟨g, 0, none⟩) S.length cap) := ⟨_, rfl⟩
  rw [← hw2] at HST ⊢
  clear hw2 k0 k1 k2 k3 kf
  go_loopw [14] (fun i wr => ∃ (k : Nat) (S' : List (List UInt8)), k ≤ W.length ∧ i = .int .i64 k ∧ Hid (S'.length = S.length) ∧ Hid (done keep k (W.drop k) S' = done keep 0 W S) ∧ DoSt w g cap S.length S' A' W.length c' L O wr) (fun i _ => W.length - (intOf i).toNat)
  case atStart => exact ⟨0, S, Nat.zero_le _, rfl, rfl, by show _ = _; simp, HST.out⟩
  case round =>
    obtain ⟨k, S', hk, rfl, HL, HR, hst⟩ := hrel
    have HD := Lib.hid hst
    obtain ⟨k0, k1, k2, k3, kf⟩ := cells_of4 hst.d
    have hlo := hst.lo
    have hhi := hst.hi
    have hfz := hst.f
    have hbel := hst.b
    clear hst
    by_cases hlt : k < W.length
    · obtain ⟨b, o, A1, c1, a, l, hA, hb, hat, han, hc, hd, ho, hl1, hl2⟩ := pend_at HW.out hlt HN.out
      have hc' := (hbel.cell (p := ⟨b, o + k * 2, none⟩) hb).trans hc
      have hd' := (hbel.cell (p := ⟨b, o + k * 2 + 1, none⟩) hb).trans hd
      have HO := Lib.hid ((ho.below hbel (Nat.le_refl _)).more hbel.size)
      have HDD := Lib.hid (done_drop (keep := keep) hat S')
      obtain ⟨bq, oq, Aq, cq, eq, hbq, hcq, _⟩ := HD.out.p a (by have := HL.out; omega)
      injection eq with eq
      injection eq with eq1 eq2
      subst eq1
      subst eq2
      rw [Nat.zero_add] at hcq
      have ha1 : (a : Int) < S.length := by omega
      have HB := Lib.hid hbel
      have HA := Lib.hid hA
      subst hA
      clear hc hd ho hat hbel hbq
      have hK := Lib.hid (HK.out (wr.alloc (.cells #[.int .i64 a, .slice A1 l.length c1] 40)) k (HB.out.alloc HB.out.size _))
      have hsz := HB.out.size
      have hxx : w.heap.size < wr.heap.size := by omega
      have q0 := (World.cell?_alloc_lt wr (.cells #[.int .i64 a, .slice A1 l.length c1] 40) ⟨w.heap.size, 0, none⟩ hxx).trans k0
      have q5 := (World.cell?_alloc_lt wr (.cells #[.int .i64 a, .slice A1 l.length c1] 40) ⟨g, a, none⟩ hhi).trans hcq
      have q6 : (wr.alloc (.cells #[.int .i64 a, .slice A1 l.length c1] 40)).frozen? ⟨g, a, none⟩ = false := (((Below.refl wr.heap.size wr).alloc (Nat.le_refl _) _).frozen (p := ⟨g, a, none⟩) hhi).trans (hfz a)
      cases hkk : keep k with
      | true =>
        rw [hkk] at hK HDD
        clear hkk
        go_wp2_with fail
        refine (hK.out).mono ?_
        rintro e w' ⟨rfl, rfl⟩
        go_wp2_with fail
        go_roundw
        case rel =>
          refine ⟨k + 1, S'.set a l, by omega, by go_num, by show _ = _; rw [List.length_set]; exact HL.out, ?_, ?_⟩
          · show _ = _
            rw [← HR.out, HDD.out]; rfl
          · have h3 := (HD.out.keep (c := c1) (a := a) (l := l) (A1 := A1) (by have := HL.out; omega) HO.out hl1 hl2).skip (.cells #[.int .i64 a, .slice A1 l.length c1] 40)
            exact h3
        case measure => simp [intOf]; omega
      | false =>
        rw [hkk] at hK HDD
        clear hkk
        go_wp2_with fail
        refine (hK.out).mono ?_
        rintro e w' ⟨rfl, rfl⟩
        go_wp2_with fail
        go_roundw
        case rel =>
          refine ⟨k + 1, S', by omega, by go_num, HL.out, ?_, HD.out.skip _⟩
          show _ = _
          rw [← HR.out, HDD.out]; rfl
        case measure => simp [intOf]; omega
    · obtain rfl : k = W.length := by omega
      obtain ⟨r0, r1, r2, r3, rf⟩ := cells_of4 HD.out.r
      have HB := Lib.hid hbel
      clear hbel
      go_wp2_with fail
      refine bodyPost_ret (v := dv (some ⟨g, 0, none⟩) S.length cap none 0 0 L O) (by simp [results, Try.results22, go_sem, r0, r1, r2, r3]) rfl ⟨g, cap, rfl, by omega, hcap, ?_, ?_⟩
      · have hp := HD.out.p
        have hS : S' = done keep 0 W S := by
          rw [← HR.out, List.drop_length]; rfl
        rw [← hS]
        have p1 := hp.setFar k1 (fun x h => by cases h) (by simp only; omega) (.slice none 0 0)
        have e2 : (wr.setCell ⟨w.heap.size, 1, none⟩ (.slice none 0 0)).heap[w.heap.size + 1]? = _ := (Below.heap_setCell wr _ _ _ (by simp)).trans HD.out.r
        have p5 := p1.st4 e2 (by omega) (fun x h => by cases h) (fun x h => by cases h) (fun x h => by cases h) (fun x h => by cases h) (.slice (some ⟨g, 0, none⟩) S.length cap) (.slice none 0 0) (.int .i64 L) (.bool O)
        simpa using p5
      · exact (((((HB.out.setCell (by simp) _).setCell (by simp) _).setCell (by simp) _).setCell (by simp) _).setCell (by simp) _)

set_option maxHeartbeats 1600000 in
theorem do_some (A : Option Addr) (S : List (List UInt8)) (c : Nat) (A' : Option Addr) (W : Ws) (c' : Nat) (L : Int) (O : Bool) (gk ck : Nat) (K : List Bool) (AK : Option Addr) (w : World) (hs : Parts w w.heap.size A S) (hw : Pend w w.heap.size A' W) (h1 : 1 ≤ S.length) (h2 : S.length ≤ 4096)
    (hn : ∀ p ∈ W, 0 ≤ p.1 ∧ p.1 < S.length) (hm : W.length ≤ 1000000000) (hgk : gk < w.heap.size) (hck : w.cell? ⟨gk, 0, none⟩ = some (.slice AK K.length ck)) (hK : Bools w w.heap.size AK K) :
    Calls Try.prog 22 #[dv A S.length c A' W.length c' L O, .func (.func 23) #[] #[.pointer (some ⟨gk, 0, none⟩)]] w fun e w' => ∃ g cap, e = .returned (dv (some ⟨g, 0, none⟩) S.length cap none 0 0 L O) ∧ w.heap.size ≤ g ∧ S.length ≤ cap ∧ Parts w' w'.heap.size (some ⟨g, 0, none⟩) (done (keepB K) 0 W S) ∧ Below w.heap.size w w' := by
  have HK : Hid (∀ (w' : World) (k : Nat), Below w.heap.size w w' → Calls Try.prog 23 #[.int .i64 k, .pointer (some ⟨gk, 0, none⟩)] w' fun e w'' => e = .returned (.bool ((keepB K) k)) ∧ w' = w'') := fun w' k hb => kept_any gk w'.heap.size AK K ck k w' ((hb.cell (p := ⟨gk, 0, none⟩) hgk).trans hck) ((hK.below hb (Nat.le_refl _)).more hb.size)
  obtain ⟨keep, hkeep⟩ : ∃ keep : Nat → Bool, keep = (keepB K) := ⟨_, rfl⟩
  rw [← hkeep] at HK ⊢
  clear hkeep
  have HS : Hid (∀ w' : World, Below w.heap.size w w' → Calls Try.prog 34 #[.slice A S.length c] w' fun e w'' => ∃ g cap, e = .returned (.slice (some ⟨g, 0, none⟩) S.length cap) ∧ w'.heap.size ≤ g ∧ g < w''.heap.size ∧ S.length ≤ cap ∧ Parts w'' w''.heap.size (some ⟨g, 0, none⟩) S ∧
      (∀ j, w''.frozen? ⟨g, j, none⟩ = false) ∧ Below w'.heap.size w' w'') := fun w' hb => sclone_any A S c w' ((hs.below hb (Nat.le_refl _)).more hb.size) (by omega) h2
  have HW := Lib.hid hw
  have HN := Lib.hid hn
  clear hs hw hn hgk hck hK
  have HB2 := Lib.hid (below2 w (.cells #[.slice A S.length c, .slice A' W.length c', .int .i64 L, .bool O] 25) (.cells #[.slice none 0 0, .slice none 0 0, .int .i64 0, .bool false] 25))
  go_enter Try.func22, Try.ntmps22
  go_wp2_with fail
  refine (HS.out _ HB2.out).mono ?_
  rintro e w1 ⟨g, cap, rfl, hg1, hg2, hcap, hp, hf, hb1⟩
  have hz2 : ((w.alloc (.cells #[.slice A S.length c, .slice A' W.length c', .int .i64 L, .bool O] 25)).alloc (.cells #[.slice none 0 0, .slice none 0 0, .int .i64 0, .bool false] 25)).heap.size = w.heap.size + 2 := by simp
  have e1 : w1.heap[w.heap.size]? = some (.cells #[.slice A S.length c, .slice A' W.length c', .int .i64 L, .bool O] 25 (0, 0)) := by
    rw [hb1.block _ (by rw [hz2]; omega), Below.heap_alloc _ _ _ (by simp)]
    exact heap_alloc_new w _
  have e2 : w1.heap[w.heap.size + 1]? = some (.cells #[.slice none 0 0, .slice none 0 0, .int .i64 0, .bool false] 25 (0, 0)) := by
    rw [hb1.block _ (by rw [hz2]; omega)]
    have := heap_alloc_new (w.alloc (.cells #[.slice A S.length c, .slice A' W.length c', .int .i64 L, .bool O] 25)) (.cells #[.slice none 0 0, .slice none 0 0, .int .i64 0, .bool false] 25)
    simpa using this
  rw [hz2] at hg1
  obtain ⟨k0, k1, k2, k3, kf⟩ := cells_of4 e1
  have HST : Hid (DoSt w g cap S.length S A' W.length c' L O (w1.setCell ⟨w.heap.size, 0, none⟩ (.slice (some ⟨g, 0, none⟩) S.length cap))) := by
    refine ⟨?_, (Below.heap_setCell w1 _ _ _ (by simp)).trans e2, ?_, fun j => ?_, (HB2.out.trans (hb1.mono HB2.out.size)).setCell (by simp) _, hg1, by simpa using hg2⟩
    · simp [World.setCell, Array.getElem?_modify, e1]
    · have := hp.moved (w' := w1.setCell ⟨w.heap.size, 0, none⟩ (.slice (some ⟨g, 0, none⟩) S.length cap)) (B := w1.heap.size)
      intro i hi
      obtain ⟨b, o, A1, c1, e, hb, hc, ho, hl⟩ := hp i hi
      refine ⟨b, o, A1, c1, e, by simpa using hb, (World.cell?_setCell_other w1 _ _ _ (fun e' => ?_)).trans hc, ?_, hl⟩
      · injection e with e
        injection e with e3 e4
        injection e' with e5 e6
        omega
      · have := ho.setSlice k0 (.slice (some ⟨g, 0, none⟩) S.length cap)
        simpa using this
    · rw [World.frozen?_setCell]; exact hf j
  clear e1 e2 hp hf hb1 hz2
  go_wp2_with fail
  obtain ⟨w2, hw2⟩ : ∃ w2, w2 = w1.setCell ⟨w.heap.size, 0, none⟩ (.slice (some ⟨g, 0, none⟩) S.length cap) := ⟨_, rfl⟩
  rw [← hw2] at HST ⊢
  clear hw2 k0 k1 k2 k3 kf
  go_loopw [14] (fun i wr => ∃ (k : Nat) (S' : List (List UInt8)), k ≤ W.length ∧ i = .int .i64 k ∧ Hid (S'.length = S.length) ∧ Hid (done keep k (W.drop k) S' = done keep 0 W S) ∧ DoSt w g cap S.length S' A' W.length c' L O wr) (fun i _ => W.length - (intOf i).toNat)
  case atStart => exact ⟨0, S, Nat.zero_le _, rfl, rfl, by show _ = _; simp, HST.out⟩
  case round =>
    obtain ⟨k, S', hk, rfl, HL, HR, hst⟩ := hrel
    have HD := Lib.hid hst
    obtain ⟨k0, k1, k2, k3, kf⟩ := cells_of4 hst.d
    have hlo := hst.lo
    have hhi := hst.hi
    have hfz := hst.f
    have hbel := hst.b
    clear hst
    by_cases hlt : k < W.length
    · obtain ⟨b, o, A1, c1, a, l, hA, hb, hat, han, hc, hd, ho, hl1, hl2⟩ := pend_at HW.out hlt HN.out
      have hc' := (hbel.cell (p := ⟨b, o + k * 2, none⟩) hb).trans hc
      have hd' := (hbel.cell (p := ⟨b, o + k * 2 + 1, none⟩) hb).trans hd
      have HO := Lib.hid ((ho.below hbel (Nat.le_refl _)).more hbel.size)
      have HDD := Lib.hid (done_drop (keep := keep) hat S')
      obtain ⟨bq, oq, Aq, cq, eq, hbq, hcq, _⟩ := HD.out.p a (by have := HL.out; omega)
      injection eq with eq
      injection eq with eq1 eq2
      subst eq1
      subst eq2
      rw [Nat.zero_add] at hcq
      have ha1 : (a : Int) < S.length := by omega
      have HB := Lib.hid hbel
      have HA := Lib.hid hA
      subst hA
      clear hc hd ho hat hbel hbq
      have hK := Lib.hid (HK.out (wr.alloc (.cells #[.int .i64 a, .slice A1 l.length c1] 40)) k (HB.out.alloc HB.out.size _))
      have hsz := HB.out.size
      have hxx : w.heap.size < wr.heap.size := by omega
      have q0 := (World.cell?_alloc_lt wr (.cells #[.int .i64 a, .slice A1 l.length c1] 40) ⟨w.heap.size, 0, none⟩ hxx).trans k0
      have q5 := (World.cell?_alloc_lt wr (.cells #[.int .i64 a, .slice A1 l.length c1] 40) ⟨g, a, none⟩ hhi).trans hcq
      have q6 : (wr.alloc (.cells #[.int .i64 a, .slice A1 l.length c1] 40)).frozen? ⟨g, a, none⟩ = false := (((Below.refl wr.heap.size wr).alloc (Nat.le_refl _) _).frozen (p := ⟨g, a, none⟩) hhi).trans (hfz a)
      cases hkk : keep k with
      | true =>
        rw [hkk] at hK HDD
        clear hkk
        go_wp2_with fail
        refine (hK.out).mono ?_
        rintro e w' ⟨rfl, rfl⟩
        go_wp2_with fail
        go_roundw
        case rel =>
          refine ⟨k + 1, S'.set a l, by omega, by go_num, by show _ = _; rw [List.length_set]; exact HL.out, ?_, ?_⟩
          · show _ = _
            rw [← HR.out, HDD.out]; rfl
          · have h3 := (HD.out.keep (c := c1) (a := a) (l := l) (A1 := A1) (by have := HL.out; omega) HO.out hl1 hl2).skip (.cells #[.int .i64 a, .slice A1 l.length c1] 40)
            exact h3
        case measure => simp [intOf]; omega
      | false =>
        rw [hkk] at hK HDD
        clear hkk
        go_wp2_with fail
        refine (hK.out).mono ?_
        rintro e w' ⟨rfl, rfl⟩
        go_wp2_with fail
        go_roundw
        case rel =>
          refine ⟨k + 1, S', by omega, by go_num, HL.out, ?_, HD.out.skip _⟩
          show _ = _
          rw [← HR.out, HDD.out]; rfl
        case measure => simp [intOf]; omega
    · obtain rfl : k = W.length := by omega
      obtain ⟨r0, r1, r2, r3, rf⟩ := cells_of4 HD.out.r
      have HB := Lib.hid hbel
      clear hbel
      go_wp2_with fail
      refine bodyPost_ret (v := dv (some ⟨g, 0, none⟩) S.length cap none 0 0 L O) (by simp [results, Try.results22, go_sem, r0, r1, r2, r3]) rfl ⟨g, cap, rfl, by omega, hcap, ?_, ?_⟩
      · have hp := HD.out.p
        have hS : S' = done keep 0 W S := by
          rw [← HR.out, List.drop_length]; rfl
        rw [← hS]
        have p1 := hp.setFar k1 (fun x h => by cases h) (by simp only; omega) (.slice none 0 0)
        have e2 : (wr.setCell ⟨w.heap.size, 1, none⟩ (.slice none 0 0)).heap[w.heap.size + 1]? = _ := (Below.heap_setCell wr _ _ _ (by simp)).trans HD.out.r
        have p5 := p1.st4 e2 (by omega) (fun x h => by cases h) (fun x h => by cases h) (fun x h => by cases h) (fun x h => by cases h) (.slice (some ⟨g, 0, none⟩) S.length cap) (.slice none 0 0) (.int .i64 L) (.bool O)
        simpa using p5
      · exact (((((HB.out.setCell (by simp) _).setCell (by simp) _).setCell (by simp) _).setCell (by simp) _).setCell (by simp) _)
end Go.Proofs.Ytopklkkhddpglaa
