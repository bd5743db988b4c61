/- What each law on one posting walks first: a book and an entry of which no more is looked at than may be. Conditions: none. -/
import Derived.Test.YtejdhemnlcbffaaDoorB16
namespace Go.Proofs.YtejdhemnlcbffaaDoor.Bok
open Go.RowKit Cht Ent
open Mny (Fits)

/-- A book that came in. -/
structure RdB (w : World) (A : Option Addr) (l : List Ln) (m c : Nat) : Prop where
  lns : Lns w w.heap.size A l
  len : l.length = m
  cap : m ≤ c
  big : c ≤ 9223372036854775807
  fit : ∀ x ∈ l, (-9223372036854775808 ≤ x.k ∧ x.k ≤ 9223372036854775807) ∧ x.s.size ≤ 9223372036854775807 ∧ Fits x.n
/-- What is known behind the two cuts. -/
structure Pre (w : World) (b : Int) (r1 : ByteArray) (L : List Ln) (k : Int) (s : ByteArray) (M : List Ln) (A1 : Option Addr) (n1 : Nat) (Ab : Option Addr) (nb : Nat) (W : World) : Prop where
  x : BoxE w.heap.size b r1 A1 L.length n1 W
  y : BoxA (w.heap.size + 1) k s W
  lx : Lns W W.heap.size A1 L
  lb : Lns W W.heap.size Ab M
  cx : L.length ≤ n1
  cb : M.length ≤ nb
  bel : Below w.heap.size w W
  sz : w.heap.size + 2 ≤ W.heap.size
theorem Pre.next {w : World} {b k : Int} {r1 s : ByteArray} {L M : List Ln} {A1 Ab : Option Addr} {n1 nb : Nat} {W W' : World} (h : Pre w b r1 L k s M A1 n1 Ab nb W) (hb : Below W.heap.size W W') : Pre w b r1 L k s M A1 n1 Ab nb W' := by
  have h2 := h.sz
  exact ⟨h.x.below hb (by omega), h.y.below hb (by omega), h.lx.next hb, h.lb.next hb, h.cx, h.cb, h.bel.trans (hb.mono h.bel.size), Nat.le_trans h2 hb.size⟩
/-- The store. -/
theorem pre_made {w W : World} {b k : Int} {r r1 s : ByteArray} {A A1 Ab : Option Addr} {m c n1 nb : Nat} {L M : List Ln} {B : Nat} (hB : w.heap.size + 2 ≤ B) (hx : BoxE w.heap.size b r A m c W) (hy : BoxA (w.heap.size + 1) k s W)
    (ox : W.ownsRow B 44 3 (.slice A1 L.length n1) L.length (lcs L)) (ob : W.ownsRow B 51 3 (.slice Ab M.length nb) M.length (lcs M)) (cx : L.length ≤ n1) (cb : M.length ≤ nb) (bel : Below w.heap.size w W) (sz : w.heap.size + 2 ≤ W.heap.size) :
    Pre w b r1 L k s M A1 n1 Ab nb (((W.setCell ⟨w.heap.size, 0, none⟩ (.int .i64 b)).setCell ⟨w.heap.size, 1, none⟩ (.string r1)).setCell ⟨w.heap.size, 2, none⟩ (.slice A1 L.length n1)) := by
  have o3 : ∀ {e k n : Nat} {v : Value} {xs : List Value} (h : W.ownsRow B e k v n xs) (p1 p2 p3 : Addr) (u1 u2 u3 : Value), p1.block < B → p2.block < B → p3.block < B →
      (((W.setCell p1 u1).setCell p2 u2).setCell p3 u3).ownsRow B e k v n xs := fun h p1 p2 p3 u1 u2 u3 h1 h2 h3 =>
    own_set (own_set (own_set h _ _ h1) _ _ h2) _ _ h3
  refine ⟨three_set hx, ?_, lns_of (o3 ox _ _ _ _ _ _ (by simp only; omega) (by simp only; omega) (by simp only; omega)) rfl, own_lns (o3 ob _ _ _ _ _ _ (by simp only; omega) (by simp only; omega) (by simp only; omega)) rfl, cx, cb, ((bel.setCell (by simp) _).setCell (by simp) _).setCell (by simp) _, by simp only [size_setCell]; exact sz⟩
  exact (Below.heap_setCell _ _ _ _ (by simp)).trans ((Below.heap_setCell _ _ _ _ (by simp)).trans ((Below.heap_setCell _ _ _ _ (by simp)).trans hy))
theorem BoxA.set1 {g : Nat} {k : Int} {s : ByteArray} {w : World} (h : BoxA g k s w) (t : ByteArray) : BoxA g k t (w.setCell ⟨g, 1, none⟩ (.string t)) := by
  unfold BoxA at *
  simp [World.setCell, Array.getElem?_modify, h]
/-- The account is cut, too. -/
theorem Pre.cut {w : World} {b k : Int} {r1 s : ByteArray} {L M : List Ln} {A1 Ab : Option Addr} {n1 nb : Nat} {W : World} {B : Nat} (h : Pre w b r1 L k s M A1 n1 Ab nb W) (hB : w.heap.size + 2 ≤ B)
    (ox : W.ownsRow B 44 3 (.slice A1 L.length n1) L.length (lcs L)) (ob : W.ownsRow B 51 3 (.slice Ab M.length nb) M.length (lcs M)) (t : ByteArray) : Pre w b r1 L k t M A1 n1 Ab nb (W.setCell ⟨w.heap.size + 1, 1, none⟩ (.string t)) := by
  refine ⟨(Below.heap_setCell _ _ _ _ (by simp)).trans h.x, BoxA.set1 h.y t, lns_of (own_set ox _ _ (by simp only; omega)) rfl, own_lns (own_set ob _ _ (by simp only; omega)) rfl, h.cx, h.cb, h.bel.setCell (by simp) _, by simp only [size_setCell]; exact h.sz⟩
theorem few_at (w : World) (B : Nat) (A : Option Addr) (l : List Ln) (m c : Nat) (h : RdB w A l m c) {w0 : World} (hb0 : Below w.heap.size w w0) (hB : B ≤ w0.heap.size) : ∀ W, Below w0.heap.size w0 W → Calls Tryd.prog 7 #[.slice A m c] W fun e w' => ∃ Ab nb, e = .returned (.slice Ab (fewB l).length nb) ∧ w'.ownsRow B 51 3 (.slice Ab (fewB l).length nb) (fewB l).length (lcs (fewB l)) ∧ (fewB l).length ≤ nb ∧ Below W.heap.size W w' := fun W hW => by
  refine (fewB_any A l m c W ((h.lns.next hb0).next hW) h.len h.cap (fun x hx => (h.fit x hx).2.1)).mono ?_
  rintro e w' ⟨v, rfl, ho, hb⟩
  obtain ⟨Ab, nb, rfl, hc⟩ := own_sl ho
  exact ⟨Ab, nb, rfl, own_mono ho (Nat.le_trans hB hW.size), hc, hb⟩
theorem fewx_at (w : World) (B : Nat) (b : Int) (r : ByteArray) (A : Option Addr) (l : List Ln) (m c : Nat) (h : RdE w r A l m c) {w0 : World} (hb0 : Below w.heap.size w w0) (hB : B ≤ w0.heap.size) : ∀ W, Below w0.heap.size w0 W → Calls Tryd.prog 8 #[.agg #[.int .i64 b, .string r, .slice A m c]] W fun e w' => ∃ A1 n1, e = .returned (.agg #[.int .i64 b, .string (cutS 25 r), .slice A1 (fewL l).length n1]) ∧ w'.ownsRow B 44 3 (.slice A1 (fewL l).length n1) (fewL l).length (lcs (fewL l)) ∧ (fewL l).length ≤ n1 ∧ Below W.heap.size W w' := fun W hW => by
  refine (few_any b r A l m c W ((h.lns.next hb0).next hW) h.len h.cap h.big h.ref (fun x hx => (h.fit x hx).2.1)).mono ?_
  rintro e w' ⟨A1, c1, rfl, ho, hc, hb⟩
  exact ⟨A1, c1, rfl, own_mono ho (by have := hW.size; omega), hc, hb⟩
/-- What posting one entry answers, as a slice. -/
theorem post1_two (l xs : List Ln) (b : Int) (r : ByteArray) : (post1 l b r xs).1 ≠ 0 → (post1 l b r xs).2 = [] := fun h => by
  unfold post1 at *
  rw [postsL_one] at *
  split at h
  · rename_i h1
    rw [if_pos h1]
    split at h
    · exact absurd rfl h
    · rename_i h2
      rw [if_neg h2]
  · rename_i h1
    rw [if_neg h1]
theorem post1_in {l xs : List Ln} {b : Int} {r : ByteArray} (h : (post1 l b r xs).1 = 0) : mayB l = true ∧ (postL l b r xs).1 = 0 ∧ (post1 l b r xs).2 = (postL l b r xs).2 := by
  unfold post1 at *
  rw [postsL_one] at *
  split at h
  · rename_i h1
    rw [if_pos h1]
    split at h
    · rename_i h2
      rw [if_pos h2]
      exact ⟨h1, h2, rfl⟩
    · rename_i h2
      exact absurd h h2
  · exact absurd h (by decide)
theorem post1_len (l xs : List Ln) (b : Int) (r : ByteArray) : (post1 l b r xs).2.length ≤ 200 := by
  by_cases h : (post1 l b r xs).1 = 0
  · obtain ⟨-, h2, h3⟩ := post1_in h
    rw [h3]
    exact (postL_in h2).2.2
  · rw [post1_two l xs b r h]; simp
theorem posted_sl {base : Nat} {l xs : List Ln} {b : Int} {r : ByteArray} {w w' : World} {e : Ending} (h : Posted base (post1 l b r xs) w e w') :
    ∃ A n, e = .returned (.tuple #[.slice A (post1 l b r xs).2.length n, .int .i64 (post1 l b r xs).1]) ∧ w'.ownsRow base 51 3 (.slice A (post1 l b r xs).2.length n) (post1 l b r xs).2.length (lcs (post1 l b r xs).2) ∧ (post1 l b r xs).2.length ≤ n ∧ Below base w w' := by
  obtain ⟨h1, hb⟩ := h
  rcases h1 with ⟨h0, v', rfl, ho⟩ | ⟨h0, rfl⟩
  · obtain ⟨A, n, rfl, hn⟩ := own_sl ho
    exact ⟨A, n, by rw [h0], ho, hn, hb⟩
  · rw [post1_two l xs b r h0]
    exact ⟨none, 0, rfl, World.ownsRow_nil _ _ _ _, Nat.le_refl _, hb⟩
theorem drewB1 {B : Nat} {a w : World} (h : Below B a w) : Below B a w.drew := drewB h 1
end Go.Proofs.YtejdhemnlcbffaaDoor.Bok
