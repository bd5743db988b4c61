/- A disk of the call's own into which sectors are set. -/
import Derived.Test.YtjcgggheablpeaaW18
namespace Go.Proofs.Ytjcgggheablpeaa.Wal
open Go.RowKit Dis Dis.Dk

/-- What the first loop keeps: a disk of the call's own, whose first three sectors are as they were. -/
structure FI (w0 : World) (g5 g : Nat) (S : List (List UInt8)) (wr : World) : Prop where
  box : wr.heap[g5]? = some (qo (some ⟨g, 0, none⟩) 20)
  ok : Okd wr (qv (some ⟨g, 0, none⟩) 20) ⟨S, [], -1, false⟩
  fz : ∀ j, wr.frozen? ⟨g, j, none⟩ = false
  lb : wr.heap[g5 + 1]? = some (lgo 2 16 0 1)
  b : Below w0.heap.size w0 wr
  q : Q20 ⟨S, [], -1, false⟩
  top : S.take 3 = (newD 20).S.take 3
theorem FI.below {w0 wr w' : World} {g5 g : Nat} {S : List (List UInt8)} (h : FI w0 g5 g S wr) (hg : g < wr.heap.size) (hb : Below wr.heap.size wr w') : FI w0 g5 g S w' :=
  ⟨box_at h.box hb, h.ok.below hb, fun j => (hb.frozen (p := ⟨g, j, none⟩) hg).trans (h.fz j), box_at h.lb hb, h.b.trans (hb.mono h.b.size), h.q, h.top⟩
theorem FI.lt {w0 wr : World} {g5 g : Nat} {S : List (List UInt8)} (h : FI w0 g5 g S wr) : g < wr.heap.size := by
  obtain ⟨A, c, A', c', e, hd, _⟩ := h.ok
  have hs : 0 < S.length := by rw [show S.length = 20 from h.q.s]; decide
  obtain ⟨b9, o9, _, _, e9, h9, _⟩ := hd.s 0 hs
  injection e with e
  injection e with e
  injection e with e0 _
  injection e0 with e1
  rw [e9] at e1
  cases e1
  exact h9
theorem FI.cell {w0 wr : World} {g5 g : Nat} {S : List (List UInt8)} (h : FI w0 g5 g S wr) (j : Nat) (hj : j < 20) : ∃ u, wr.cell? ⟨g, j, none⟩ = some u := by
  obtain ⟨A, c, A', c', e, hd, _⟩ := h.ok
  have hs : j < S.length := by rw [show S.length = 20 from h.q.s]; exact hj
  obtain ⟨b9, o9, _, _, e9, _, h9, _⟩ := hd.s j hs
  injection e with e
  injection e with e
  injection e with e0 _
  injection e0 with e1
  rw [e9] at e1
  cases e1
  rw [Nat.zero_add] at h9
  exact ⟨_, h9⟩
theorem q20_setL {S : List (List UInt8)} (h : Q20 ⟨S, [], -1, false⟩) (i : Nat) (l : List UInt8) (hl : l.length = 64) : Q20 ⟨S.set i l, [], -1, false⟩ := by
  have hm := (may_iff _ _ _).1 h.f.may
  refine ⟨⟨rfl, rfl⟩, rfl, by simp; exact h.s, ⟨(may_iff _ _ _).2 ⟨by simpa using hm.1, by simpa using hm.2.1, by simp, fun b hb => ?_, fun p hp => by cases hp⟩, Nat.le_refl _, by simp, by simpa using h.f.two⟩⟩
  rcases List.mem_or_eq_of_mem_set hb with h1 | rfl
  · exact hm.2.2.2.1 b h1
  · exact hl
theorem FI.put {w0 W : World} {g5 g i : Nat} {S : List (List UInt8)} (h : FI w0 g5 g S W) (hg : g < g5) (hg0 : w0.heap.size ≤ g) (hi : i < 14) {A' : Option Addr} {c' : Nat} {ly : List UInt8} (ho : Octs W W.heap.size A' ly) (hc : 64 ≤ c') (hl : ly.length = 64) : FI w0 g5 g (S.set (3 + i) ly) (W.setCell ⟨g, 3 + i, none⟩ (.slice A' 64 c')) := by
  have hs : S.length = 20 := h.q.s
  have hp := okd_part h.ok ⟨rfl, rfl⟩ (i := 3 + i) (by show 3 + i < S.length; omega) (l := ly) ho (by rw [hl]; exact hc) (by rw [hl]; decide)
  rw [hl] at hp
  exact ⟨(Below.heap_setCell _ _ _ _ (by show g5 ≠ g; omega)).trans h.box, hp, fun j => by simpa using h.fz j, (Below.heap_setCell _ _ _ _ (by show g5 + 1 ≠ g; omega)).trans h.lb, h.b.setCell (by simpa using hg0) _, q20_setL h.q _ _ hl, by rw [List.take_set_of_le (by omega)]; exact h.top⟩
end Go.Proofs.Ytjcgggheablpeaa.Wal
