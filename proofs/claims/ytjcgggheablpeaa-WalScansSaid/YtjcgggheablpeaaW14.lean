/- Rows of logs of the call's own; boxes that have a quiet disk; what loops over appends keep. -/
import Derived.Test.YtjcgggheablpeaaW13
import Derived.Test.YtjcgggheablpeaaWRow
namespace Go.Proofs.Ytjcgggheablpeaa.Wal
open Go.RowKit Dis Dis.Dk

theorem info27 : (Try.prog.info? 27).map (fun i => (i.zero, i.size, i.bytes)) = some (some (.agg #[.int .i64 0, .int .i64 0, .int .i64 0, .int .i64 0]), 4, 32) := by kernel_rfl
/-- Where records of a log of 16 sectors from the third one on begin, and by which number. -/
abbrev Ats := List (Nat × Nat)
def LgXs (xs : List Value) (ats : Ats) : Prop := xs.length = ats.length * 4 ∧ ∀ i, (h : i < ats.length) → xs[i * 4]? = some (.int .i64 2) ∧ xs[i * 4 + 1]? = some (.int .i64 16) ∧ xs[i * 4 + 2]? = some (.int .i64 (ats[i].1 : Int)) ∧ xs[i * 4 + 3]? = some (.int .i64 (ats[i].2 : Int))
def LgRow (w : World) (base : Nat) (v : Value) (ats : Ats) : Prop := ∃ xs, w.ownsRow base 27 4 v ats.length xs ∧ LgXs xs ats ∧ AllPc w 4 v PcL
theorem lgRow_nil (w : World) (base : Nat) : LgRow w base (.slice none 0 0) [] := ⟨[], ⟨rfl, .inl ⟨rfl, rfl⟩⟩, ⟨rfl, fun i h => by cases h⟩, fun g cs T fr e => by simp [Value.ownBlock] at e⟩
theorem LgRow.below {w w' : World} {base : Nat} {v : Value} {ats : Ats} (h : LgRow w base v ats) (hb : Below w.heap.size w w') : LgRow w' base v ats := by
  obtain ⟨xs, h1, h2, h3⟩ := h
  exact ⟨xs, row_below h1 hb (Nat.le_refl _), h2, allPc_below h3 (fun g e => (h1.lt g e).2) hb⟩
theorem LgRow.st4 {w : World} {base : Nat} {v : Value} {ats : Ats} (h : LgRow w base v ats) {g : Nat} (a b c d : Value) (h1 : g < base) : LgRow (st4 w g a b c d) base v ats := by
  obtain ⟨xs, q1, q2, q3⟩ := h
  exact ⟨xs, row_set (row_set (row_set (row_set q1 _ _ h1) _ _ h1) _ _ h1) _ _ h1, q2, allPc_far q3 fun g' e => st4_far _ _ _ _ _ (by have := (q1.lt g' e).1; omega)⟩
theorem LgRow.lt {w : World} {base : Nat} {v : Value} {ats : Ats} (h : LgRow w base v ats) {g : Nat} (e : v.ownBlock = some g) : base ≤ g ∧ g < w.heap.size := by
  obtain ⟨xs, h1, _⟩ := h
  exact h1.lt g e
theorem LgRow.mute {w : World} {base : Nat} {v : Value} {ats : Ats} (h : LgRow w base v ats) : Mute w v.ownBlock := by
  obtain ⟨xs, h1, _, h3⟩ := h
  exact mute_of h1 (.inl h3)
theorem LgRow.form {w : World} {base : Nat} {v : Value} {ats : Ats} (h : LgRow w base v ats) : ∃ A c, v = .slice A ats.length c ∧ ats.length ≤ c ∧ c ≤ 9223372036854775807 := by
  obtain ⟨xs, h1, h2, _⟩ := h
  rcases h1.2 with ⟨rfl, h0⟩ | ⟨g, cap, cur, rfl, _, _, hc, hm, _⟩
  · exact ⟨none, 0, by rw [h0], by omega, by decide⟩
  · exact ⟨_, cap, rfl, hc, by simpa only [maxLen] using hm⟩
theorem LgRow.at_ {w : World} {base n c : Nat} {A : Option Addr} {ats : Ats} (h : LgRow w base (.slice A n c) ats) {i : Nat} (hi : i < ats.length) : ∃ g, A = some ⟨g, 0, none⟩ ∧ g < w.heap.size ∧ w.cell? ⟨g, i * 4, none⟩ = some (.int .i64 2) ∧ w.cell? ⟨g, i * 4 + 1, none⟩ = some (.int .i64 16) ∧ w.cell? ⟨g, i * 4 + 2, none⟩ = some (.int .i64 (ats[i].1 : Int)) ∧ w.cell? ⟨g, i * 4 + 3, none⟩ = some (.int .i64 (ats[i].2 : Int)) := by
  obtain ⟨xs, h1, h2, _⟩ := h
  obtain ⟨g, cap, e, _, hg⟩ := h1.form (by omega)
  injection e with e1 e2 e3
  subst e1
  obtain ⟨q0, q1, q2, q3⟩ := h2.2 i hi
  have k := fun j u (hu : xs[j]? = some u) => h1.cells (g := g) rfl j u hu
  have k0 := k _ _ q0
  have k1 := k _ _ q1
  have k2 := k _ _ q2
  have k3 := k _ _ q3
  rw [Addr.add_lit] at k0 k1 k2 k3
  simp only [Nat.zero_add] at k0 k1 k2 k3
  exact ⟨g, rfl, hg, k0, k1, k2, k3⟩
theorem LgRow.snoc {w : World} {base : Nat} {v : Value} {ats : Ats} (h : LgRow w base v ats) (g : Nat) (a x : Nat) (h0 : w.cell? ⟨g, 0, none⟩ = some (.int .i64 2)) (h1 : w.cell? ⟨g, 1, none⟩ = some (.int .i64 16)) (h2 : w.cell? ⟨g, 2, none⟩ = some (.int .i64 (a : Int))) (h3 : w.cell? ⟨g, 3, none⟩ = some (.int .i64 (x : Int))) (hn : ats.length ≤ 1000000) (hb : base ≤ w.heap.size) :
    ∃ v' w', (Builtin.append_ #[56, 56] 56 #[v, .slice (some ⟨g, 0, none⟩) 1 1]).run Try.prog w = .ok v' w' ∧ LgRow w' base v' (ats ++ [(a, x)]) ∧ Below base w w' ∧ w.grownBy w' v.ownBlock := by
  obtain ⟨xs, q1, q2, q3⟩ := h
  obtain ⟨i0, hi, hz0, hz1, hz2⟩ := info_parts info27
  have hnews : ∀ (j : Nat) (u : Value), ([.int .i64 2, .int .i64 16, .int .i64 (a : Int), .int .i64 (x : Int)] : List Value)[j]? = some u → w.cell? ⟨g, 0 + j, none⟩ = some u ∧ (∃ y, u = .int .i64 y) ∧ u.oneCell' = true := fun j u hu => by
    rcases j with _ | _ | _ | _ | j
    · simp at hu; subst hu; exact ⟨h0, ⟨_, rfl⟩, rfl⟩
    · simp at hu; subst hu; exact ⟨h1, ⟨_, rfl⟩, rfl⟩
    · simp at hu; subst hu; exact ⟨h2, ⟨_, rfl⟩, rfl⟩
    · simp at hu; subst hu; exact ⟨h3, ⟨_, rfl⟩, rfl⟩
    · simp at hu
  obtain ⟨v', w', hr, hw, hg, hp, _⟩ := run_app_pc (P := Try.prog) w base 56 27 i0 _ 4 32 Try.underlying56 hi hz0 hz1 hz2 rfl (by decide) v ats.length xs q1 ⟨g, 0, none⟩ 1 1 [.int .i64 2, .int .i64 16, .int .i64 (a : Int), .int .i64 (x : Int)] rfl (fun j u hu => by rw [Addr.add_lit]; exact (hnews j u hu).1)
    (fun u hu => by obtain ⟨j, hj⟩ := List.getElem?_of_mem hu; exact (hnews j u hj).2.2) (by decide) (by simp only [maxLen]; omega) (by omega) hb PcL q3 (fun j u hu => by
      rcases j with _ | _ | _ | _ | j
      · cases hu; exact ⟨_, rfl⟩
      · cases hu; exact ⟨_, rfl⟩
      · cases hu; exact ⟨_, rfl⟩
      · cases hu; exact ⟨_, rfl⟩
      · cases hu) (fun j u hu => (hnews j u hu).2.1)
  refine ⟨v', w', hr, ⟨_, by simpa using hw, ?_, hp⟩, (Below.refl _ _).grown hg hb (fun k e => (q1.lt k e).1), hg⟩
  refine ⟨by simp [q2.1]; omega, fun i hi => ?_⟩
  by_cases hlt : i < ats.length
  · obtain ⟨c0, c1, c2, c3⟩ := q2.2 i hlt
    have hx := q2.1
    rw [List.getElem_append_left hlt]
    refine ⟨?_, ?_, ?_, ?_⟩
    · rw [List.getElem?_append_left (by omega)]; exact c0
    · rw [List.getElem?_append_left (by omega)]; exact c1
    · rw [List.getElem?_append_left (by omega)]; exact c2
    · rw [List.getElem?_append_left (by omega)]; exact c3
  · have hie : i = ats.length := by simp at hi; omega
    subst hie
    have hx := q2.1
    rw [List.getElem_append_right (Nat.le_refl _)]
    refine ⟨?_, ?_, ?_, ?_⟩
    · rw [List.getElem?_append_right (by omega), hx, Nat.sub_self]; rfl
    · rw [List.getElem?_append_right (by omega), hx, show ats.length * 4 + 1 - ats.length * 4 = 1 by omega]; rfl
    · rw [List.getElem?_append_right (by omega), hx, show ats.length * 4 + 2 - ats.length * 4 = 2 by omega]; simp
    · rw [List.getElem?_append_right (by omega), hx, show ats.length * 4 + 3 - ats.length * 4 = 3 by omega]; simp
/-- A disk of twenty sectors on which nothing waits, without a budget. -/
structure Q20 (D : DD) : Prop where
  q : Quiet D
  l : D.L = -1
  s : D.S.length = 20
  f : Fit D 0
theorem q20_new : Q20 (newD 20) := ⟨newD_quiet 20, rfl, newD_len 20, newD_fit (by decide) (by decide)⟩
theorem fit_quiet {D : DD} {t : Nat} (h : Fit D t) (hq : Quiet D) : Fit D 0 := ⟨h.may, by rw [hq.1]; exact Nat.le_refl _, h.l2, h.two⟩
abbrev qv (A : Option Addr) (c : Nat) : Value := dv A 20 c none 0 0 (-1) false
abbrev qo (A : Option Addr) (c : Nat) : Obj := .cells #[.slice A 20 c, .slice none 0 0, .int .i64 (-1), .bool false] 25 (0, 0)
def QBox (w : World) (g : Nat) (D : DD) : Prop := ∃ A c, w.heap[g]? = some (qo A c) ∧ Okd w (qv A c) D
theorem QBox.below {w w' : World} {g : Nat} {D : DD} (h : QBox w g D) (hb : Below w.heap.size w w') : QBox w' g D := by
  obtain ⟨A, c, h1, h2⟩ := h
  exact ⟨A, c, box_at h1 hb, h2.below hb⟩
theorem okd_q {w : World} {A : Option Addr} {n c : Nat} {A' : Option Addr} {m c' : Nat} {L : Int} {O : Bool} {D : DD} (h : Okd w (dv A n c A' m c' L O) D) (hD : Q20 D) : n = 20 ∧ A' = none ∧ m = 0 ∧ c' = 0 ∧ L = -1 ∧ O = false := by
  obtain ⟨A1, c1, A1', c1', e, hd, hz⟩ := h
  injection e with e
  injection e with e
  injection e with e0 e
  injection e with e1 e
  injection e with e2 e
  injection e with e3 e
  injection e0 with _ e0
  injection e1 with e1 e4 e5
  injection e2 with _ e2
  injection e3 with e3
  have hW : D.W.length = 0 := by rw [hD.q.1]; rfl
  obtain ⟨z1, z2⟩ := hz hW
  exact ⟨e0.trans hD.s, e1.trans z1, e4.trans hW, e5.trans z2, e2.trans hD.l, e3.trans hD.q.2⟩
theorem qbox_of {w : World} {g : Nat} {D : DD} (h : DBox w g D 0) (hD : Q20 D) : QBox w g D := by
  obtain ⟨A, n, c, A', m, c', L, O, h1, h2, h3⟩ := h
  have hk := h3.2 (.inl rfl)
  obtain ⟨rfl, rfl, rfl, rfl, rfl, rfl⟩ := okd_q hk hD
  exact ⟨A, c, h1, hk⟩
/-- What is so of the records so far. -/
structure Led (D : DD) (x0 : Nat) (fs : Ws) (ats : Ats) (a x : Nat) : Prop where
  q : Q20 D
  h : Holds D.S 2 16 0 x0 fs a x
  n : ats.length = fs.length
  at_ : ∀ i, (hi : i < ats.length) → Recs 0 x0 (fs.take i) ats[i].1 ats[i].2
theorem led_new (x0 : Nat) : Led (newD 20) x0 [] [] 0 x0 := ⟨q20_new, newD_holds (by decide) (by decide), rfl, fun i hi => by cases hi⟩
theorem Led.bounds {D : DD} {x0 : Nat} {fs : Ws} {ats : Ats} {a x : Nat} (h : Led D x0 fs ats a x) : a < 16 ∧ x = x0 + fs.length ∧ fs.length ≤ a := by
  have := h.h.r.le
  exact ⟨h.h.lt, this.2, by omega⟩
theorem Led.may {D : DD} {x0 : Nat} {fs : Ws} {ats : Ats} {a x : Nat} (h : Led D x0 fs ats a x) (h0 : 1 ≤ x0) (h1 : x0 ≤ 1000) : mayLB D.S D.W D.L (2 : Nat) (16 : Nat) a x = true := by
  have := h.bounds
  exact fit_may h.q.f (by decide) this.1 (by omega) (by omega) (by rw [h.q.s]; decide)
theorem Led.app {D : DD} {x0 : Nat} {fs : Ws} {ats : Ats} {a x : Nat} (h : Led D x0 fs ats a x) (h0 : 1 ≤ x0) (h1 : x0 ≤ 1000) (d : List UInt8) {E : DD} {g0 g1 g2 g3 e : Int} (hr : appR D 2 16 a x d = (E, (g0, g1, g2, g3), e)) :
    (e = 1 ∧ 6000 < d.length) ∨ (e = 9 ∧ d.length ≤ 6000 ∧ roomB 16 a d.length = false) ∨ (e = 0 ∧ ∃ a', g0 = 2 ∧ g1 = 16 ∧ g2 = ((a' : Nat) : Int) ∧ g3 = ((x + 1 : Nat) : Int) ∧ Led E x0 (fs ++ [((x : Int), d)]) (ats ++ [(a, x)]) a' (x + 1)) := by
  have hb := h.bounds
  have hd := app_done (d := d) h.q.q (h.may h0 h1) (by rw [h.q.l]; decide)
  have hr' : appR D ((2 : Nat) : Int) ((16 : Nat) : Int) a x d = (E, (g0, g1, g2, g3), e) := hr
  rw [hr'] at hd
  simp only at hd
  rcases hd with ⟨h2, h3⟩ | ⟨h2, h3, h4⟩ | ⟨h2, h3, h4, h5, h6, h7⟩
  · exact .inl ⟨h2, h3⟩
  · exact .inr (.inl ⟨h2, h3, h4⟩)
  · simp only [Prod.mk.injEq] at h6
    obtain ⟨q0, q1, q2, q3⟩ := h6
    refine .inr (.inr ⟨h5, a + Frm.sect d.length, q0, q1, q2, q3, ?_⟩)
    have hE : E.S.length = 20 := by rw [h7]; simp only; rw [appS_len (by rw [h.q.s]; omega)]; exact h.q.s
    have hfit : Fit E 500 := by
      have := (appR_fit 2 16 a x d h.q.f).1
      rw [hr] at this
      exact this
    have hqE : Quiet E := by rw [h7]; exact ⟨rfl, rfl⟩
    refine ⟨⟨hqE, by rw [h7]; exact h.q.l, hE, fit_quiet hfit hqE⟩, ?_, by simp [h.n], fun i hi => ?_⟩
    · rw [h7]
      exact h.h.app (fit_sec h.q.f) h2 (by omega) (by omega) h4
    · by_cases hlt : i < ats.length
      · have := h.at_ i hlt
        rw [List.getElem_append_left hlt, List.take_append_of_le_length (by rw [← h.n]; omega)]
        exact this
      · have hie : i = ats.length := by simp at hi; omega
        subst hie
        have e1 : (fs ++ [((x : Int), d)]).take ats.length = fs := by rw [h.n, List.take_append_of_le_length (Nat.le_refl _), List.take_of_length_le (Nat.le_refl _)]
        rw [List.getElem_append_right (Nat.le_refl _), e1]
        simpa using h.h.r
end Go.Proofs.Ytjcgggheablpeaa.Wal
