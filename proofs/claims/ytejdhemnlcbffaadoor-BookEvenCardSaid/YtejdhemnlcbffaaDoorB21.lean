/- Entries, one behind the other and one before the other; what is known behind the cuts. Conditions: none. -/
import Derived.Test.YtejdhemnlcbffaaDoorB20
namespace Go.Proofs.YtejdhemnlcbffaaDoor.Bok
open Go.RowKit Cht Ent
open Mny (Fits)

theorem fewEs_in {evs inp : List Ev} (h : evs.map Ev.en = fewEs inp) (hr : ∀ i ∈ inp, ∀ x ∈ i.l, (-9223372036854775808 ≤ x.k ∧ x.k ≤ 9223372036854775807) ∧ x.s.size ≤ 9223372036854775807 ∧ Fits x.n) :
    evs.length ≤ 20 ∧ ∀ e ∈ evs, e.r.size ≤ 1000 ∧ e.l.length ≤ 10 ∧ ∀ x ∈ e.l, fitL x := by
  refine ⟨?_, fun e he => ?_⟩
  · have := congrArg List.length h
    rw [List.length_map, fewEs_len] at this
    omega
  · have hm : e.en ∈ fewEs inp := by rw [← h]; exact List.mem_map_of_mem he
    unfold fewEs at hm
    obtain ⟨i, hi, e1⟩ := List.mem_map.1 hm
    have hi2 := hr i (List.mem_of_mem_take hi)
    unfold Ev.few Ev.en at e1
    injection e1 with _ e2 e3
    rw [← e2, ← e3]
    have h25 := cutS_size 25 i.r
    exact ⟨by omega, by rw [fewL_len]; omega, fewL_fit hi2⟩
theorem own_away {W W' : World} {base e s n : Nat} {v : Value} {xs : List Value} {row : Option Nat} (h : W.ownsRow base e s v n xs) (hg : W.grownBy W' row) (hr : ∀ j, row = some j → j < base) : W'.ownsRow base e s v n xs := by
  refine h.kept hg ?_
  cases hv : v.ownBlock with
  | none => exact .inl rfl
  | some g =>
    refine .inr fun e9 => ?_
    have h1 := h.lt g hv
    have h2 := hr g e9.symm
    omega
theorem LnE.next {w w' : World} {base : Nat} {es : List Ev} (h : LnE w base es) (hb : Below w.heap.size w w') : LnE w' base es := fun e he => ⟨own_below (h e he).1 hb, (h e he).2⟩
theorem evat_of {w : World} {base n c : Nat} {A : Option Addr} {es : List Ev} (h : w.ownsRow base 25 3 (.slice A n c) n (ecs es)) (hn : n = es.length) : EvAt w w.heap.size A es := fun i hi => by
  rcases h.2 with ⟨e, h0⟩ | ⟨g, cap, cur, e, hb, hh, hc, _⟩
  · omega
  · injection e with e1 e2 e3
    subst e1
    obtain ⟨h1, h2, h3⟩ := ecs_at es i hi
    have hcell : ∀ j u, (ecs es)[j]? = some u → w.cell? ⟨g, j, none⟩ = some u := fun j u hj => by
      have := h.cells (g := g) rfl j u hj
      rwa [Addr.add_lit, Nat.zero_add] at this
    exact ⟨g, 0, rfl, (h.lt g rfl).2, by rw [Nat.zero_add]; exact hcell _ _ h1, by rw [Nat.zero_add]; exact hcell _ _ h2, by rw [Nat.zero_add]; exact hcell _ _ h3⟩
theorem ens_of {w : World} {base : Nat} {A : Option Addr} {es : List Ev} (h : EvAt w w.heap.size A es) (hl : LnE w base es) : Ens w w.heap.size A (es.map Ev.en) := fun i hi => by
  have hi' : i < es.length := by simpa using hi
  obtain ⟨g, o, e, h1, h2, h3, h4⟩ := h i hi'
  have e9 : (es.map Ev.en)[i] = es[i].en := by simp
  rw [e9]
  obtain ⟨h5, h6⟩ := hl _ (List.getElem_mem hi')
  exact ⟨g, o, es[i].A, es[i].c, e, h1, h2, h3, h4, lns_of h5 rfl, h6⟩
theorem take_filt {α : Type} {l : List α} {k : Nat} (h : k < l.length) (p : α → Bool) : (l.take (k + 1)).filter p = (l.take k).filter p ++ (if p l[k] = true then [l[k]] else []) := by
  rw [List.take_succ_eq_append_getElem h, List.filter_append]
  congr 1
  cases hp : p l[k] with
  | true => rw [List.filter_cons_of_pos hp]; rfl
  | false => rw [List.filter_cons_of_neg (by rw [hp]; decide)]; rfl
theorem take_all {α : Type} {l : List α} {k : Nat} (h : k < l.length) (p : α → Bool) : (l.take (k + 1)).all p = ((l.take k).all p && p l[k]) := by
  rw [List.take_succ_eq_append_getElem h, List.all_append]
  simp
/-- One entry, out of a box of its own, before those that are there. -/
theorem run_preE (w : World) (base : Nat) (v : Value) (n : Nat) (es : List Ev) (hown : w.ownsRow base 25 3 v n (ecs es)) (b : Int) (r : ByteArray) (A : Option Addr) (m c : Nat) (hn : n ≤ 2000) :
    ∃ v' w', (Builtin.append_ #[40, 40] 40 #[.slice (some ⟨w.heap.size, 0, none⟩) 1 1, v]).run Tryd.prog (w.alloc (.cells #[.int .i64 b, .string r, .slice A m c] 25)) = .ok v' w' ∧ w'.ownsRow w.heap.size 25 3 v' (n + 1) ([.int .i64 b, .string r, .slice A m c] ++ ecs es) ∧ Below w.heap.size w w' := by
  obtain ⟨i0, hi, hzz0, hz1, hz2⟩ := info_parts infoE
  have hO1 := hown.alloc (.cells #[.int .i64 b, .string r, .slice A m c] 25)
  have hN : (w.alloc (.cells #[.int .i64 b, .string r, .slice A m c] 25)).ownsRow w.heap.size 25 3 (.slice (some ⟨w.heap.size, 0, none⟩) 1 1) 1 [.int .i64 b, .string r, .slice A m c] :=
    World.ownsRow_lit w #[.int .i64 b, .string r, .slice A m c] 1 (Nat.le_refl _) (by unfold maxLen; omega) rfl
  have hb1 : Below w.heap.size w (w.alloc (.cells #[.int .i64 b, .string r, .slice A m c] 25)) := (Below.refl _ _).alloc (Nat.le_refl _) _
  rcases hown.2 with ⟨rfl, rfl⟩ | ⟨g, cap, cur, rfl, _, _, hnc, _⟩
  · have he : ecs es = [] := List.eq_nil_of_length_eq_zero (by rw [hown.1])
    refine ⟨_, _, run_append_owned_none (P := Tryd.prog) _ w.heap.size 40 40 25 i0 3 Tryd.underlying40 hi _ 1 _ hN, ?_, hb1⟩
    rw [he, List.append_nil]; exact hN
  · obtain ⟨v', w', hrun, h2, h3, _, h5⟩ := run_append_own_at (P := Tryd.prog) (w := w.alloc (.cells #[.int .i64 b, .string r, .slice A m c] 25)) w.heap.size 40 40 25 i0 (.agg #[.int .i64 0, .string ⟨#[]⟩, .slice none 0 0]) 3 48 Tryd.underlying40 hi hzz0 hz1 hz2 rfl (by decide) _ 1 _ hN ⟨g, 0, none⟩ n cap (ecs es) hown.1 (hO1.cells rfl) (ecs_one es) (by unfold maxLen; omega) (by omega) (by rw [World.size_alloc]; omega)
    exact ⟨v', w', hrun, by rw [Nat.add_comm n 1]; exact h2, hb1.grown h3 (by rw [World.size_alloc]; omega) (fun j hj => (hN.lt j hj).1)⟩

/-- What is known behind the two cuts. -/
structure PreO (w : World) (b : Int) (r1 : ByteArray) (L : List Ln) (E : List Ev) (A1 : Option Addr) (n1 : Nat) (Ae : Option Addr) (W : World) : Prop where
  x : BoxE w.heap.size b r1 A1 L.length n1 W
  lx : Lns W W.heap.size A1 L
  cx : L.length ≤ n1
  ev : EvAt W W.heap.size Ae E
  le : LnE W (w.heap.size + 1) E
  bel : Below w.heap.size w W
  sz : w.heap.size + 1 ≤ W.heap.size
theorem PreO.next {w : World} {b : Int} {r1 : ByteArray} {L : List Ln} {E : List Ev} {A1 Ae : Option Addr} {n1 : Nat} {W W' : World} (h : PreO w b r1 L E A1 n1 Ae W) (hb : Below W.heap.size W W') : PreO w b r1 L E A1 n1 Ae W' := by
  have h2 := h.sz
  refine ⟨h.x.below hb (by omega), h.lx.next hb, h.cx, fun i hi => ?_, h.le.next hb, h.bel.trans (hb.mono h.bel.size), Nat.le_trans h2 hb.size⟩
  obtain ⟨g, o, e, h3, h4⟩ := (h.ev.below hb (Nat.le_refl _)) i hi
  exact ⟨g, o, e, Nat.lt_of_lt_of_le h3 hb.size, h4⟩
/-- The store. -/
theorem preO_made {w W : World} {b : Int} {r r1 : ByteArray} {A A1 Ae : Option Addr} {m c n1 ne : Nat} {L : List Ln} {E : List Ev} (hx : BoxE w.heap.size b r A m c W)
    (ox : W.ownsRow (w.heap.size + 1) 44 3 (.slice A1 L.length n1) L.length (lcs L)) (oe : W.ownsRow (w.heap.size + 1) 25 3 (.slice Ae E.length ne) E.length (ecs E)) (le : LnE W (w.heap.size + 1) E) (cx : L.length ≤ n1) (bel : Below w.heap.size w W) (sz : w.heap.size + 1 ≤ W.heap.size) :
    PreO w b r1 L E A1 n1 Ae (((W.setCell ⟨w.heap.size, 0, none⟩ (.int .i64 b)).setCell ⟨w.heap.size, 1, none⟩ (.string r1)).setCell ⟨w.heap.size, 2, none⟩ (.slice A1 L.length n1)) := by
  have o3 : ∀ {e k n : Nat} {v : Value} {xs : List Value} (h : W.ownsRow (w.heap.size + 1) e k v n xs),
      (((W.setCell ⟨w.heap.size, 0, none⟩ (.int .i64 b)).setCell ⟨w.heap.size, 1, none⟩ (.string r1)).setCell ⟨w.heap.size, 2, none⟩ (.slice A1 L.length n1)).ownsRow (w.heap.size + 1) e k v n xs := fun h =>
    own_set (own_set (own_set h _ _ (by simp only; omega)) _ _ (by simp only; omega)) _ _ (by simp only; omega)
  exact ⟨three_set hx, lns_of (o3 ox) rfl, cx, evat_of (o3 oe) rfl, fun e he => ⟨o3 (le e he).1, (le e he).2⟩, ((bel.setCell (by simp) _).setCell (by simp) _).setCell (by simp) _, by simp only [size_setCell]; exact sz⟩
theorem ents_at (w : World) (B : Nat) (A : Option Addr) (inp : List Ev) (m c : Nat) (h : RdEs w A inp m c) {w0 : World} (hb0 : Below w.heap.size w w0) (hB : B ≤ w0.heap.size) : ∀ W, Below w0.heap.size w0 W → Calls Tryd.prog 17 #[.slice A m c] W fun e w' => ∃ Ae ne evs, e = .returned (.slice Ae evs.length ne) ∧ w'.ownsRow B 25 3 (.slice Ae evs.length ne) evs.length (ecs evs) ∧ evs.map Ev.en = fewEs inp ∧ LnE w' B evs ∧ Below W.heap.size W w' := fun W hW => by
  have hbW : Below w.heap.size w W := hb0.trans (hW.mono hb0.size)
  have hsz := hbW.size
  refine (entries_any A inp m c W ⟨fun i hi => ?_, fun e he => ?_, h.len, h.cap⟩).mono ?_
  · obtain ⟨g, o, e, h3, h4⟩ := (h.at_.below hbW (Nat.le_refl _)) i hi
    exact ⟨g, o, e, by omega, h4⟩
  · have := h.rd e he
    exact ⟨(this.lns.below hbW (Nat.le_refl _)).more hsz, this.len, this.cap, this.big, this.ref, this.fit⟩
  · rintro e w' ⟨v, evs, rfl, ho, hm, hl, hb⟩
    obtain ⟨Ae, ne, rfl, hc⟩ := own_sl ho
    have := hW.size
    exact ⟨Ae, ne, evs, rfl, own_mono ho (by omega), hm, fun e he => ⟨own_mono (hl e he).1 (by omega), (hl e he).2⟩, hb⟩
/-- What an entry the other way round is, as one. -/
theorem back_one {b : Int} {r : ByteArray} {l : List Ln} {w w' : World} {e : Ending} (h : Backed b r l w e w') :
    ∃ (yb : Int) (yr : ByteArray) (Ay : Option Addr) (ly : List Ln) (cy : Nat) (g : Int), e = .returned (.tuple #[.agg #[.int .i64 yb, .string yr, .slice Ay ly.length cy], .int .i64 g]) ∧ Lns w' w'.heap.size Ay ly ∧ ly.length ≤ cy ∧ ly.length ≤ l.length ∧
      (g = 0 → yb = b ∧ yr = r ∧ ly = backL l ∧ leastB l = false) ∧ (g ≠ 0 → ly = []) ∧ Below w.heap.size w w' := by
  rcases h with ⟨h1, rfl, hb⟩ | ⟨h1, h2, rfl, hb⟩ | ⟨h1, h2, A, c, rfl, hl, hc, hb⟩
  · exact ⟨0, ⟨#[]⟩, none, [], 0, chk b r l, rfl, fun i hi => absurd hi (by simp), Nat.le_refl _, Nat.zero_le _, fun h => absurd h h1, fun _ => rfl, hb⟩
  · exact ⟨0, ⟨#[]⟩, none, [], 0, 2, rfl, fun i hi => absurd hi (by simp), Nat.le_refl _, Nat.zero_le _, fun h => absurd h (by decide), fun _ => rfl, hb⟩
  · exact ⟨b, r, A, backL l, c, 0, by rw [backL_len], hl, by rw [backL_len]; exact hc, by rw [backL_len]; exact Nat.le_refl _, fun _ => ⟨rfl, rfl, rfl, h2⟩, fun h => absurd rfl h, hb⟩
end Go.Proofs.YtejdhemnlcbffaaDoor.Bok
