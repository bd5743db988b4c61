/- Contracts: the library's Clone of a slice of slices; the two functions that say what is kept; do. -/
import Derived.Test.YtopklkkhddpglaaW5
namespace Go.Proofs.Ytopklkkhddpglaa
open Go.RowKit Dk

/-- Cells of a slice of slices, as they stand. -/
theorem parts_cells {w : World} {B : Nat} {A : Option Addr} {S : List (List UInt8)} (h : Parts w B A S) (h0 : 0 < S.length) :
    ∃ (b o : Nat) (xs : List Value), A = some ⟨b, o, none⟩ ∧ b < B ∧ xs.length = S.length ∧ (∀ j u, xs[j]? = some u → w.cell? ⟨b, o + j, none⟩ = some u) ∧ (∀ u ∈ xs, u.oneCell' = true) ∧
      ∀ i, (hi : i < S.length) → ∃ A' c, xs[i]? = some (.slice A' S[i].length c) ∧ Octs w B A' S[i] ∧ S[i].length ≤ c ∧ S[i].length ≤ 140737488351232 := by
  obtain ⟨b, o, A0, c0, e, hb, hc0, _⟩ := h 0 h0
  have hcell : ∀ j, (hj : j < S.length) → ∃ A' c, w.cell? ⟨b, o + j, none⟩ = some (.slice A' S[j].length c) ∧ Octs w B A' S[j] ∧ S[j].length ≤ c ∧ S[j].length ≤ 140737488351232 := fun j hj => by
    obtain ⟨b', o', A', c, e', _, hc, ho, hl⟩ := h j hj
    rw [e] at e'
    injection e' with e'
    injection e' with e1 e2
    subst e1
    subst e2
    exact ⟨A', c, hc, ho, hl⟩
  refine ⟨b, o, (List.range S.length).map (fun j => (w.cell? ⟨b, o + j, none⟩).getD undef), e, hb, by simp, fun j u hu => ?_, fun u hu => ?_, fun i hi => ?_⟩
  · rw [List.getElem?_map] at hu
    rcases Nat.lt_or_ge j S.length with hj | hj
    · rw [List.getElem?_eq_getElem (by simpa using hj), List.getElem_range] at hu
      obtain ⟨A', c, hc, _⟩ := hcell j hj
      simp only [Option.map_some] at hu
      rw [hc] at hu ⊢
      simpa using hu
    · rw [List.getElem?_eq_none (by simpa using hj)] at hu
      cases hu
  · obtain ⟨j, hj, rfl⟩ := List.mem_map.1 hu
    obtain ⟨A', c, hc, _⟩ := hcell j (List.mem_range.1 hj)
    rw [hc]
    rfl
  · obtain ⟨A', c, hc, ho⟩ := hcell i hi
    refine ⟨A', c, ?_, ho⟩
    rw [List.getElem?_map, List.getElem?_eq_getElem (by simpa using hi), List.getElem_range]
    simp [hc]

set_option maxHeartbeats 800000 in
theorem sclone_any (A : Option Addr) (S : List (List UInt8)) (c : Nat) (w : World) (hr : Parts w w.heap.size A S) (h0 : 0 < S.length) (hl : S.length ≤ 4096) :
    Calls Try.prog 34 #[.slice A S.length c] w fun e w' => ∃ g cap, e = .returned (.slice (some ⟨g, 0, none⟩) S.length cap) ∧ w.heap.size ≤ g ∧ g < w'.heap.size ∧ S.length ≤ cap ∧ Parts w' w'.heap.size (some ⟨g, 0, none⟩) S ∧
      (∀ j, w'.frozen? ⟨g, j, none⟩ = false) ∧ Below w.heap.size w w' := by
  have q22 : ∀ (W : World) (a : Option Addr) (n c n' c' : Nat), (binOp .eql 22 (.slice a n c) (.slice none n' c')).run Try.prog W = .ok (.bool a.isNone) W := fun W a n c n' c' => Lib.run_eql_slice_nil W _ _ a n c n' c' Try.underlying22
  obtain ⟨b, o, xs, rfl, hb, hxl, hxc, hx1, hxS⟩ := parts_cells hr h0
  have hB : Below w.heap.size w (w.alloc (.cells #[] 38)) := (Below.refl _ _).alloc (Nat.le_refl _) _
  have hown : (w.alloc (.cells #[] 38)).ownsRow w.heap.size 38 1 (.slice (some ⟨w.heap.size, 0, none⟩) 0 0) 0 [] := ⟨rfl, .inr ⟨w.heap.size, 0, #[], rfl, Nat.le_refl _, heap_alloc_new w _, Nat.le_refl _, Nat.zero_le _, rfl, rfl⟩⟩
  obtain ⟨i0, hi, hz0, hz1, hz2⟩ := info_parts info38
  obtain ⟨v', w', hrun, h2, h3⟩ := run_app_own (P := Try.prog) (w.alloc (.cells #[] 38)) w.heap.size 22 38 i0 (.slice none 0 0) 1 24 Try.underlying22 hi hz0 hz1 hz2 rfl (by decide) _ 0 [] hown (some ⟨b, o, none⟩) S.length c xs (by omega)
    (fun _ => ⟨b, o, rfl, fun j u hu => (World.cell?_alloc_lt w _ ⟨b, o + j, none⟩ hb).trans (hxc j u hu)⟩) hx1 (by simp only [maxLen]; omega) (by omega) hB.size
  have hbel : Below w.heap.size w w' := hB.grown h3 hB.size (fun k e => by simp [Value.ownBlock] at e; omega)
  rw [Nat.zero_add, List.nil_append] at h2
  have h2' := h2
  rcases h2.2 with ⟨_, h4⟩ | ⟨g, cap, cur, rfl, hbg, hh, hnc, _⟩
  · omega
  have hglt : g < w'.heap.size := by
    rcases Nat.lt_or_ge g w'.heap.size with h | h
    · exact h
    · rw [Array.getElem?_eq_none h] at hh; cases hh
  have HF : Hid (∀ j, w'.frozen? ⟨g, j, none⟩ = false) := fun j => by simp [World.frozen?, hh]
  have HP : Hid (Parts w' w'.heap.size (some ⟨g, 0, none⟩) S) := fun i hi => by
    obtain ⟨A', c', hx, ho, hl1, hl2⟩ := hxS i hi
    have := h2'.cells (g := g) rfl i _ hx
    rw [Addr.add_lit] at this
    exact ⟨g, 0, A', c', rfl, hglt, this, (ho.below hbel (Nat.le_refl _)).more hbel.size, hl1, hl2⟩
  have HB := Lib.hid hbel
  have HR := Lib.hid hrun
  clear hrun h2 h2' h3 hown hB hr hh hbel hxl hxc hx1 hxS hi hz0 hz1 hz2
  go_enter Try.func34, Try.ntmps34
  go_wp2_with (at_builtin; refine Lib.wpList_append_run _ rfl _ _ _ _ rfl _ _ rfl rfl _ _ HR.out ?_)
  go_ret
  exact ⟨g, cap, rfl, hbg, hglt, hnc, HP.out, HF.out, HB.out⟩

theorem all_any (k : Int) (w : World) : Calls Try.prog 28 #[.int .i64 k] w fun e w' => e = .returned (.bool true) ∧ w = w' := by
  go_enter Try.func28, Try.ntmps28
  go_wp2
  go_ret
  exact ⟨rfl, rfl⟩
def keepB (K : List Bool) (k : Nat) : Bool := K.getD k false
/-- A slice of truth values. -/
def Bools (w : World) (B : Nat) (A : Option Addr) (l : List Bool) : Prop :=
  ∀ i, (h : i < l.length) → ∃ b o, A = some ⟨b, o, none⟩ ∧ b < B ∧ w.cell? ⟨b, o + i, none⟩ = some (.bool l[i])
theorem Bools.below {w w' : World} {B B' : Nat} {A : Option Addr} {l : List Bool} (h : Bools w B A l) (hb : Below B' w w') (hB : B ≤ B') : Bools w' B A l := fun i hi => by
  obtain ⟨b, o, e, hlt, c⟩ := h i hi
  exact ⟨b, o, e, hlt, (hb.cell (p := ⟨b, o + i, none⟩) (by simp only; omega)).trans c⟩
theorem Bools.more {w : World} {B B' : Nat} {A : Option Addr} {l : List Bool} (h : Bools w B A l) (hB : B ≤ B') : Bools w B' A l := fun i hi => by
  obtain ⟨b, o, e, hlt, c⟩ := h i hi
  exact ⟨b, o, e, by omega, c⟩
theorem kept_any (g : Nat) (B : Nat) (A : Option Addr) (K : List Bool) (c k : Nat) (w : World) (hg : w.cell? ⟨g, 0, none⟩ = some (.slice A K.length c)) (hK : Bools w B A K) :
    Calls Try.prog 23 #[.int .i64 k, .pointer (some ⟨g, 0, none⟩)] w fun e w' => e = .returned (.bool (keepB K k)) ∧ w = w' := by
  by_cases h : k < K.length
  · obtain ⟨b, o, rfl, _, hc⟩ := hK k h
    have HE : Hid (keepB K k = K[k]) := by show _ = _; simp [keepB, h]
    obtain ⟨x, hx⟩ : ∃ x, x = K[k] := ⟨_, rfl⟩
    rw [← hx] at hc HE
    clear hx
    go_enter Try.func23, Try.ntmps23
    go_wp2
    go_ret
    exact ⟨retb HE.out.symm, rfl⟩
  · have HE : Hid (keepB K k = false) := by show _ = _; unfold keepB; rw [List.getD_eq_getElem?_getD, List.getElem?_eq_none (by omega)]; rfl
    have h' : decide ((k : Int) < (K.length : Int)) = false := by simp; omega
    have h2' : decide (k < K.length) = false := by simp; omega
    go_enter Try.func23, Try.ntmps23
    go_wp2
    go_ret
    exact ⟨retb HE.out.symm, rfl⟩
end Go.Proofs.Ytopklkkhddpglaa
