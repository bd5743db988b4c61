/- Plain facts and rows: frames one behind the other. -/
import Derived.Test.YtckgfbpgomkpnaaLawA
namespace Go.Proofs.Ytckgfbpgomkpnaa
open Go.RowKit Crc Chk Frm

structure En where
  s : Nat
  A : Option Addr
  d : List UInt8
  c : Nat
def En.ok (W : World) (B : Nat) (e : En) : Prop := 1 ≤ e.s ∧ e.s ≤ 281474976710655 ∧ e.d.length ≤ 6000 ∧ Octs W B e.A e.d
def cellsE (E : List En) : List Value := E.flatMap fun e => [.int .i64 (e.s : Int), .slice e.A e.d.length e.c]
def layE (E : List En) : List UInt8 := E.flatMap fun e => lay e.s e.d
theorem cellsE_snoc (E : List En) (e : En) : cellsE (E ++ [e]) = cellsE E ++ [.int .i64 (e.s : Int), .slice e.A e.d.length e.c] := by simp [cellsE]
theorem layE_snoc (E : List En) (e : En) : layE (E ++ [e]) = layE E ++ lay e.s e.d := by simp [layE]
theorem layE_drop (E : List En) (j : Nat) (h : j < E.length) : layE (E.drop j) = lay E[j].s E[j].d ++ layE (E.drop (j + 1)) := by
  rw [List.drop_eq_getElem_cons h]; rfl
theorem cellsE_len (E : List En) : (cellsE E).length = E.length * 2 := by
  induction E with
  | nil => rfl
  | cons e E ih =>
    show (_ ++ cellsE E).length = _
    rw [List.length_append, ih, List.length_cons]
    simp
    omega
theorem cellsE_at (E : List En) (j : Nat) (h : j < E.length) : (cellsE E)[j * 2]? = some (.int .i64 (E[j].s : Int)) ∧ (cellsE E)[j * 2 + 1]? = some (.slice E[j].A E[j].d.length E[j].c) := by
  induction E generalizing j with
  | nil => cases h
  | cons e E ih =>
    have hc : cellsE (e :: E) = .int .i64 (e.s : Int) :: .slice e.A e.d.length e.c :: cellsE E := rfl
    rw [hc]
    cases j with
    | zero => exact ⟨rfl, rfl⟩
    | succ j =>
      have := ih j (by simpa using h)
      rw [show (j + 1) * 2 = j * 2 + 1 + 1 by omega]
      simpa using this
theorem cellsE_one (E : List En) : ∀ u ∈ cellsE E, u.oneCell' = true := by
  intro u hu
  unfold cellsE at hu
  obtain ⟨e, _, hu⟩ := List.mem_flatMap.1 hu
  simp at hu
  rcases hu with rfl | rfl <;> rfl
theorem layE_len (E : List En) (h : ∀ e ∈ E, e.d.length ≤ 6000) : (layE E).length ≤ E.length * 7000 := by
  induction E with
  | nil => simp [layE]
  | cons e E ih =>
    have h1 := ih (fun x hx => h x (List.mem_cons_of_mem _ hx))
    have h2 := h e List.mem_cons_self
    have h3 := size_ge e.d.length
    have h4 := lay_len e.s e.d
    show (lay e.s e.d ++ layE E).length ≤ _
    rw [List.length_append, List.length_cons]
    omega
theorem info24 : (Try.prog.info? 24).map (fun i => (i.zero, i.size, i.bytes)) = some (some (.agg #[.int .i64 0, .slice none 0 0]), 2, 32) := by kernel_rfl
/-- A row of the call's own that has the frames. -/
abbrev OwnE (w : World) (base : Nat) (v : Value) (E : List En) : Prop := w.ownsRow base 24 2 v E.length (cellsE E)
theorem run_appE (w : World) (base : Nat) (v : Value) (E : List En) (hown : OwnE w base v E) (g : Nat) (e : En) (hc0 : w.cell? ⟨g, 0, none⟩ = some (.int .i64 (e.s : Int))) (hc1 : w.cell? ⟨g, 1, none⟩ = some (.slice e.A e.d.length e.c)) (hE : E.length ≤ 100) (hb : base ≤ w.heap.size) :
    ∃ v' w', (Builtin.append_ #[48, 48] 48 #[v, .slice (some ⟨g, 0, none⟩) 1 1]).run Try.prog w = .ok v' w' ∧ OwnE w' base v' (E ++ [e]) ∧ w.grownBy w' v.ownBlock ∧ (v'.ownBlock = v.ownBlock ∨ v'.ownBlock = some w.heap.size) := by
  obtain ⟨i0, hi, hz0, hz1, hz2⟩ := info_parts info24
  obtain ⟨v', w', hrun, h2, h3, _, h5⟩ := run_append_own_at (P := Try.prog) w base 48 48 24 i0 (.agg #[.int .i64 0, .slice none 0 0]) 2 32 Try.underlying48 hi hz0 hz1 hz2 rfl (by decide) v E.length _ hown ⟨g, 0, none⟩ 1 1 [.int .i64 (e.s : Int), .slice e.A e.d.length e.c] rfl (fun j u hu => by
    rcases j with _ | _ | j
    · simp at hu; subst hu; exact hc0
    · simp at hu; subst hu; exact hc1
    · simp at hu) (by intro u hu; simp at hu; rcases hu with rfl | rfl <;> rfl) (by simp only [maxLen]; omega) (by omega) hb
  refine ⟨v', w', hrun, ?_, h3, h5⟩
  unfold OwnE
  rw [cellsE_snoc, List.length_append]
  exact h2
def ApartV (u d : Value) : Prop := ∀ g, u.ownBlock = some g → d.ownBlock ≠ some g
theorem ApartV.symm {u d : Value} (h : ApartV u d) : ApartV d u := fun g h1 h2 => h g h2 h1
theorem apart_next {w : World} {B n size : Nat} {e : TypeId} {u d u' : Value} {xs : List Value} {k : Nat} (h : ApartV u d) (hd : w.ownsRow B e size d n xs) (hk : w.heap.size ≤ k)
    (hat : u'.ownBlock = u.ownBlock ∨ u'.ownBlock = some k) : ApartV u' d := fun g h1 h2 => by
  rcases hat with e | e
  · exact h g (by rw [← e]; exact h1) h2
  · have := (hd.lt g h2).2
    rw [e] at h1; injection h1 with h1; omega
theorem kept_of {w w' : World} {B n size : Nat} {e : TypeId} {u d : Value} {xs : List Value} (h : ApartV u d) (hd : w.ownsRow B e size d n xs) (hg : w.grownBy w' u.ownBlock) : w'.ownsRow B e size d n xs :=
  hd.kept hg (by
    rcases hb : d.ownBlock with _ | g
    · exact .inl rfl
    · exact .inr fun e => h g e.symm hb)
theorem ownE_kept {w w' : World} {base B : Nat} {v : Value} {E : List En} (h : OwnE w base v E) (hb : Below B w w') (hB : w.heap.size ≤ B) : OwnE w' base v E := by
  refine ⟨h.1, ?_⟩
  rcases h.2 with h2 | ⟨g, cap, cur, hv, hbg, hh, h3⟩
  · exact .inl h2
  · refine .inr ⟨g, cap, cur, hv, hbg, ?_, h3⟩
    have hlt : g < w.heap.size := by
      rcases Nat.lt_or_ge g w.heap.size with hlt | hge
      · exact hlt
      · rw [Array.getElem?_eq_none hge] at hh; cases hh
    rw [← hh]
    exact hb.block g (by omega)
/-- What the row of frames reads as. -/
def RowE (w : World) (g : Nat) (E : List En) : Prop := ∀ j, (h : j < E.length) → w.cell? ⟨g, j * 2, none⟩ = some (.int .i64 (E[j].s : Int)) ∧ w.cell? ⟨g, j * 2 + 1, none⟩ = some (.slice E[j].A E[j].d.length E[j].c)
theorem rowE_of {w : World} {base : Nat} {v : Value} {E : List En} (h : OwnE w base v E) : ∃ A c, v = .slice A E.length c ∧ (0 < E.length → ∃ g, A = some ⟨g, 0, none⟩ ∧ g < w.heap.size ∧ RowE w g E) ∧ E.length ≤ c := by
  have h' := h
  rcases h.2 with ⟨rfl, h1⟩ | ⟨g, cap, cur, rfl, hb, hh, hc, _⟩
  · exact ⟨none, 0, by rw [h1], fun h0 => by omega, by omega⟩
  · refine ⟨_, cap, rfl, fun _ => ⟨g, rfl, (h'.lt g rfl).2, fun j hj => ?_⟩, hc⟩
    obtain ⟨c0, c1⟩ := cellsE_at E j hj
    have r0 := h'.cells (g := g) rfl (j * 2) _ c0
    have r1 := h'.cells (g := g) rfl (j * 2 + 1) _ c1
    rw [Addr.add_lit] at r0 r1
    rw [Nat.zero_add] at r0 r1
    exact ⟨r0, r1⟩
/-- Frames as they came in. -/
def Frames (w : World) (B : Nat) (A : Option Addr) (V : List (Int × List UInt8)) : Prop :=
  ∀ i, (h : i < V.length) → ∃ b o A' c, A = some ⟨b, o, none⟩ ∧ b < B ∧ w.cell? ⟨b, o + i * 2, none⟩ = some (.int .i64 V[i].1) ∧ w.cell? ⟨b, o + i * 2 + 1, none⟩ = some (.slice A' V[i].2.length c) ∧ Octs w B A' V[i].2 ∧
    V[i].2.length ≤ c ∧ c ≤ 9223372036854775807
end Go.Proofs.Ytckgfbpgomkpnaa
