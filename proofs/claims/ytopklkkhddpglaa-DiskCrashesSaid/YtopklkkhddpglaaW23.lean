/- Contracts: what comes of a write, whatever it is; a store to a box whose disk is told; what a crash leaves. -/
import Derived.Test.YtopklkkhddpglaaW21
namespace Go.Proofs.Ytopklkkhddpglaa
open Go.RowKit Dk

/-- A store to a box of a disk leaves a disk alone whose sectors and writes are whole, whatever number of writes waits in the box. -/
theorem Dsk.box3 {w : World} {A : Option Addr} {n c : Nat} {A' : Option Addr} {m c' : Nat} {S : List (List UInt8)} {W : Ws} (h : Dsk w A n c A' m c' S W) (hsec : (∀ b ∈ S, b.length = 64) ∧ ∀ p ∈ W, p.2.length = 64) {g : Nat} {A0 B0 : Option Addr} {n0 m0 x0 y0 : Nat} {L0 : Int} {O0 : Bool}
    {S0 : List (List UInt8)} {W0 : Ws} (hd0 : Dsk w A0 n0 x0 B0 m0 y0 S0 W0)
    (hg : w.heap[g]? = some (.cells #[.slice A0 n0 x0, .slice B0 m0 y0, .int .i64 L0, .bool O0] 25 (0, 0))) (hn0 : n0 ≠ 64) (a b d e : Value) : Dsk (st4 w g a b d e) A n c A' m c' S W := by
  obtain ⟨k0, k1, k2, k3, _⟩ := cells_of4 hg
  have hoct : ∀ {A : Option Addr} {l : List UInt8}, Octs w w.heap.size A l → Octs (st4 w g a b d e) (st4 w g a b d e).heap.size A l := fun {A l} ho => by
    rw [st4_size]
    have p1 := ho.setFar (p := ⟨g, 0, none⟩) k0 (nu_sl _ _ _) a
    have p2 := p1.setFar (p := ⟨g, 1, none⟩) ((World.cell?_setCell_other _ _ _ _ (by simp)).trans k1) (nu_sl _ _ _) b
    have p3 := p2.setFar (p := ⟨g, 2, none⟩) (((World.cell?_setCell_other _ _ _ _ (by simp)).trans (World.cell?_setCell_other _ _ _ _ (by simp))).trans k2) (nu_i _) d
    exact p3.setFar (p := ⟨g, 3, none⟩) ((((World.cell?_setCell_other _ _ _ _ (by simp)).trans (World.cell?_setCell_other _ _ _ _ (by simp))).trans (World.cell?_setCell_other _ _ _ _ (by simp))).trans k3) (nu_b _) e
  have hfar : ∀ (p : Addr) (v : Value), p.block ≠ g → w.cell? p = some v → (st4 w g a b d e).cell? p = some v := fun p v hp hv => by
    rw [World.cell?_of_block (st4_far w a b d e hp)]; exact hv
  have hz : ∀ j A1 c1 (l : List UInt8), l.length = 64 → Octs w w.heap.size A1 l → w.cell? ⟨g, j, none⟩ = some (.slice A1 64 c1) → False := fun j A1 c1 l hl ho hv => by
    rw [cell_of_row w g j _ _ _ hg] at hv
    match j, hv with
    | 0, hv => simp at hv; exact hn0 hv.2.1
    | 1, hv =>
      simp at hv
      obtain ⟨rfl, rfl, _⟩ := hv
      obtain ⟨b1, o1, _, _, e1, _, q1, _⟩ := hd0.w_ 0 (by rw [hd0.hm]; omega)
      obtain ⟨b2, o2, e2, _, q2⟩ := ho 0 (by omega)
      rw [e1] at e2
      cases e2
      simp only [Nat.zero_mul] at q1
      rw [q1] at q2
      cases q2
    | 2, hv => simp at hv
    | 3, hv => simp at hv
    | j + 4, hv => simp at hv
  refine ⟨fun i hi => ?_, fun i hi => ?_, h.hn, h.hm, h.hc, h.hc'⟩
  · obtain ⟨b1, o, A2, c2, e1, hb, hc, ho, hl⟩ := h.s i hi
    refine ⟨b1, o, A2, c2, e1, by rw [st4_size]; exact hb, hfar _ _ (fun hbg => ?_) hc, hoct ho, hl⟩
    simp only at hbg
    subst hbg
    have h64 := hsec.1 _ (List.getElem_mem hi)
    rw [h64] at hc
    exact hz _ _ _ _ h64 ho hc
  · obtain ⟨b1, o, A2, c2, e1, hb, hc, hd, ho, hl⟩ := h.w_ i hi
    have hne : b1 ≠ g := fun hbg => by
      subst hbg
      have h64 := hsec.2 _ (List.getElem_mem hi)
      rw [h64] at hd
      exact hz _ _ _ _ h64 ho hd
    exact ⟨b1, o, A2, c2, e1, by rw [st4_size]; exact hb, hfar _ _ hne hc, hfar _ _ hne hd, hoct ho, hl⟩

/-- The error of a write of so many octets. -/
def eeW (n : Nat) (i : Int) (len : Nat) : Int := if len = 0 ∨ len % 64 ≠ 0 then 1 else if thereB n i (len / 64 : Nat) = true then 0 else 5
/-- A disk on which something may wait. -/
def Dw (S : List (List UInt8)) (A : Option Addr) (n c : Nat) (A' : Option Addr) (m c' t : Nat) (w : World) : Prop := ∃ W, Dsk w A n c A' m c' S W ∧ may S W (-1) = true ∧ m ≤ t ∧ (m = 0 → A' = none ∧ c' = 0)
theorem Dw.below {S : List (List UInt8)} {A : Option Addr} {n c : Nat} {A' : Option Addr} {m c' t : Nat} {w w' : World} (h : Dw S A n c A' m c' t w) (hb : Below w.heap.size w w') : Dw S A n c A' m c' t w' := by
  obtain ⟨W, h1, h2⟩ := h
  exact ⟨W, h1.below hb, h2⟩
theorem Dw.box {S : List (List UInt8)} {A : Option Addr} {n c : Nat} {A' : Option Addr} {m c' t : Nat} {w : World} (h : Dw S A n c A' m c' t w) {g : Nat} {A0 B0 : Option Addr} {n0 m0 x0 y0 : Nat} {L0 : Int} {O0 : Bool}
    {S0 : List (List UInt8)} {W0 : Ws} (hd0 : Dsk w A0 n0 x0 B0 m0 y0 S0 W0)
    (hg : w.heap[g]? = some (.cells #[.slice A0 n0 x0, .slice B0 m0 y0, .int .i64 L0, .bool O0] 25 (0, 0))) (hn0 : n0 ≠ 64) (a b d e : Value) : Dw S A n c A' m c' t (st4 w g a b d e) := by
  obtain ⟨W, h1, h2, h3⟩ := h
  exact ⟨W, h1.box3 (sec_of h2) hd0 hg hn0 a b d e, h2, h3⟩
/-- What a write gives: the disk with more that waits; or the zero disk, and its error. -/
def Wrt (S : List (List UInt8)) (A : Option Addr) (n c t : Nat) (ee : Int) (x : Value) (w : World) : Prop :=
  (ee = 0 ∧ ∃ A' m c', x = dv A n c A' m c' (-1) false ∧ Dw S A n c A' m c' t w) ∨ (ee ≠ 0 ∧ x = dz)
theorem Wrt.below {S : List (List UInt8)} {A : Option Addr} {n c t : Nat} {ee : Int} {x : Value} {w w' : World} (h : Wrt S A n c t ee x w) (hb : Below w.heap.size w w') : Wrt S A n c t ee x w' := by
  rcases h with ⟨h1, A', m, c', h2, h3⟩ | h
  · exact .inl ⟨h1, A', m, c', h2, h3.below hb⟩
  · exact .inr h
theorem wrt_any {S : List (List UInt8)} {A : Option Addr} {n c : Nat} {A' : Option Addr} {m c' t : Nat} {w : World} (AB : Option Addr) (l : List UInt8) (cb : Nat) (i : Int) (h : Dw S A n c A' m c' t w) (ht : t ≤ 200) (ho : Octs w w.heap.size AB l) (hl : l.length ≤ 640) (hcb : l.length ≤ cb)
    (hcb2 : cb ≤ 9223372036854775807) (hi : -9223372036854775808 ≤ i) (hi2 : i ≤ 9223372036854775807) :
    Calls Try.prog 16 #[dv A n c A' m c' (-1) false, .int .i64 i, .slice AB l.length cb] w fun e w' => ∃ x, e = .returned (.tuple #[x, .int .i64 (eeW n i l.length)]) ∧ Wrt S A n c (t + 10) (eeW n i l.length) x w' ∧ Below w.heap.size w w' := by
  obtain ⟨W, hd, hy, hm, hz⟩ := h
  by_cases h1 : l.length = 0 ∨ l.length % 64 ≠ 0
  · have e : eeW n i l.length = 1 := if_pos h1
    rw [e]
    refine (write_arg A n c A' m c' S W (-1) false AB l.length cb i w hd hy (by omega) h1 (by omega)).mono ?_
    rintro e w' ⟨rfl, hb⟩
    exact ⟨_, rfl, .inr ⟨by decide, rfl⟩, hb⟩
  · obtain ⟨N, hN⟩ : ∃ N, N = l.length / 64 := ⟨_, rfl⟩
    have hlen : l.length = 64 * N := by omega
    have hN1 : 1 ≤ N := by omega
    by_cases h2 : thereB n i N = true
    · have e : eeW n i l.length = 0 := by unfold eeW; rw [if_neg h1, ← hN, if_pos h2]
      rw [e]
      obtain ⟨b, o, hA, _⟩ := ho 0 (by omega)
      subst hA
      refine (write_any A n c A' m c' S W (-1) false b o cb N l i w hd hy (by omega) hz hN1 (by omega) hlen ho hcb hcb2 (by decide) h2 hi hi2).mono ?_
      intro e w' hp
      obtain ⟨A1, c1, rfl, h3, h4, h5⟩ := write_ok hp rfl (.inl (by decide))
      rw [lft_neg _ (by decide)]
      refine ⟨_, rfl, .inl ⟨rfl, A1, m + N, c1, rfl, _, h3, ?_, by omega, h4⟩, h5⟩
      obtain ⟨y1, y2, y3, y4, y5⟩ := (may_iff S W _).1 hy
      refine (may_iff _ _ _).2 ⟨y1, y2, y3, y4, fun p hp => ?_⟩
      rcases List.mem_append.1 hp with hp | hp
      · exact y5 p hp
      · obtain ⟨z1, z2, z3⟩ := wsA_mem _ _ _ hp
        rw [chunks_len] at z3
        obtain ⟨k, hk, e⟩ := List.mem_map.1 z1
        have hk' : k < N := List.mem_range.1 hk
        have hS := hd.hn
        have hT : 0 ≤ i ∧ (N : Int) ≤ (n : Int) - i := by simp [thereB] at h2; omega
        exact ⟨by rw [← e]; exact chunk_len l k (by omega), by omega, by omega⟩
    · have e : eeW n i l.length = 5 := by unfold eeW; rw [if_neg h1, ← hN, if_neg h2]
      rw [e]
      refine (write_range A n c A' m c' S W (-1) false AB l.length cb N i w hd hy (by omega) hlen hN1 (by omega) (by simpa using h2) hi hi2).mono ?_
      rintro e w' ⟨rfl, hb⟩
      exact ⟨_, rfl, .inr ⟨by decide, rfl⟩, hb⟩
end Go.Proofs.Ytopklkkhddpglaa
