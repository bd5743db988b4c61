/- Contracts: DiskBudgets. -/
import Derived.Test.YtopklkkhddpglaaW16
namespace Go.Proofs.Ytopklkkhddpglaa
open Go.RowKit Dk

/-- A store to a box of a disk leaves a disk alone whose sectors and writes are whole, where the box's counts are no sector's. -/
theorem Dsk.box2 {w : World} {A : Option Addr} {n c : Nat} {A' : Option Addr} {m c' : Nat} {S : List (List UInt8)} {W : Ws} (h : Dsk w A n c A' m c' S W) (hsec : (∀ b ∈ S, b.length = 64) ∧ ∀ p ∈ W, p.2.length = 64) {g : Nat} {A0 B0 : Option Addr} {n0 m0 x0 y0 : Nat} {L0 : Int} {O0 : Bool}
    (hg : w.heap[g]? = some (.cells #[.slice A0 n0 x0, .slice B0 m0 y0, .int .i64 L0, .bool O0] 25 (0, 0))) (hn0 : n0 ≠ 64) (hm0 : m0 ≠ 64) (a b d e : Value) : Dsk (st4 w g a b d e) A n c A' m c' S W := by
  obtain ⟨k0, k1, k2, k3, _⟩ := cells_of4 hg
  have hoct : ∀ {A : Option Addr} {l : List UInt8}, Octs w w.heap.size A l → Octs (st4 w g a b d e) (st4 w g a b d e).heap.size A l := fun {A l} ho => by
    rw [st4_size]
    have p1 := ho.setFar (p := ⟨g, 0, none⟩) k0 (nu_sl _ _ _) a
    have p2 := p1.setFar (p := ⟨g, 1, none⟩) ((World.cell?_setCell_other _ _ _ _ (by simp)).trans k1) (nu_sl _ _ _) b
    have p3 := p2.setFar (p := ⟨g, 2, none⟩) (((World.cell?_setCell_other _ _ _ _ (by simp)).trans (World.cell?_setCell_other _ _ _ _ (by simp))).trans k2) (nu_i _) d
    exact p3.setFar (p := ⟨g, 3, none⟩) ((((World.cell?_setCell_other _ _ _ _ (by simp)).trans (World.cell?_setCell_other _ _ _ _ (by simp))).trans (World.cell?_setCell_other _ _ _ _ (by simp))).trans k3) (nu_b _) e
  have hfar : ∀ (p : Addr) (v : Value), p.block ≠ g → w.cell? p = some v → (st4 w g a b d e).cell? p = some v := fun p v hp hv => by
    rw [World.cell?_of_block (st4_far w a b d e hp)]; exact hv
  have hz : ∀ j A1 c1, w.cell? ⟨g, j, none⟩ = some (.slice A1 64 c1) → False := fun j A1 c1 hv => by
    rw [cell_of_row w g j _ _ _ hg] at hv
    match j, hv with
    | 0, hv => simp at hv; exact hn0 hv.2.1
    | 1, hv => simp at hv; exact hm0 hv.2.1
    | 2, hv => simp at hv
    | 3, hv => simp at hv
    | j + 4, hv => simp at hv
  refine ⟨fun i hi => ?_, fun i hi => ?_, h.hn, h.hm, h.hc, h.hc'⟩
  · obtain ⟨b1, o, A2, c2, e1, hb, hc, ho, hl⟩ := h.s i hi
    refine ⟨b1, o, A2, c2, e1, by rw [st4_size]; exact hb, hfar _ _ (fun hbg => ?_) hc, hoct ho, hl⟩
    simp only at hbg
    subst hbg
    rw [hsec.1 _ (List.getElem_mem hi)] at hc
    exact hz _ _ _ hc
  · obtain ⟨b1, o, A2, c2, e1, hb, hc, hd, ho, hl⟩ := h.w_ i hi
    have hne : b1 ≠ g := fun hbg => by
      subst hbg
      rw [hsec.2 _ (List.getElem_mem hi)] at hd
      exact hz _ _ _ hd
    exact ⟨b1, o, A2, c2, e1, by rw [st4_size]; exact hb, hfar _ _ hne hc, hfar _ _ hne hd, hoct ho, hl⟩

def Dq (A : Option Addr) (c : Nat) (A' : Option Addr) (m c' : Nat) (L : Int) (i : Nat) (w : World) : Prop := ∃ S W, Dsk w A 4 c A' m c' S W ∧ may S W L = true ∧ m ≤ i ∧ (m = 0 → A' = none ∧ c' = 0)
theorem Dq.below {A : Option Addr} {c : Nat} {A' : Option Addr} {m c' : Nat} {L : Int} {i : Nat} {w w' : World} (h : Dq A c A' m c' L i w) (hb : Below w.heap.size w w') : Dq A c A' m c' L i w' := by
  obtain ⟨S, W, h1, h2⟩ := h
  exact ⟨S, W, h1.below hb, h2⟩
theorem Dq.box {A : Option Addr} {c : Nat} {A' : Option Addr} {m c' : Nat} {L : Int} {i : Nat} {w : World} (h : Dq A c A' m c' L i w) {g : Nat} {A0 B0 : Option Addr} {n0 m0 x0 y0 : Nat} {L0 : Int} {O0 : Bool}
    (hg : w.heap[g]? = some (.cells #[.slice A0 n0 x0, .slice B0 m0 y0, .int .i64 L0, .bool O0] 25 (0, 0))) (hn0 : n0 ≠ 64) (hm0 : m0 ≠ 64) (a b d e : Value) : Dq A c A' m c' L i (st4 w g a b d e) := by
  obtain ⟨S, W, h1, h2, h3⟩ := h
  exact ⟨S, W, h1.box2 (sec_of h2) hg hn0 hm0 a b d e, h2, h3⟩
def eeB (n D : Nat) : Int := if D < n then 0 else 10
def lB (n D : Nat) : Int := if D < n then (n : Int) - ((D : Int) + 1) else (n : Int) - D
def oB (n D : Nat) : Bool := !decide (D < n)
def Gone (n D i : Nat) (v : Value) (w : World) : Prop := ∃ A c A' m c', v = .tuple #[dv A 4 c A' m c' (lB n D) (oB n D), .int .i64 (eeB n D)] ∧ Dq A c A' m c' (lB n D) i w
theorem Gone.below {n D i : Nat} {v : Value} {w w' : World} (h : Gone n D i v w) (hb : Below w.heap.size w w') : Gone n D i v w' := by
  obtain ⟨A, c, A', m, c', e, hq⟩ := h
  exact ⟨A, c, A', m, c', e, hq.below hb⟩
theorem flush_gone {n D i : Nat} {A : Option Addr} {c : Nat} {A' : Option Addr} {m c' : Nat} {O : Bool} (w : World) (hD : D ≤ n) (hn : n ≤ 20) (hO : O = true → D = n) (hi : i ≤ 100) (h : Dq A c A' m c' ((n : Int) - D) i w) :
    Calls Try.prog 18 #[dv A 4 c A' m c' ((n : Int) - D) O] w fun e w' => ∃ v, e = .returned v ∧ Gone n D (i + 1) v w' ∧ Below w.heap.size w w' := by
  obtain ⟨S, W, hd, hy, hm, hz⟩ := h
  by_cases hlt : D < n
  · have hO' : O = false := by
      cases O
      · rfl
      · have := hO rfl; omega
    subst hO'
    have e1 : spL ((n : Int) - D) false = lB n D := by
      unfold spL lB
      rw [if_pos hlt, if_pos ⟨by omega, rfl⟩]
      omega
    have e2 : oB n D = false := by simp [oB, hlt]
    have e3 : eeB n D = 0 := if_pos hlt
    refine (flush_on A 4 c A' m c' S W _ w hd hy (by omega) (by omega) (by omega)).mono ?_
    rintro e w' ⟨g, cap, rfl, h1, hb⟩
    exact ⟨_, rfl, ⟨some ⟨g, 0, none⟩, cap, none, 0, 0, by rw [e1, e2, e3], _, _, h1, may_done hy _ _ (by unfold lB; split <;> omega), Nat.zero_le _, fun _ => ⟨rfl, rfl⟩⟩, hb⟩
  · obtain rfl : D = n := by omega
    have e1 : spL ((D : Int) - D) O = lB D D := by
      unfold spL lB
      rw [if_neg hlt, if_neg (fun h => by have := h.1; omega)]
    have e2 : oB D D = true := by simp [oB]
    have e3 : eeB D D = 10 := if_neg hlt
    have e4 : lB D D = (D : Int) - D := if_neg hlt
    refine (flush_off A 4 c A' m c' S W _ O w hd hy (by omega) (by simp [spO]) (by omega)).mono ?_
    rintro e w' ⟨rfl, hb⟩
    exact ⟨_, rfl, ⟨A, c, A', m, c', by rw [e1, e2, e3], S, W, hd.below hb, by rw [e4]; exact hy, by omega, hz⟩, hb⟩
theorem write_gone {n D i : Nat} {A : Option Addr} {c : Nat} {A' : Option Addr} {m c' : Nat} {O : Bool} (s : Int) (q : UInt8) (g : Nat) (w : World) (hD : D ≤ n) (hn : n ≤ 20) (hO : O = true → D = n) (hi : i ≤ 100) (h : Dq A c A' m c' ((n : Int) - D) i w) (hs : 0 ≤ s) (hs4 : s < 4)
    (ho : Octs w w.heap.size (some ⟨g, 0, none⟩) (List.replicate 64 q)) :
    Calls Try.prog 16 #[dv A 4 c A' m c' ((n : Int) - D) O, .int .i64 s, .slice (some ⟨g, 0, none⟩) 64 64] w fun e w' => ∃ v, e = .returned v ∧ Gone n D (i + 1) v w' ∧ Below w.heap.size w w' := by
  obtain ⟨S, W, hd, hy, hm, hz⟩ := h
  obtain ⟨l, hl⟩ : ∃ l, l = List.replicate 64 q := ⟨_, rfl⟩
  have hlen : l.length = 64 := by rw [hl, List.length_replicate]
  rw [← hl] at ho
  have hth : thereB 4 s (1 : Nat) = true := by simp [thereB]; omega
  have hw := write_any A 4 c A' m c' S W ((n : Int) - D) O g 0 64 1 l s w hd hy (by omega) hz (by decide) (by decide) hlen ho (by omega) (by decide) (by omega) hth (by omega) (by omega)
  rw [hlen] at hw
  by_cases hlt : D < n
  · have hO' : O = false := by
      cases O
      · rfl
      · have := hO rfl; omega
    subst hO'
    have e1 : lft ((n : Int) - D) 1 = lB n D := by
      rw [lft_pos _ (by omega)]
      unfold lB
      rw [if_pos hlt]
      omega
    have e2 : oB n D = false := by simp [oB, hlt]
    have e3 : eeB n D = 0 := if_pos hlt
    refine hw.mono ?_
    intro e w' hp
    obtain ⟨A1, c1, rfl, h1, h2, h3⟩ := write_ok hp rfl (.inr (by omega))
    refine ⟨_, rfl, ⟨A, c, A1, m + 1, c1, by rw [e1, e2, e3], _, _, h1, ?_, by omega, h2⟩, h3⟩
    obtain ⟨y1, y2, y3, y4, y5⟩ := (may_iff S W _).1 hy
    refine (may_iff _ _ _).2 ⟨y1, y2, by unfold lB; split <;> omega, y4, fun p hp => ?_⟩
    rcases List.mem_append.1 hp with hp | hp
    · exact y5 p hp
    · obtain ⟨z1, z2, z3⟩ := wsA_mem _ _ _ hp
      rw [chunks_len] at z3
      have z4 : p.2 = chunk l 0 := by simpa [chunks] using z1
      have hS := hd.hn
      refine ⟨by rw [z4]; exact chunk_len l 0 (by omega), by omega, by omega⟩
  · obtain rfl : D = n := by omega
    have e1 : lft ((D : Int) - D) 0 = lB D D := by
      rw [lft_zero]
      unfold lB
      rw [if_neg hlt]
    have e2 : oB D D = true := by simp [oB]
    have e3 : eeB D D = 10 := if_neg hlt
    have e4 : lB D D = (D : Int) - D := if_neg hlt
    refine hw.mono ?_
    intro e w' hp
    obtain ⟨A1, c1, rfl, h1, h2, h3⟩ := write_fail (k := 0) hp (by cases O; exact .inr ⟨rfl, by simp⟩; exact .inl ⟨rfl, rfl⟩) (by decide)
    refine ⟨_, rfl, ⟨A, c, A1, m, c1, by rw [e1, e2, e3]; rfl, S, W, ?_, by rw [e4]; exact hy, by omega, h2⟩, h3⟩
    simpa [chunks, wsA] using h1
def four : List (List UInt8) := List.replicate 4 z64
theorem may_four (L : Int) (hL : -1 ≤ L) : may four [] L = true := by
  rw [may_iff]
  refine ⟨by simp [four], by simp [four], hL, fun b hb => ?_, by simp⟩
  rw [List.eq_of_mem_replicate hb]
  exact z64_len
/-- What stands behind so many rounds. -/
structure BI (w0 : World) (g n D i : Nat) (w : World) : Prop where
  ex : ∃ A c A' m c' O, w.heap[g]? = some (.cells #[.slice A 4 c, .slice A' m c', .int .i64 ((n : Int) - D), .bool O] 25 (0, 0)) ∧ Dq A c A' m c' ((n : Int) - D) i w ∧ (O = true → D = n)
  le : D ≤ n
  b : Below w0.heap.size w0 w
def BxQ (wR : World) (g n D i : Nat) (w : World) : Prop := ∃ A c A' m c', w.heap[g]? = some (.cells #[.slice A 4 c, .slice A' m c', .int .i64 (lB n D), .bool (oB n D)] 25 (0, 0)) ∧ Dq A c A' m c' (lB n D) i w ∧ Below wR.heap.size wR w
end Go.Proofs.Ytopklkkhddpglaa
