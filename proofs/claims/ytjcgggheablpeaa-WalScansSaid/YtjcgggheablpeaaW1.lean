/- A disk as a value, and what lasts behind a store into a box. -/
import Derived.Test.YtjcgggheablpeaaWAct
import Derived.Test.YtjcgggheablpeaaWMathC
import Derived.Test.YtjcgggheablpeaaGE
import Derived.Test.YtjcgggheablpeaaGD
import Derived.Test.YtjcgggheablpeaaGF
namespace Go.Proofs.Ytjcgggheablpeaa.Wal
open Go.RowKit Dis Dis.Dk

theorem cell_blk {w : World} {b j : Nat} {u : Value} (h : w.cell? ⟨b, j, none⟩ = some u) : ∃ o, w.heap[b]? = some o := by
  have hb := World.block_lt_of_cell? w _ h
  exact ⟨_, Array.getElem?_eq_getElem hb⟩
theorem cell_same {w w' : World} {b j : Nat} {o : Obj} (h : w.heap[b]? = some o) (h' : w'.heap[b]? = some o) : w'.cell? ⟨b, j, none⟩ = w.cell? ⟨b, j, none⟩ := by
  unfold World.cell?
  rw [h, h']
/-- What a cell of a box can hold. -/
theorem shp_cell {K : Nat} {w : World} {b j : Nat} {o : Obj} {u : Value} (ho : w.heap[b]? = some o) (hs : Shp K o) (hc : w.cell? ⟨b, j, none⟩ = some u) :
    (K = 0 ∧ ((j = 0 ∧ ∃ A n c, u = .slice A n c ∧ n ≠ 64) ∨ (j = 1 ∧ ∃ A n c, u = .slice A n c) ∨ (j = 2 ∧ ∃ x, u = .int .i64 x) ∨ (j = 3 ∧ ∃ x, u = .bool x))) ∨ (K = 1 ∧ ∃ x, u = .int .i64 x) ∨ K = 2 := by
  match K, hs with
  | 0, ⟨A, n, c, A', m, c', L, O, e, hn⟩ =>
    subst e
    rw [cell_of_row w b j _ _ _ ho] at hc
    refine .inl ⟨rfl, ?_⟩
    rcases j with _ | _ | _ | _ | j
    · cases hc; exact .inl ⟨rfl, _, _, _, rfl, hn⟩
    · cases hc; exact .inr (.inl ⟨rfl, _, _, _, rfl⟩)
    · cases hc; exact .inr (.inr (.inl ⟨rfl, _, rfl⟩))
    · cases hc; exact .inr (.inr (.inr ⟨rfl, _, rfl⟩))
    · simp at hc
  | 2, _ => exact .inr (.inr rfl)
  | 1, ⟨x0, x1, x2, x3, e⟩ =>
    subst e
    rw [cell_of_row w b j _ _ _ ho] at hc
    refine .inr (.inl ⟨rfl, ?_⟩)
    rcases j with _ | _ | _ | _ | j
    · cases hc; exact ⟨_, rfl⟩
    · cases hc; exact ⟨_, rfl⟩
    · cases hc; exact ⟨_, rfl⟩
    · cases hc; exact ⟨_, rfl⟩
    · simp at hc
theorem RK.cell {K : Nat} {w w' : World} (h : RK K w w') {b j : Nat} {u : Value} (hc : w.cell? ⟨b, j, none⟩ = some u) (hn : ∀ o, w.heap[b]? = some o → Shp K o → K = 2) : w'.cell? ⟨b, j, none⟩ = some u := by
  obtain ⟨o, ho⟩ := cell_blk hc
  rcases h.at_ b o ho with ⟨h1, o', h2, h3⟩ | h1
  · have h4 := hn o ho h1
    subst h4
    obtain ⟨fr, rfl⟩ := h1
    obtain ⟨fr', rfl⟩ := h3
    rw [cell_of_row w b j _ _ _ ho] at hc
    rw [cell_of_row w' b j _ _ _ h2]
    exact hc
  · rw [cell_same ho h1]
    exact hc
theorem Octs.rk {K : Nat} {w w' : World} (h : RK K w w') {B : Nat} {A : Option Addr} {l : List UInt8} (ho : Octs w B A l) : Octs w' B A l := fun i hi => by
  obtain ⟨b, o, e, hb, hc⟩ := ho i hi
  refine ⟨b, o, e, hb, h.cell hc fun ob hob hs => ?_⟩
  rcases shp_cell hob hs hc with ⟨_, ⟨_, _, _, _, e, _⟩ | ⟨_, _, _, _, e⟩ | ⟨_, _, e⟩ | ⟨_, _, e⟩⟩ | ⟨_, _, e⟩ | e
  · cases e
  · cases e
  · cases e
  · cases e
  · cases e
  · exact e
theorem Parts.rk {K : Nat} {w w' : World} (h : RK K w w') {B : Nat} {A : Option Addr} {S : List (List UInt8)} (hp : Parts w B A S) (h2 : 2 ≤ S.length) (h64 : ∀ b ∈ S, b.length = 64) : Parts w' B A S := fun i hi => by
  obtain ⟨b, o, A', c, e, hb, hc, ho, hl⟩ := hp i hi
  refine ⟨b, o, A', c, e, hb, h.cell hc fun ob hob hs => ?_, Octs.rk h ho, hl⟩
  obtain ⟨b0, o0, A0, c0, e0, _, hc0, _⟩ := hp 0 (by omega)
  obtain ⟨b1, o1, A1, c1, e1, _, hc1, _⟩ := hp 1 (by omega)
  rw [e] at e0 e1
  cases e0
  cases e1
  have hl0 : S[0].length = 64 := h64 _ (List.getElem_mem _)
  rw [hl0] at hc0
  rcases shp_cell hob hs hc0 with ⟨h0, ⟨hj, _, _, _, e, hn⟩ | ⟨hj, _, _, _, e⟩ | ⟨_, _, e⟩ | ⟨_, _, e⟩⟩ | ⟨_, _, e⟩ | e
  · cases e; exact absurd rfl hn
  · rcases shp_cell hob hs hc1 with ⟨_, ⟨hj1, _⟩ | ⟨hj1, _⟩ | ⟨_, _, e⟩ | ⟨_, _, e⟩⟩ | ⟨_, _, e⟩ | e
    · omega
    · omega
    · cases e
    · cases e
    · cases e
    · exact e
  · cases e
  · cases e
  · cases e
  · exact e
theorem Pend.rk {K : Nat} {w w' : World} (h : RK K w w') {B : Nat} {A : Option Addr} {W : Ws} (hp : Pend w B A W) : Pend w' B A W := fun i hi => by
  obtain ⟨b, o, A', c, e, hb, hc, hd, ho, hl⟩ := hp i hi
  have hns : ∀ ob, w.heap[b]? = some ob → Shp K ob → K = 2 := fun ob hob hs => by
    rcases shp_cell hob hs hc with ⟨_, ⟨_, _, _, _, e, _⟩ | ⟨_, _, _, _, e⟩ | ⟨hj, _, e⟩ | ⟨_, _, e⟩⟩ | ⟨hK, _, e⟩ | e
    · cases e
    · cases e
    · rcases shp_cell hob hs hd with ⟨_, ⟨hj1, _⟩ | ⟨hj1, _⟩ | ⟨_, _, e⟩ | ⟨_, _, e⟩⟩ | ⟨hK, _, e⟩ | e
      · omega
      · omega
      · cases e
      · cases e
      · cases e
      · exact e
    · cases e
    · rcases shp_cell hob hs hd with ⟨hK', _⟩ | ⟨_, _, e⟩ | e
      · omega
      · cases e
      · exact e
    · exact e
  exact ⟨b, o, A', c, e, hb, h.cell hc hns, h.cell hd hns, Octs.rk h ho, hl⟩
theorem Dsk.rk {K : Nat} {w w' : World} (h : RK K w w') {A : Option Addr} {n c : Nat} {A' : Option Addr} {m c' : Nat} {S : List (List UInt8)} {W : Ws} (hd : Dsk w A n c A' m c' S W) (h2 : 2 ≤ S.length) (h64 : ∀ b ∈ S, b.length = 64) : Dsk w' A n c A' m c' S W :=
  ⟨(Parts.rk h hd.s h2 h64).more h.size, (Pend.rk h hd.w_).more h.size, hd.hn, hd.hm, hd.hc, hd.hc'⟩
/-- A whole struct of four is stored into a box. -/
theorem rk_st4 {K : Nat} {w : World} {g : Nat} {o : Obj} (hg : w.heap[g]? = some o) (hs : Shp K o) {a b c d : Value} (hv : ∃ T, (st4 w g a b c d).heap[g]? = some (.cells #[a, b, c, d] T (0, 0)) ∧ Shp K (.cells #[a, b, c, d] T (0, 0))) : RK K w (st4 w g a b c d) := by
  obtain ⟨T, hv, hs2⟩ := hv
  refine ⟨by rw [st4_size]; exact Nat.le_refl _, fun k ob hk => ?_⟩
  by_cases hkg : k = g
  · subst hkg
    rw [hg] at hk
    cases hk
    exact .inl ⟨hs, _, hv, hs2⟩
  · exact .inr (by rw [st4_far _ _ _ _ _ hkg]; exact hk)
theorem rk_below {K : Nat} {w w' : World} (h : Below w.heap.size w w') : RK K w w' := ⟨h.size, fun b o hb => .inr (by
  rw [h.block b (by
    rcases Nat.lt_or_ge b w.heap.size with h | h
    · exact h
    · rw [Array.getElem?_eq_none h] at hb; cases hb)]
  exact hb)⟩

/-- A disk as a value. -/
def Okd (w : World) (v : Value) (D : DD) : Prop := ∃ A c A' c', v = dv A D.S.length c A' D.W.length c' D.L D.O ∧ Dsk w A D.S.length c A' D.W.length c' D.S D.W ∧ (D.W.length = 0 → A' = none ∧ c' = 0)
theorem Okd.below {w w' : World} {v : Value} {D : DD} (h : Okd w v D) (hb : Below w.heap.size w w') : Okd w' v D := by
  obtain ⟨A, c, A', c', e, hd, hz⟩ := h
  exact ⟨A, c, A', c', e, hd.below hb, hz⟩
theorem Okd.rk {K : Nat} {w w' : World} {v : Value} {D : DD} {t : Nat} (h : Okd w v D) (hf : Fit D t) (hr : RK K w w') : Okd w' v D := by
  obtain ⟨A, c, A', c', e, hd, hz⟩ := h
  exact ⟨A, c, A', c', e, Dsk.rk hr hd hf.two (sec_of hf.may).1, hz⟩
theorem lfw_lft (L : Int) (k : Nat) : lfw L k = lft L k := rfl

/-- disk.Write, of so many sectors, with power or without. -/
theorem write_d {w : World} {v : Value} {D : DD} {t : Nat} (h : Okd w v D) (hf : Fit D t) (ht : t ≤ 90000) (bb bo cb N i : Nat) (l : List UInt8) (hN : 1 ≤ N) (hN2 : N ≤ 4096) (hl : l.length = 64 * N) (ho : Octs w w.heap.size (some ⟨bb, bo, none⟩) l) (hcb : l.length ≤ cb) (hcb2 : cb ≤ 9223372036854775807) (hi : i + N ≤ D.S.length) :
    Calls Try.prog 58 #[v, .int .i64 (i : Int), .slice (some ⟨bb, bo, none⟩) l.length cb] w fun e w' => ∃ v', e = .returned (.tuple #[v', .int .i64 (wrC i (chunks l N) D).2]) ∧ Okd w' v' (wrC i (chunks l N) D).1 ∧ Below w.heap.size w w' := by
  obtain ⟨A, c, A', c', rfl, hd, hz⟩ := h
  have hm := hf.w_
  have hle : D.S.length ≤ 4096 := ((may_iff _ _ _).1 hf.may).2.1
  have hne : chunks l N ≠ [] := fun e => by have := chunks_len l N; rw [e] at this; simp at this; omega
  refine (write_any A D.S.length c A' D.W.length c' D.S D.W D.L D.O bb bo cb N l (i : Int) w hd hf.may (by omega) hz hN hN2 hl ho hcb hcb2 hf.l2 (by unfold thereB; simp; omega) (by omega) (by omega)).mono ?_
  rintro e w' ⟨k, A1, c1, hD, hb, hz1, he⟩
  have hcl := chunks_len l N
  unfold wrC wrD
  rw [if_neg hne]
  have hL1 : -1 ≤ D.L := ((may_iff _ _ _).1 hf.may).2.2.1
  rcases he with ⟨rfl, hO, hL, rfl⟩ | ⟨hkN, hw, rfl⟩
  · rw [if_neg (by simp [hO]), if_pos (by rw [hcl]; exact hL), hcl, lfw_lft]
    refine ⟨_, rfl, ⟨A, c, A1, c1, ?_, ?_, ?_⟩, hb⟩
    · simp only [List.length_append, wsA_len, hcl]
    · simpa only [List.length_append, wsA_len, hcl] using hD
    · simpa only [List.length_append, wsA_len, hcl] using hz1
  · have hct : ∀ j, j ≤ N → (chunks l N).take j = chunks l j := fun j hj => by
      unfold chunks
      rw [← List.map_take, List.take_range, Nat.min_eq_left hj]
    rcases hw with ⟨hO, rfl⟩ | ⟨hO, hL⟩
    · rw [if_pos hO]
      have hc0 : chunks l 0 = [] := rfl
      rw [hc0] at hD
      simp only [wsA, List.append_nil, Nat.add_zero] at hD hz1
      refine ⟨_, rfl, ⟨A, c, A1, c1, ?_, hD, hz1⟩, hb⟩
      simp only [Nat.add_zero, lft_zero]
    · have hLt : D.L.toNat = k := by omega
      rw [if_neg (by simp [hO]), if_neg (by rw [hcl]; omega), hLt, hct k (by omega), lfw_lft]
      refine ⟨_, rfl, ⟨A, c, A1, c1, ?_, ?_, ?_⟩, hb⟩
      · simp only [List.length_append, wsA_len, chunks_len]
      · simpa only [List.length_append, wsA_len, chunks_len] using hD
      · simpa only [List.length_append, wsA_len, chunks_len] using hz1
/-- disk.Flush, with power or without. -/
theorem flush_d {w : World} {v : Value} {D : DD} {t : Nat} (h : Okd w v D) (hf : Fit D t) (ht : t ≤ 100000) :
    Calls Try.prog 37 #[v] w fun e w' => ∃ v', e = .returned (.tuple #[v', .int .i64 (flD D).2]) ∧ Okd w' v' (flD D).1 ∧ Below w.heap.size w w' := by
  obtain ⟨A, c, A', c', rfl, hd, hz⟩ := h
  have hm := hf.w_
  unfold flD
  cases hO : spO D.L D.O with
  | true =>
    rw [if_pos rfl]
    refine (flush_off A D.S.length c A' D.W.length c' D.S D.W D.L D.O w hd hf.may (by omega) hO hf.l2).mono ?_
    rintro e w' ⟨rfl, hb⟩
    exact ⟨_, rfl, ⟨A, c, A', c', rfl, hd.below hb, hz⟩, hb⟩
  | false =>
    rw [if_neg (by simp)]
    have h1 : D.O = false ∧ D.L ≠ 0 := by unfold spO at hO; simpa using hO
    have hd' := hd
    rw [show dv A D.S.length c A' D.W.length c' D.L D.O = dv A D.S.length c A' D.W.length c' D.L false by rw [h1.1]]
    refine (flush_on A D.S.length c A' D.W.length c' D.S D.W D.L w hd hf.may (by omega) h1.2 hf.l2).mono ?_
    rintro e w' ⟨g, cap, rfl, hD, hb⟩
    refine ⟨_, rfl, ⟨some ⟨g, 0, none⟩, cap, none, 0, ?_, ?_, fun _ => ⟨rfl, rfl⟩⟩, hb⟩
    · simp only [done_len, List.length_nil, h1.1]
    · simpa only [done_len, List.length_nil] using hD
end Go.Proofs.Ytjcgggheablpeaa.Wal
