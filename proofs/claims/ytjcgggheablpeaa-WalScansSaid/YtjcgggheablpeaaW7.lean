/- What the steps of an append are, in memory. -/
import Derived.Test.YtjcgggheablpeaaW6
namespace Go.Proofs.Ytjcgggheablpeaa.Wal
open Go.RowKit Dis Dis.Dk

theorem octs_chk {w : World} {B : Nat} {A : Option Addr} {l : List UInt8} (h : Octs w B A l) : Chk.Octs w B A l := fun i hi => by
  obtain ⟨b, o, e, hb, hc⟩ := h i hi
  exact ⟨_, e, hb, by rw [Addr.add_lit]; exact hc⟩
/-- A function that writes octets from a sector on. -/
def FnO (w : World) (v : Value) (i : Int) (l : List UInt8) : Prop := ∃ ga gb A c, v = .func (.func 57) #[] #[.pointer (some ⟨gb, 0, none⟩), .pointer (some ⟨ga, 0, none⟩)] ∧ w.heap[ga]? = some (.cells #[.int .i64 i] 3 (0, 0)) ∧ w.heap[gb]? = some (.cells #[.slice A l.length c] 28 (0, 0)) ∧
  Octs w w.heap.size A l ∧ l.length ≤ c ∧ c ≤ 9223372036854775807
theorem not_one {K : Nat} {v : Value} {T : TypeId} {fr : Nat × Nat} : ¬ Shp K (.cells #[v] T fr) := fun h => by
  rcases shp_two h with rfl | rfl | rfl
  · obtain ⟨_, _, _, _, _, _, _, _, e, _⟩ := h
    simp at e
  · obtain ⟨_, _, _, _, e⟩ := h
    simp at e
  · exact not2 (by simp) h
theorem not_five {K : Nat} {v0 v1 v2 v3 v4 : Value} {T : TypeId} {fr : Nat × Nat} : ¬ Shp K (.cells #[v0, v1, v2, v3, v4] T fr) := fun h => by
  rcases shp_two h with rfl | rfl | rfl
  · obtain ⟨_, _, _, _, _, _, _, _, e, _⟩ := h
    simp at e
  · obtain ⟨_, _, _, _, e⟩ := h
    simp at e
  · exact not2 (by simp) h
theorem not_two {K : Nat} {v0 v1 : Value} {T : TypeId} {fr : Nat × Nat} : ¬ Shp K (.cells #[v0, v1] T fr) := fun h => by
  rcases shp_two h with rfl | rfl | rfl
  · obtain ⟨_, _, _, _, _, _, _, _, e, _⟩ := h
    simp at e
  · obtain ⟨_, _, _, _, e⟩ := h
    simp at e
  · exact not2 (by simp) h
theorem FnO.below {w w' : World} {v : Value} {i : Int} {l : List UInt8} (h : FnO w v i l) (hb : Below w.heap.size w w') : FnO w' v i l := by
  obtain ⟨ga, gb, A, c, e, h1, h2, h3, h4⟩ := h
  exact ⟨ga, gb, A, c, e, box_at h1 hb, box_at h2 hb, (h3.below hb (Nat.le_refl _)).more hb.size, h4⟩
theorem FnO.rk {K : Nat} {w w' : World} {v : Value} {i : Int} {l : List UInt8} (h : FnO w v i l) (hr : RK K w w') : FnO w' v i l := by
  obtain ⟨ga, gb, A, c, e, h1, h2, h3, h4⟩ := h
  exact ⟨ga, gb, A, c, e, hr.far h1 not_one, hr.far h2 not_one, (Octs.rk hr h3).more hr.size, h4⟩
def lfFn (i : Int) (l : List UInt8) : LeftK := ⟨fun v w => FnO w v i l, none, fun _ _ _ hb h => h.below hb, fun _ _ _ _ _ hr h => h.rk hr⟩
def lfNz : LeftK := ⟨fun v w => ∃ g, v = .slice (some ⟨g, 0, none⟩) 64 64 ∧ Octs w w.heap.size (some ⟨g, 0, none⟩) nz, none, fun _ _ _ hb ⟨g, e, h⟩ => ⟨g, e, (h.below hb (Nat.le_refl _)).more hb.size⟩, fun _ _ _ _ _ hr ⟨g, e, h⟩ => ⟨g, e, (Octs.rk hr h).more hr.size⟩⟩
abbrev f37 : Value := .func (.func 37) #[] #[]
/-- The five steps of an append. -/
def lfRow5 (i1 i2 i4 : Int) (l1 l2 l4 : List UInt8) : LeftK := ⟨fun v w => ∃ gs v1 v2 v4, v = .slice (some ⟨gs, 0, none⟩) 5 5 ∧ w.heap[gs]? = some (.cells #[v1, v2, f37, v4, f37] 79 (0, 0)) ∧ FnO w v1 i1 l1 ∧ FnO w v2 i2 l2 ∧ FnO w v4 i4 l4, none,
  fun _ _ _ hb ⟨gs, v1, v2, v4, e, h, h1, h2, h4⟩ => ⟨gs, v1, v2, v4, e, box_at h hb, h1.below hb, h2.below hb, h4.below hb⟩, fun _ _ _ _ _ hr ⟨gs, v1, v2, v4, e, h, h1, h2, h4⟩ => ⟨gs, v1, v2, v4, e, hr.far h not_five, h1.rk hr, h2.rk hr, h4.rk hr⟩⟩
/-- The two of a clearing. -/
def lfRow2 (i1 : Int) (l1 : List UInt8) : LeftK := ⟨fun v w => ∃ gs v1, v = .slice (some ⟨gs, 0, none⟩) 2 2 ∧ w.heap[gs]? = some (.cells #[v1, f37] 79 (0, 0)) ∧ FnO w v1 i1 l1, none,
  fun _ _ _ hb ⟨gs, v1, e, h, h1⟩ => ⟨gs, v1, e, box_at h hb, h1.below hb⟩, fun _ _ _ _ _ hr ⟨gs, v1, e, h, h1⟩ => ⟨gs, v1, e, hr.far h not_two, h1.rk hr⟩⟩

theorem ent57 (args : Array Value) (W : World) : (callFunc 57 args).run Try.prog W = .ok (.enter 57 args) W := rfl
theorem ent37 (args : Array Value) (W : World) : (callFunc 37 args).run Try.prog W = .ok (.enter 37 args) W := rfl
theorem stp_flush (w : World) (s : Nat) : Stp.ok ⟨37, #[], flD⟩ w s := ⟨ent37, fun W v D t _ h hf ht hs => ⟨flush_d h hf (by omega), hf.fl.1.more (by omega), hf.fl.2.trans hs⟩⟩
theorem stp_write {w : World} {v : Value} {i N : Nat} {l : List UInt8} {s : Nat} (h : FnO w v i l) (hl : l.length = 64 * N) (hN : N ≤ 100) (hi : i + N ≤ s) (hs64 : s ≠ 64) : ∃ cap, v = .func (.func 57) #[] cap ∧ Stp.ok ⟨57, cap, wrC i (chunks l N)⟩ w s := by
  obtain ⟨ga, gb, A, c, rfl, h1, h2, h3, h4, h5⟩ := h
  refine ⟨_, rfl, ent57, fun W v D t hb hok hf ht hs => ?_⟩
  have hfit := hf.wr i (chunks l N) (fun b hb => chunks_mem hl b hb) (by rw [chunks_len]; omega)
  refine ⟨?_, hfit.1.more (by rw [chunks_len]; omega), hfit.2 ▸ hs⟩
  exact write_step hok hf (by omega) (by rw [hs]; exact hs64) ga gb A c N i l (by omega) hl ((h3.below hb (Nat.le_refl _)).more hb.size) h4 h5 (by omega) (box_at h1 hb) (box_at h2 hb)
theorem runD_fit (s : Nat) (δs : List (DD → DD × Int)) (h : ∀ δ ∈ δs, ∀ D t, Fit D t → D.S.length = s → Fit (δ D).1 (t + 100) ∧ (δ D).1.S.length = s) : ∀ (D : DD) (t : Nat), Fit D t → D.S.length = s → Fit (runD δs D).1 (t + 100 * δs.length) ∧ (runD δs D).1.S.length = s := by
  induction δs with
  | nil => intro D t hf hs; exact ⟨hf, hs⟩
  | cons δ r ih =>
    intro D t hf hs
    obtain ⟨h1, h2⟩ := h δ List.mem_cons_self D t hf hs
    rw [runD]
    split
    · have := ih (fun q hq => h q (List.mem_cons_of_mem _ hq)) _ _ h1 h2
      exact ⟨this.1.more (by simp only [List.length_cons]; omega), this.2⟩
    · exact ⟨h1.more (by simp only [List.length_cons]; omega), h2⟩
theorem runD_err (δs : List (DD → DD × Int)) (h : ∀ δ ∈ δs, ∀ D, (δ D).2 = 0 ∨ (δ D).2 = 10) : ∀ (D : DD), (runD δs D).2 = 0 ∨ (runD δs D).2 = 10 := by
  induction δs with
  | nil => intro D; exact .inl rfl
  | cons δ r ih =>
    intro D
    rw [runD]
    split
    · exact ih (fun q hq => h q (List.mem_cons_of_mem _ hq)) _
    · exact h δ List.mem_cons_self D
theorem wrC_err (i : Int) (bs : List (List UInt8)) (D : DD) : (wrC i bs D).2 = 0 ∨ (wrC i bs D).2 = 10 := by
  unfold wrC wrD
  split
  · exact .inl rfl
  split
  · exact .inr rfl
  split
  · exact .inl rfl
  · exact .inr rfl
theorem flD_err (D : DD) : (flD D).2 = 0 ∨ (flD D).2 = 10 := by
  unfold flD
  split
  · exact .inr rfl
  · exact .inl rfl
theorem app_fit {D : DD} {t i k : Nat} {l : List UInt8} (hf : Fit D t) (hl : l.length = 64 * k) (hk : 1 ≤ k) (hk2 : k ≤ 96) (hi : i + k + 1 ≤ D.S.length) : Fit (runD (appSteps i k l) D).1 (t + 500) ∧ (runD (appSteps i k l) D).1.S.length = D.S.length ∧ ((runD (appSteps i k l) D).2 = 0 ∨ (runD (appSteps i k l) D).2 = 10) := by
  have h1 : ∀ b ∈ chunks (l.drop 64) (k - 1), b.length = 64 := chunks_mem (by rw [List.length_drop]; omega)
  have h2 : ∀ b ∈ [nz], b.length = 64 := fun b hb => by rw [List.mem_singleton.1 hb]; exact nz_len
  have h3 : ∀ b ∈ [l.take 64], b.length = 64 := fun b hb => by rw [List.mem_singleton.1 hb, List.length_take]; omega
  have h := runD_fit D.S.length (appSteps i k l) (fun δ hδ E t' hE hEs => by
    simp only [appSteps, List.mem_cons, List.not_mem_nil, or_false] at hδ
    rcases hδ with rfl | rfl | rfl | rfl | rfl
    · have := hE.wr (i + 1) _ h1 (by rw [chunks_len]; omega)
      exact ⟨this.1.more (by rw [chunks_len]; omega), this.2 ▸ hEs⟩
    · have := hE.wr (i + k) _ h2 (by simp; omega)
      exact ⟨this.1.more (by simp), this.2 ▸ hEs⟩
    · exact ⟨hE.fl.1.more (by omega), hE.fl.2.trans hEs⟩
    · have := hE.wr i _ h3 (by simp; omega)
      exact ⟨this.1.more (by simp), this.2 ▸ hEs⟩
    · exact ⟨hE.fl.1.more (by omega), hE.fl.2.trans hEs⟩) D t hf rfl
  refine ⟨h.1.more (by simp [appSteps]), h.2, runD_err _ (fun δ hδ E => ?_) D⟩
  simp only [appSteps, List.mem_cons, List.not_mem_nil, or_false] at hδ
  rcases hδ with rfl | rfl | rfl | rfl | rfl
  · exact wrC_err _ _ _
  · exact wrC_err _ _ _
  · exact flD_err _
  · exact wrC_err _ _ _
  · exact flD_err _
/-- The five steps together. -/
theorem steps5 {w : World} {v : Value} {D : DD} {t : Nat} {i k : Nat} {l : List UInt8} {gs : Nat} {v1 v2 v4 : Value} (h : Okd w v D) (hf : Fit D t) (ht : t ≤ 10000) (h64 : D.S.length ≠ 64) (hl : l.length = 64 * k) (hk : 1 ≤ k) (hk2 : k ≤ 96) (hi : i + k + 1 ≤ D.S.length)
    (hg : w.heap[gs]? = some (.cells #[v1, v2, f37, v4, f37] 79 (0, 0))) (h1 : FnO w v1 ((i + 1 : Nat) : Int) (l.drop 64)) (h2 : FnO w v2 ((i + k : Nat) : Int) nz) (h4 : FnO w v4 (i : Int) (l.take 64)) :
    Calls Try.prog 34 #[v, .slice (some ⟨gs, 0, none⟩) 5 5] w fun e w' => ∃ v', e = .returned (.tuple #[v', .int .i64 (runD (appSteps i k l) D).2]) ∧ Okd w' v' (runD (appSteps i k l) D).1 ∧ Below w.heap.size w w' := by
  obtain ⟨c1, rfl, o1⟩ := stp_write (s := D.S.length) (N := k - 1) h1 (by rw [List.length_drop]; omega) (by omega) (by omega) h64
  obtain ⟨c2, rfl, o2⟩ := stp_write (s := D.S.length) (N := 1) h2 nz_len (by omega) (by omega) h64
  obtain ⟨c4, rfl, o4⟩ := stp_write (s := D.S.length) (N := 1) h4 (by rw [List.length_take]; omega) (by omega) (by omega) h64
  have hc : chunks nz 1 = [nz] := by decide
  have hc4 : chunks (l.take 64) 1 = [l.take 64] := by
    have := chunks_drop (l.take 64) 0
    rw [List.take_take, Nat.min_self] at this
    exact this
  have hq := do_any w v D t D.S.length gs [⟨57, c1, wrC ((i + 1 : Nat) : Int) (chunks (l.drop 64) (k - 1))⟩, ⟨57, c2, wrC ((i + k : Nat) : Int) (chunks nz 1)⟩, ⟨37, #[], flD⟩, ⟨57, c4, wrC (i : Int) (chunks (l.take 64) 1)⟩, ⟨37, #[], flD⟩] h hf ht rfl h64 (fun q hq => by
    simp only [List.mem_cons, List.not_mem_nil, or_false] at hq
    rcases hq with rfl | rfl | rfl | rfl | rfl
    · exact o1
    · exact o2
    · exact stp_flush _ _
    · exact o4
    · exact stp_flush _ _) (by simp) ⟨lt_of_at hg, fun j hj => by
      rw [cell_of_row w gs j _ _ _ hg]
      simp only [List.length_cons, List.length_nil] at hj
      have : j = 0 ∨ j = 1 ∨ j = 2 ∨ j = 3 ∨ j = 4 := by omega
      rcases this with rfl | rfl | rfl | rfl | rfl <;> rfl⟩
  simp only [List.map_cons, List.map_nil, hc, hc4] at hq
  exact hq
end Go.Proofs.Ytjcgggheablpeaa.Wal
