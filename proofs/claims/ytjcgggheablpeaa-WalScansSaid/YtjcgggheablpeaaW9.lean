/- Rows of records of the call's own, and reading a disk on which nothing waits. -/
import Derived.Test.YtjcgggheablpeaaW8
import Derived.Test.YtjcgggheablpeaaGE
namespace Go.Proofs.Ytjcgggheablpeaa.Wal
open Go.RowKit Dis Dis.Dk

theorem info58 : (Try.prog.info? 58).map (fun i => (i.zero, i.size, i.bytes)) = some (some (.agg #[.int .i64 0, .slice none 0 0]), 2, 32) := by kernel_rfl
/-- A row of the call's own that has these records. -/
def FrRow (w : World) (base b2 : Nat) (v : Value) (fs : Ws) : Prop := ∃ xs, w.ownsRow base 58 2 v fs.length xs ∧ RdW w b2 xs fs
theorem frRow_nil (w : World) (base b2 : Nat) : FrRow w base b2 (.slice none 0 0) [] := ⟨[], ⟨rfl, .inl ⟨rfl, rfl⟩⟩, rfl, fun k hk => by cases hk⟩
theorem FrRow.below {w w' : World} {base b2 : Nat} {v : Value} {fs : Ws} (h : FrRow w base b2 v fs) (hb : Below w.heap.size w w') : FrRow w' base b2 v fs := by
  obtain ⟨xs, h1, h2⟩ := h
  exact ⟨xs, row_below h1 hb (Nat.le_refl _), h2.keep (keepW_below hb)⟩
theorem FrRow.form {w : World} {base b2 : Nat} {v : Value} {fs : Ws} (h : FrRow w base b2 v fs) : ∃ A c, v = .slice A fs.length c ∧ fs.length ≤ c ∧ c ≤ 9223372036854775807 := by
  obtain ⟨xs, h1, h2⟩ := h
  rcases h1.2 with ⟨rfl, h0⟩ | ⟨g, cap, cur, rfl, _, _, hc, hm, _⟩
  · exact ⟨none, 0, by rw [h0], by omega, by decide⟩
  · exact ⟨_, cap, rfl, hc, by simpa only [maxLen] using hm⟩
theorem FrRow.pend {w : World} {base b2 n c : Nat} {A : Option Addr} {fs : Ws} (h : FrRow w base b2 (.slice A n c) fs) : Pend w w.heap.size A fs := fun k hk => by
  obtain ⟨xs, h1, hr⟩ := h
  obtain ⟨A2, c2, q1, q2, q3, q4, q5, q6, q7⟩ := hr.2 k hk
  obtain ⟨g, cap, e, _, hg⟩ := h1.form (by omega)
  injection e with e1 e2 e3
  subst e1
  have k1 := h1.cells (g := g) rfl _ _ q1
  have k2 := h1.cells (g := g) rfl _ _ q2
  rw [Addr.add_lit] at k1 k2
  exact ⟨g, 0, A2, c2, rfl, hg, k1, k2, q3.octs, q4, q5, q6, q7⟩
/-- A store into a box ahead of the row. -/
theorem FrRow.set {w : World} {base b2 : Nat} {v : Value} {fs : Ws} (h : FrRow w base b2 v fs) {p : Addr} (u : Value) {cs : Array Value} {t : TypeId} {fr : Nat × Nat} (hp : w.heap[p.block]? = some (.cells cs t fr)) (ht : t ≠ 5) (h1 : p.block < base) (h2 : b2 ≤ p.block) : FrRow (w.setCell p u) base b2 v fs := by
  obtain ⟨xs, q1, q2⟩ := h
  exact ⟨xs, row_set q1 p u h1, q2.keep (keepW_set w p u hp ht h2)⟩
theorem FrRow.st4 {w : World} {base b2 : Nat} {v : Value} {fs : Ws} (h : FrRow w base b2 v fs) {g : Nat} (a b c d : Value) {cs : Array Value} {t : TypeId} (hp : w.heap[g]? = some (.cells cs t (0, 0))) (ht : t ≠ 5) (h1 : g < base) (h2 : b2 ≤ g) : FrRow (st4 w g a b c d) base b2 v fs := by
  obtain ⟨xs, q1, q2⟩ := h
  exact ⟨xs, row_set (row_set (row_set (row_set q1 _ _ h1) _ _ h1) _ _ h1) _ _ h1, q2.keep (keepW_st4 w g a b c d hp ht h2)⟩
theorem run_appF (w : World) (base : Nat) (v : Value) (n : Nat) (xs : List Value) (h : w.ownsRow base 58 2 v n xs) (g : Nat) (a : Int) (A : Option Addr) (k c : Nat) (h0 : w.cell? ⟨g, 0, none⟩ = some (.int .i64 a)) (h1 : w.cell? ⟨g, 1, none⟩ = some (.slice A k c)) (hn : n ≤ 1000000) (hb : base ≤ w.heap.size) :
    ∃ v' w', (Builtin.append_ #[43, 43] 43 #[v, .slice (some ⟨g, 0, none⟩) 1 1]).run Try.prog w = .ok v' w' ∧ w'.ownsRow base 58 2 v' (n + 1) (xs ++ [.int .i64 a, .slice A k c]) ∧ w.grownBy w' v.ownBlock := by
  obtain ⟨i0, hi, hz0, hz1, hz2⟩ := info_parts info58
  exact run_app_own (P := Try.prog) w base 43 58 i0 _ 2 32 Try.underlying43 hi hz0 hz1 hz2 rfl (by decide) v n xs h (some ⟨g, 0, none⟩) 1 1 [.int .i64 a, .slice A k c] rfl (fun _ => ⟨g, 0, rfl, fun j u' hu => by
    rcases j with _ | _ | j
    · simp at hu; subst hu; exact h0
    · simp at hu; subst hu; exact h1
    · simp at hu⟩) (by intro x hx; simp at hx; rcases hx with rfl | rfl <;> rfl) (by simp only [maxLen]; omega) (by omega) hb
/-- One record more. -/
theorem FrRow.snoc {w : World} {base b2 : Nat} {v : Value} {fs : Ws} (h : FrRow w base b2 v fs) (g : Nat) (a : Int) (A : Option Addr) (d : List UInt8) (c : Nat) (h0 : w.cell? ⟨g, 0, none⟩ = some (.int .i64 a)) (h1 : w.cell? ⟨g, 1, none⟩ = some (.slice A d.length c)) (ho : OctsW w b2 A d) (hc : d.length ≤ c) (hd : d.length ≤ 140737488351232) (ha1 : -9223372036854775808 ≤ a) (ha2 : a ≤ 9223372036854775807) (hn : fs.length ≤ 1000000) (hb : base ≤ w.heap.size) (hb2 : b2 ≤ base) :
    ∃ v' w', (Builtin.append_ #[43, 43] 43 #[v, .slice (some ⟨g, 0, none⟩) 1 1]).run Try.prog w = .ok v' w' ∧ FrRow w' base b2 v' (fs ++ [(a, d)]) ∧ KeepW b2 w w' ∧ Below base w w' ∧ w.grownBy w' v.ownBlock := by
  obtain ⟨xs, q1, q2⟩ := h
  obtain ⟨v', w', hr, hw, hg⟩ := run_appF w base v fs.length xs q1 g a A d.length c h0 h1 hn hb
  have hk : KeepW b2 w w' := keep_row q1 (by decide) hb2 hg
  refine ⟨v', w', hr, ⟨_, by simpa using hw, ?_⟩, hk, (Below.refl _ _).grown hg hb (fun k e => (q1.lt k e).1), hg⟩
  exact (q2.keep hk).snoc (ho.keep hk) hc hd ha1 ha2
/-- Reading of a disk on which nothing waits. -/
theorem read_d {w : World} {v : Value} {D : DD} {t : Nat} (h : Okd w v D) (hf : Fit D t) (hW : D.W = []) (hO : D.O = false) (i k : Nat) (hk : 2 ≤ k) (hik : i + k ≤ D.S.length) :
    Calls Try.prog 43 #[v, .int .i64 (i : Int), .int .i64 (k : Int)] w fun e w' => ∃ g cap, e = .returned (.tuple #[.slice (some ⟨g, 0, none⟩) (64 * k) cap, .int .i64 0]) ∧ Octs w' w'.heap.size (some ⟨g, 0, none⟩) ((D.S.drop i).take k).flatten ∧ 64 * k ≤ cap ∧ cap ≤ 9223372036854775807 ∧ Below w.heap.size w w' := by
  obtain ⟨A, c, A', c', rfl, hd, hz⟩ := h
  obtain ⟨S, W, L, O⟩ := D
  simp only at hW hO hd hz hik ⊢
  subst hW hO
  obtain ⟨rfl, rfl⟩ := hz rfl
  exact read_any A S.length c S L i k w hd hf.may hk hik
end Go.Proofs.Ytjcgggheablpeaa.Wal
