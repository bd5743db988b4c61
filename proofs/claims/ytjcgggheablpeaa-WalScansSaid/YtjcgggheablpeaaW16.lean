/- Rows of records of the call's own of which all cells, also those behind the end, are of their kinds. -/
import Derived.Test.YtjcgggheablpeaaW15
namespace Go.Proofs.Ytjcgggheablpeaa.Wal
open Go.RowKit Dis Dis.Dk

def FaRow (w : World) (base b2 : Nat) (v : Value) (fs : Ws) : Prop := ∃ xs, w.ownsRow base 58 2 v fs.length xs ∧ RdW w b2 xs fs ∧ AllPc w 2 v PcF
theorem faRow_nil (w : World) (base b2 : Nat) : FaRow w base b2 (.slice none 0 0) [] := ⟨[], ⟨rfl, .inl ⟨rfl, rfl⟩⟩, ⟨rfl, fun k hk => by cases hk⟩, fun g cs T fr e => by simp [Value.ownBlock] at e⟩
theorem FaRow.fr {w : World} {base b2 : Nat} {v : Value} {fs : Ws} (h : FaRow w base b2 v fs) : FrRow w base b2 v fs := by
  obtain ⟨xs, h1, h2, _⟩ := h
  exact ⟨xs, h1, h2⟩
theorem FaRow.below {w w' : World} {base b2 : Nat} {v : Value} {fs : Ws} (h : FaRow w base b2 v fs) (hb : Below w.heap.size w w') : FaRow w' base b2 v fs := by
  obtain ⟨xs, h1, h2, h3⟩ := h
  exact ⟨xs, row_below h1 hb (Nat.le_refl _), h2.keep (keepW_below hb), allPc_below h3 (fun g e => (h1.lt g e).2) hb⟩
theorem FaRow.form {w : World} {base b2 : Nat} {v : Value} {fs : Ws} (h : FaRow w base b2 v fs) : ∃ A c, v = .slice A fs.length c ∧ fs.length ≤ c ∧ c ≤ 9223372036854775807 := h.fr.form
theorem FaRow.pend {w : World} {base b2 n c : Nat} {A : Option Addr} {fs : Ws} (h : FaRow w base b2 (.slice A n c) fs) : Pend w w.heap.size A fs := h.fr.pend
theorem FaRow.lt {w : World} {base b2 : Nat} {v : Value} {fs : Ws} (h : FaRow w base b2 v fs) {g : Nat} (e : v.ownBlock = some g) : base ≤ g ∧ g < w.heap.size := by
  obtain ⟨xs, h1, _⟩ := h
  exact h1.lt g e
theorem FaRow.mute {w : World} {base b2 : Nat} {v : Value} {fs : Ws} (h : FaRow w base b2 v fs) : Mute w v.ownBlock := by
  obtain ⟨xs, h1, _, h3⟩ := h
  exact mute_of h1 (.inr ⟨rfl, h3⟩)
theorem owns_less {w : World} {base base' n size : Nat} {e : TypeId} {v : Value} {xs : List Value} (h : w.ownsRow base e size v n xs) (hb : base' ≤ base) : w.ownsRow base' e size v n xs :=
  ⟨h.1, h.2.imp id fun ⟨g, cap, cur, e1, e2, r⟩ => ⟨g, cap, cur, e1, Nat.le_trans hb e2, r⟩⟩
theorem FaRow.less {w : World} {base base' b2 : Nat} {v : Value} {fs : Ws} (h : FaRow w base b2 v fs) (hb : base' ≤ base) : FaRow w base' b2 v fs := by
  obtain ⟨xs, h1, h2⟩ := h
  exact ⟨xs, owns_less h1 hb, h2⟩
theorem FaRow.set {w : World} {base b2 : Nat} {v : Value} {fs : Ws} (h : FaRow w base b2 v fs) {p : Addr} (u : Value) {cs : Array Value} {t : TypeId} {fr : Nat × Nat} (hp : w.heap[p.block]? = some (.cells cs t fr)) (ht : t ≠ 5) (h1 : p.block < base) (h2 : b2 ≤ p.block) : FaRow (w.setCell p u) base b2 v fs := by
  obtain ⟨xs, q1, q2, q3⟩ := h
  exact ⟨xs, row_set q1 p u h1, q2.keep (keepW_set w p u hp ht h2), allPc_far q3 fun g' e => Below.heap_setCell _ _ _ _ (by have := (q1.lt g' e).1; omega)⟩
theorem FaRow.st4 {w : World} {base b2 : Nat} {v : Value} {fs : Ws} (h : FaRow w base b2 v fs) {g : Nat} (a b c d : Value) {cs : Array Value} {t : TypeId} (hp : w.heap[g]? = some (.cells cs t (0, 0))) (ht : t ≠ 5) (h1 : g < base) (h2 : b2 ≤ g) : FaRow (st4 w g a b c d) base b2 v fs := by
  obtain ⟨xs, q1, q2, q3⟩ := h
  exact ⟨xs, row_set (row_set (row_set (row_set q1 _ _ h1) _ _ h1) _ _ h1) _ _ h1, q2.keep (keepW_st4 w g a b c d hp ht h2), allPc_far q3 fun g' e => st4_far _ _ _ _ _ (by have := (q1.lt g' e).1; omega)⟩
/-- One record more. -/
theorem FaRow.snoc {w : World} {base b2 : Nat} {v : Value} {fs : Ws} (h : FaRow w base b2 v fs) (g : Nat) (a : Int) (A : Option Addr) (d : List UInt8) (c : Nat) (h0 : w.cell? ⟨g, 0, none⟩ = some (.int .i64 a)) (h1 : w.cell? ⟨g, 1, none⟩ = some (.slice A d.length c)) (ho : OctsW w b2 A d) (hc : d.length ≤ c) (hd : d.length ≤ 140737488351232) (ha1 : -9223372036854775808 ≤ a) (ha2 : a ≤ 9223372036854775807) (hn : fs.length ≤ 1000000) (hb : base ≤ w.heap.size) (hb2 : b2 ≤ base) :
    ∃ v' w', (Builtin.append_ #[43, 43] 43 #[v, .slice (some ⟨g, 0, none⟩) 1 1]).run Try.prog w = .ok v' w' ∧ FaRow w' base b2 v' (fs ++ [(a, d)]) ∧ KeepW b2 w w' ∧ Below base w w' ∧ w.grownBy w' v.ownBlock := by
  obtain ⟨xs, q1, q2, q3⟩ := h
  obtain ⟨i0, hi, hz0, hz1, hz2⟩ := info_parts info58
  have hnews : ∀ (j : Nat) (u : Value), ([.int .i64 a, .slice A d.length c] : List Value)[j]? = some u → w.cell? ⟨g, 0 + j, none⟩ = some u ∧ PcF (j % 2) u ∧ u.oneCell' = true := fun j u hu => by
    rcases j with _ | _ | j
    · simp at hu; subst hu; exact ⟨h0, .inl ⟨rfl, _, rfl⟩, rfl⟩
    · simp at hu; subst hu; exact ⟨h1, .inr ⟨rfl, _, _, _, rfl⟩, rfl⟩
    · simp at hu
  obtain ⟨v', w', hr, hw, hg, hp, _⟩ := run_app_pc (P := Try.prog) w base 43 58 i0 _ 2 32 Try.underlying43 hi hz0 hz1 hz2 rfl (by decide) v fs.length xs q1 ⟨g, 0, none⟩ 1 1 [.int .i64 a, .slice A d.length c] rfl (fun j u hu => by rw [Addr.add_lit]; exact (hnews j u hu).1)
    (fun u hu => by obtain ⟨j, hj⟩ := List.getElem?_of_mem hu; exact (hnews j u hj).2.2) (by decide) (by simp only [maxLen]; omega) (by omega) hb PcF q3 (fun j u hu => by
      rcases j with _ | _ | j
      · cases hu; exact .inl ⟨rfl, _, rfl⟩
      · cases hu; exact .inr ⟨rfl, _, _, _, rfl⟩
      · cases hu) (fun j u hu => (hnews j u hu).2.1)
  have hk : KeepW b2 w w' := keep_row q1 (by decide) hb2 hg
  exact ⟨v', w', hr, ⟨_, by simpa using hw, (q2.keep hk).snoc (ho.keep hk) hc hd ha1 ha2, hp⟩, hk, (Below.refl _ _).grown hg hb (fun k e => (q1.lt k e).1), hg⟩
/-- What a scan answers when its records' row is asked for, too. -/
def ScanO (w : World) (fs : Ws) (f n a x : Int) (e : Ending) (w' : World) : Prop :=
  ∃ A c base, e = .returned (.tuple #[.slice A fs.length c, lgv f n a x, .int .i64 0]) ∧ w.heap.size ≤ base ∧ base ≤ w'.heap.size ∧ FaRow w' base 0 (.slice A fs.length c) fs ∧ fs.length ≤ c ∧ c ≤ 9223372036854775807 ∧ Below w.heap.size w w'
theorem same6_no (A B : Option Addr) (n m c d : Nat) (w : World) (hn : n ≠ m) :
    Calls Try.prog 23 #[.slice A n c, .slice B m d] w fun e w' => e = .returned (.bool false) ∧ w = w' := by
  have t1 : ((n : Int) != m) = true := by simp; omega
  clear hn
  go_enter Try.func23, Try.ntmps23
  go_wp2_with fail
  go_ret
  exact ⟨rfl, rfl⟩
end Go.Proofs.Ytjcgggheablpeaa.Wal
