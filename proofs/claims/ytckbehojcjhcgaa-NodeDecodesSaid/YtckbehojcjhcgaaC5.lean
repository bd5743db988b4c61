/- Contracts: few, Seal, Open. -/
import Derived.Test.YtckbehojcjhcgaaC3
import Derived.Maps.AppendAt
import Derived.Deep.AppendLies
import Derived.Laws.BytesArg
import Derived.Laws.OwnMore
import Derived.Lib.AppendZeros
import Derived.OwnWalk
import Derived.BigQuiet
import Derived.Deep.QuietTactic
namespace Go.Proofs.Ytckbehojcjhcgaa.Chk
open Go.RowKit Crc

theorem info5 : (Try.prog.info? 5).map (fun i => (i.zero, i.size, i.bytes)) = some (some (.int .u8 0), 1, 1) := by kernel_rfl
abbrev b8 : UInt8 → Value := fun (b : UInt8) => Value.int .u8 (b.toNat : Int)
theorem b8_one (l : List UInt8) : ∀ u ∈ l.map b8, u.oneCell' = true := by
  intro u hu
  obtain ⟨b, _, rfl⟩ := List.mem_map.1 hu
  rfl
theorem Octs.take {w : World} {B : Nat} {A : Option Addr} {l : List UInt8} (h : Octs w B A l) (k : Nat) : Octs w B A (l.take k) := fun i hi => by
  rw [List.length_take] at hi
  obtain ⟨ad, e, hb, c⟩ := h i (by omega)
  exact ⟨ad, e, hb, by rw [c, List.getElem_take]⟩
theorem addAdd (a : Addr) (i j : Nat) : (a.add i).add j = a.add (i + j) := by
  unfold Addr.add
  by_cases hi : i = 0 <;> by_cases hj : j = 0 <;> simp [hi, hj, Nat.add_assoc]
theorem Octs.drop {w : World} {B : Nat} {ad : Addr} {l : List UInt8} (h : Octs w B (some ad) l) (k : Nat) : Octs w B (some (ad.add k)) (l.drop k) := fun i hi => by
  rw [List.length_drop] at hi
  obtain ⟨ad', e, hb, c⟩ := h (k + i) (by omega)
  injection e with e
  subst e
  exact ⟨_, rfl, by rw [blockAdd]; exact hb, by rw [addAdd, c, List.getElem_drop]⟩
/-- A row of the call's own that has the octets. -/
abbrev Own (w : World) (base : Nat) (v : Value) (l : List UInt8) : Prop := w.ownsRow base 5 1 v l.length (l.map b8)
theorem octs_of_own {w : World} {base c : Nat} {A : Option Addr} {l : List UInt8} (h : Own w base (.slice A l.length c) l) : Octs w w.heap.size A l := fun i hi => by
  obtain ⟨g, cap, hv, _, hlt⟩ := h.form (by omega)
  have hA : A = some ⟨g, 0, none⟩ := by injection hv
  subst hA
  exact ⟨_, rfl, hlt, h.cells (g := g) rfl i _ (by rw [List.getElem?_map, List.getElem?_eq_getElem hi]; rfl)⟩
theorem own_form {w : World} {base : Nat} {v : Value} {l : List UInt8} (h : Own w base v l) (h0 : 0 < l.length) : ∃ g cap, v = .slice (some ⟨g, 0, none⟩) l.length cap ∧ base ≤ g ∧ g < w.heap.size ∧ l.length ≤ cap := by
  rcases h.2 with ⟨_, h1⟩ | ⟨g, cap, cur, hv, hb, hh, hc, _⟩
  · omega
  · refine ⟨g, cap, hv, hb, ?_, hc⟩
    rcases Nat.lt_or_ge g w.heap.size with hlt | hge
    · exact hlt
    · rw [Array.getElem?_eq_none hge] at hh; cases hh
set_option maxRecDepth 20000 in
/-- Octets are laid behind a row of the call's own. -/
theorem run_app (w : World) (base B : Nat) (v : Value) (m : List UInt8) (hown : Own w base v m) (A : Option Addr) (l : List UInt8) (c : Nat) (hr : Octs w B A l) (hs : m.length + l.length ≤ 1000000) (hb : base ≤ w.heap.size) :
    ∃ v' w', (Builtin.append_ #[29, 29] 29 #[v, .slice A l.length c]).run Try.prog w = .ok v' w' ∧ Own w' base v' (m ++ l) ∧ w.grownBy w' v.ownBlock ∧ (v'.ownBlock = v.ownBlock ∨ v'.ownBlock = some w.heap.size) := by
  obtain ⟨i0, hi, hz0, hz1, hz2⟩ := info_parts info5
  rcases A with _ | ad
  · have h0 : l = [] := by
      rcases l with _ | ⟨b, l⟩
      · rfl
      · obtain ⟨ad, e, _⟩ := hr 0 (by simp)
        cases e
    subst h0
    refine ⟨v, w, ?_, by simpa using hown, World.grownBy.refl w _, .inl rfl⟩
    rcases hown.2 with ⟨rfl, _⟩ | ⟨g, cap, cur, rfl, _, _, hnc, _⟩
    · simp [Builtin.append_, run_underlying Try.underlying29, sizeOf, typeInfo, hi, Builtin.lenOf, Builtin.firstCells]
    · simp [Builtin.append_, run_underlying Try.underlying29, sizeOf, typeInfo, hi, Builtin.lenOf, Builtin.firstCells, hnc, storeCells]
  · obtain ⟨v', w', hrun, h2, h3, _, h5⟩ := run_append_own_at (P := Try.prog) w base 29 29 5 i0 (.int .u8 0) 1 1 Try.underlying29 hi hz0 hz1 hz2 rfl (by decide) v m.length _ hown ad l.length c (l.map b8) (by simp) (fun j u hu => by
      have hj : j < l.length := by
        rcases Nat.lt_or_ge j l.length with h | h
        · exact h
        · rw [List.getElem?_eq_none (by simpa using h)] at hu; cases hu
      obtain ⟨ad', e, _, hc⟩ := hr j hj
      injection e with e
      subst e
      rw [hc, ← hu, List.getElem?_map, List.getElem?_eq_getElem hj]; rfl) (b8_one l) (by simp only [maxLen]; omega) (by omega) hb
    refine ⟨v', w', hrun, ?_, h3, h5⟩
    unfold Own
    rw [List.length_append, List.map_append]
    exact h2
theorem octs_text {w : World} {B c : Nat} {A : Option Addr} {l : List UInt8} (h : Octs w B A l) : (convert 29 9 (.slice A l.length c)).run Try.prog w = .ok (.string ⟨l.toArray⟩) w := by
  rcases A with _ | ad
  · have h0 : l = [] := by
      rcases l with _ | ⟨b, l⟩
      · rfl
      · obtain ⟨ad, e, _⟩ := h 0 (by simp)
        cases e
    subst h0
    exact run_convert_bytes_nil (P := Try.prog) (w := w) 29 5 Try.underlying29 Try.underlying5 _ _ 9 Try.underlying9
  · exact run_convert_bytes_back (P := Try.prog) w 29 9 5 ad c l Try.underlying29 Try.underlying5 Try.underlying9 (fun j hj => by
      obtain ⟨ad', e, _, hc⟩ := h j hj
      injection e with e
      subst e
      exact hc)
end Go.Proofs.Ytckbehojcjhcgaa.Chk
