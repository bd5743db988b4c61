/- Contracts: the map of SuperApart: which sectors have been met. -/
import Derived.Test.YtlieijbjbjnaiaaS9
import Derived.Test.YtlieijbjbjnaiaaS4
import Derived.Maps.OwnSet
import Derived.Maps.RangeWalk
import Derived.Deep.DeepCutAuto
namespace Go.Proofs.Ytlieijbjbjnaiaa.Sup
open Go.RowKit Crc Chk Frm Fra Go.Maps

theorem lawI : Keyed Try.prog 3 := int_keyed Try.underlying3
theorem zeroB (w : World) : (zeroValue 4).run Try.prog w = .ok (.bool false) w := by kernel_rfl
theorem plainElem_bool_inv {v : Value} {z : DataW Unit × List MemPlace} (h : plainElem Try.prog 4 v = some z) : ∃ c, v = .bool c ∧ z = (.lit (.bool c), []) := by
  unfold plainElem at h
  rw [Try.underlying4] at h
  cases v <;> simp at h
  exact ⟨_, rfl, h.symm⟩
theorem wf64 {n : Nat} (h : n ≤ 1000000) : (Lit.int .i64 (n : Int)).wf = true := by
  simp [Lit.wf, IntKind.min, IntKind.max, IntKind.signed, IntKind.bits]
  omega
/-- The map has just the sectors below N. -/
def Vis (b N : Nat) (W : World) : Prop := ∃ D : DataW Unit, W.ownsMap Try.prog 3 (plainElem Try.prog 4) b N D ∧ (∀ x : Int, Maps.has D (.int .i64 x) = decide (0 ≤ x ∧ x < N)) ∧ Maps.size D = N
theorem vis_look {b N : Nat} {W : World} (h : Vis b N W) (hN : N ≤ 1000000) : (Instr.lookup 50 (.map (some b)) (.int .i64 (N : Int)) false).run Try.prog W = .ok (.bool false) W := by
  obtain ⟨D, hown, hhas, hsz⟩ := h
  have hkey := keyOf_int_mk Try.underlying3 (wf64 hN)
  obtain ⟨v, ps, hrun, hv⟩ := hown.lookup lawI Try.underlying50 (zeroB W) (plainElem_bool (H := Unit) Try.underlying4 false) hkey
  have h0 : Maps.has D (.int .i64 (N : Int)) = false := by rw [hhas]; simp
  rw [atKey_of_not_has h0] at hv
  obtain ⟨c, rfl, hc⟩ := plainElem_bool_inv hv
  simp only [Prod.mk.injEq] at hc
  have : c = false := by
    have h1 := hc.1
    injection h1 with h1
    injection h1 with h1
    exact h1.symm
  rw [this] at hrun
  exact hrun
theorem vis_put {b N : Nat} {W : World} (h : Vis b N W) (hN : N ≤ 1000000) : ∃ w', (Instr.mapUpdate 50 (.map (some b)) (.int .i64 (N : Int)) (.bool true)).run Try.prog W = .ok () w' ∧ Vis b (N + 1) w' ∧ W.grownBy w' (some b) := by
  obtain ⟨D, hown, hhas, hsz⟩ := h
  have hkey := keyOf_int_mk Try.underlying3 (wf64 hN)
  have h0 : Maps.has D (.int .i64 (N : Int)) = false := by rw [hhas]; simp
  have hM := hown.isMap
  have hT := hown.tidy lawI
  obtain ⟨w', hrun, hown', hg⟩ := hown.update lawI Try.underlying50 (by unfold maxLen; omega) hkey (plainElem_bool (H := Unit) Try.underlying4 true)
  refine ⟨w', hrun, ⟨_, hown', fun x => ?_, ?_⟩, hg⟩
  · by_cases hx : x = N
    · subst hx
      rw [has_put_same hM (show WideAt.IsKeyLit (.int .i64 (N : Int)) from trivial)]
      simp; omega
    · rw [has_put_other (fun e => hx (by injection e)), hhas]
      rw [Bool.eq_iff_iff]
      simp only [decide_eq_true_eq]
      omega
  · rw [size_put hT, h0, hsz]; simp
theorem vis_new (W : World) : Vis W.heap.size 0 (W.alloc (.map #[] 0)) := ⟨.map [], World.ownsMap_made _ _ _ _, fun x => by
  have : Maps.has (DataW.map [] : DataW Unit) (.int .i64 x) = false := rfl
  rw [this]; simp, rfl⟩
theorem grown_of {w w' : World} (h : Below w.heap.size w w') : w.grownBy w' none := ⟨h.os, h.tape, h.output, h.size, fun i hi _ => h.block i hi⟩
theorem Vis.kept {b N : Nat} {W W' : World} {row : Option Nat} (h : Vis b N W) (hg : W.grownBy W' row) (hne : some b ≠ row) : Vis b N W' := by
  obtain ⟨D, hown, h2⟩ := h
  exact ⟨D, hown.kept hg hne, h2⟩
theorem Vis.lt {b N : Nat} {W : World} (h : Vis b N W) : b < W.heap.size := by
  obtain ⟨D, hown, h2⟩ := h
  exact hown.lt
/-- What the loops of SuperApart keep. -/
structure ApI (w : World) (b : Nat) (l p : Int) (N : Nat) (W : World) : Prop where
  p_ : BoxP w.heap.size l p W
  v_ : Vis b N W
  bl : Below w.heap.size w W
  lt : w.heap.size < b
theorem ApI.next {w : World} {b : Nat} {l p : Int} {N : Nat} {W W' : World} (h : ApI w b l p N W) (hb : Below W.heap.size W W') : ApI w b l p N W' :=
  ⟨h.p_.below hb (Nat.lt_trans h.lt h.v_.lt), h.v_.kept (grown_of hb) (by simp), step' h.bl hb h.bl.size, h.lt⟩
theorem ApI.put {w : World} {b : Nat} {l p : Int} {N : Nat} {W : World} (h : ApI w b l p N W) (hN : N ≤ 1000000) : ∃ w', (Instr.mapUpdate 50 (.map (some b)) (.int .i64 (N : Int)) (.bool true)).run Try.prog W = .ok () w' ∧ ApI w b l p (N + 1) w' := by
  obtain ⟨w', hrun, hv, hg⟩ := vis_put h.v_ hN
  have hlt := Nat.lt_trans h.lt h.v_.lt
  have hbl := hg.block w.heap.size hlt (fun e => by injection e with e; have := h.lt; omega)
  refine ⟨w', hrun, ⟨?_, ?_⟩, hv, h.bl.grown hg h.bl.size (fun k hk => by injection hk with hk; have := h.lt; omega), h.lt⟩
  · have := h.p_.1; unfold World.cell? at this ⊢; rw [hbl]; exact this
  · have := h.p_.2; unfold World.cell? at this ⊢; rw [hbl]; exact this
end Go.Proofs.Ytlieijbjbjnaiaa.Sup
