/- Contract: a drawn region of which three operations, one behind the other, turn the world. Conditions: none. -/
import Derived.Test.YtgnkcgmmmkfkkaaDoorK9
namespace Go.Proofs.YtgnkcgmmmkfkkaaDoor.Hep
open Go.RowKit Any
open Hol (getD_mono)

/-- Operation e turns w into w1, operation f, behind it, w1 into w2, operation s, the last one, w2 into w3. -/
def On (e f s : Nat) (w w1 w2 w3 : World) (listed : Array Bool) (W : World) : Prop :=
  (listed.getD s false = true → ∀ i, i < s → listed.getD i false = true) ∧ (listed.getD f false = true → listed.getD e false = true) ∧
    W = (if listed.getD s false = true then w3 else if listed.getD f false = true then w2 else if listed.getD e false = true then w1 else w)
variable {e f s : Nat} {w w1 w2 w3 W : World} {listed : Array Bool}
theorem on_start (h : ∀ i, listed.getD i false = false) : On e f s w w1 w2 w3 listed w := by
  refine ⟨fun h1 => ?_, fun h1 => ?_, ?_⟩
  · rw [h s] at h1; cases h1
  · rw [h f] at h1; cases h1
  · rw [h s, h f, h e]; rfl
theorem on_not {i : Nat} (h : On e f s w w1 w2 w3 listed W) (hi : i < s) (hn : listed.getD i false = false) : listed.getD s false = false := by
  cases hs : listed.getD s false with
  | false => rfl
  | true => rw [h.1 hs i hi] at hn; cases hn
theorem on_skip {i : Nat} (h : On e f s w w1 w2 w3 listed W) (hi : i < s) (he : i ≠ e) (hf : i ≠ f) (hn : listed.getD i false = false) : On e f s w w1 w2 w3 (listed.setIfInBounds i true) W := by
  have hs := on_not h hi hn
  obtain ⟨k1, k2, k3⟩ := h
  rw [hs] at k3
  refine ⟨fun h1 => ?_, fun h1 => ?_, ?_⟩
  · rw [getD_set_ne false (by omega), hs] at h1; cases h1
  · rw [getD_set_ne false hf] at h1; exact getD_mono (k2 h1)
  · rw [getD_set_ne false (by omega), getD_set_ne false hf, getD_set_ne false he, hs]; exact k3
theorem on_is {i : Nat} (h : On e f s w w1 w2 w3 listed W) (hi : i < s) (hn : listed.getD i false = false) : W = w ∨ W = w1 ∨ W = w2 := by
  have k := h.2.2
  rw [on_not h hi hn, if_neg (by decide)] at k
  split at k
  · exact .inr (.inr k)
  · split at k
    · exact .inr (.inl k)
    · exact .inl k
theorem on_e (h : On e f s w w1 w2 w3 listed W) (hs : e < s) (hef : e ≠ f) (hl : e < listed.size) (hn : listed.getD e false = false) : W = w ∧ On e f s w w1 w2 w3 (listed.setIfInBounds e true) w1 := by
  have hns := on_not h hs hn
  have hnf : listed.getD f false = false := by
    cases q : listed.getD f false with
    | false => rfl
    | true => rw [h.2.1 q] at hn; cases hn
  have k := h.2.2
  rw [hns, hnf, hn] at k
  refine ⟨k, fun h1 => ?_, fun _ => getD_set_eq hl, ?_⟩
  · rw [getD_set_ne false (by omega), hns] at h1; cases h1
  · rw [getD_set_ne false (by omega), hns, getD_set_ne false hef, hnf, getD_set_eq hl]; rfl
theorem on_f (h : On e f s w w1 w2 w3 listed W) (hs : f < s) (hl : f < listed.size) (hn : listed.getD f false = false) (ha : listed.getD e false = true) : W = w1 ∧ On e f s w w1 w2 w3 (listed.setIfInBounds f true) w2 := by
  have hns := on_not h hs hn
  have k := h.2.2
  rw [hns, hn, ha] at k
  refine ⟨k, fun h1 => ?_, fun _ => getD_mono ha, ?_⟩
  · rw [getD_set_ne false (by omega), hns] at h1; cases h1
  · rw [getD_set_ne false (by omega), hns, getD_set_eq hl]; rfl
theorem on_s (h : On e f s w w1 w2 w3 listed W) (hf : f < s) (hl : s < listed.size) (hn : listed.getD s false = false) (hall : ∀ i, i < s → listed.getD i false = true) : W = w2 ∧ On e f s w w1 w2 w3 (listed.setIfInBounds s true) w3 := by
  have k := h.2.2
  rw [hn, if_neg (by decide), hall f hf, if_pos rfl] at k
  refine ⟨k, fun _ i h4 => ?_, fun h1 => ?_, ?_⟩
  · rw [getD_set_ne false (by omega)]; exact hall i h4
  · rw [getD_set_ne false (by omega)] at h1; exact getD_mono (h.2.1 h1)
  · rw [getD_set_eq hl]; rfl
theorem on_fin (h : On e f s w w1 w2 w3 listed W) (hs : listed.getD s false = true) : W = w3 := by
  have k := h.2.2
  rw [hs, if_pos rfl] at k
  exact k
end Go.Proofs.YtgnkcgmmmkfkkaaDoor.Hep
