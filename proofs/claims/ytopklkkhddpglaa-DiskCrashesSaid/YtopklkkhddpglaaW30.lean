/- Contracts: Few. -/
import Derived.Test.YtopklkkhddpglaaW29
namespace Go.Proofs.Ytopklkkhddpglaa
open Go.RowKit Dk

/-- How many sectors are looked at. -/
def fewS (n : Nat) : Nat := if 60 < n ∧ n ≤ 4096 then 60 else if 4097 < n then 4097 else n
def fewW (m : Nat) : Nat := if 40 < m then 40 else m
theorem fewS_le (n : Nat) : fewS n ≤ n ∧ fewS n ≤ 4097 := by unfold fewS; split <;> (try split) <;> omega
theorem fewW_le (m : Nat) : fewW m ≤ m ∧ fewW m ≤ 40 := by unfold fewW; split <;> omega
theorem Dsk.few {w : World} {A : Option Addr} {n c : Nat} {A' : Option Addr} {m c' : Nat} {S : List (List UInt8)} {W : Ws} (h : Dsk w A n c A' m c' S W) : Dsk w A (fewS n) c A' (fewW m) c' (S.take (fewS n)) (W.take (fewW m)) := by
  have h1 := fewS_le n
  have h2 := fewW_le m
  have hn := h.hn
  have hm := h.hm
  have hc := h.hc
  have hc' := h.hc'
  refine ⟨fun i hi => ?_, fun i hi => ?_, by rw [List.length_take]; omega, by rw [List.length_take]; omega, by omega, by omega⟩
  · have hi2 : i < S.length := by rw [List.length_take] at hi; omega
    have e : (S.take (fewS n))[i] = S[i] := by simp
    rw [e]
    exact h.s i hi2
  · have hi2 : i < W.length := by rw [List.length_take] at hi; omega
    have e : (W.take (fewW m))[i] = W[i] := by simp
    rw [e]
    exact h.w_ i hi2
end Go.Proofs.Ytopklkkhddpglaa
