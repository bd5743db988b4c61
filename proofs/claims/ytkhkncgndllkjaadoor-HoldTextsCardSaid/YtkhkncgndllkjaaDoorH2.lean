/- Contracts: an account's name; the document's own; an account of a kind and an ID. Conditions: the two arrays of the program hold what their initialisers lay. -/
import Derived.Test.YtkhkncgndllkjaaDoorH1
namespace Go.Proofs.YtkhkncgndllkjaaDoor.Cht
open Go.RowKit

theorem may_in {k : Int} {s : ByteArray} (h : mayA k s = true) : 1 ≤ k ∧ k ≤ 4 ∧ s.size = szA k := by
  rcases Decidable.em (1 ≤ k ∧ k ≤ 4 ∧ s.size = szA k) with hh | hh
  · exact hh
  · rw [may_no hh] at h; cases h
theorem Below.on {w a b : World} (h : Below w.heap.size w a) (k : Below a.heap.size a b) : Below w.heap.size w b := h.trans (k.mono h.size)

end Go.Proofs.YtkhkncgndllkjaaDoor.Cht
