/- Contracts: Few. -/
import Derived.Test.YtopklkkhddpglaaW30a
import Derived.Test.YtopklkkhddpglaaW30b
import Derived.Test.YtopklkkhddpglaaW30c
import Derived.Test.YtopklkkhddpglaaW30d
import Derived.Test.YtopklkkhddpglaaW30e
import Derived.Test.YtopklkkhddpglaaW30f
import Derived.Test.YtopklkkhddpglaaW30g
import Derived.Test.YtopklkkhddpglaaW30h
namespace Go.Proofs.Ytopklkkhddpglaa
open Go.RowKit Dk
theorem few_any (A : Option Addr) (n c : Nat) (A' : Option Addr) (m c' : Nat) (S : List (List UInt8)) (W : Ws) (L : Int) (O : Bool) (w : World) (h : Dsk w A n c A' m c' S W) :
    Calls Try.prog 7 #[dv A n c A' m c' L O] w fun e w' => e = .returned (dv A (fewS n) c A' (fewW m) c' L O) ∧ Below w.heap.size w w' := by
  rcases (show n ≤ 60 ∨ (60 < n ∧ n ≤ 4096) ∨ n = 4097 ∨ 4097 < n by omega) with hA | hA | hA | hA <;> rcases (show m ≤ 40 ∨ 40 < m by omega) with hM | hM
  · exact few_a A n c A' m c' S W L O w h hA hM
  · exact few_b A n c A' m c' S W L O w h hA hM
  · exact few_c A n c A' m c' S W L O w h hA hM
  · exact few_d A n c A' m c' S W L O w h hA hM
  · exact few_e A n c A' m c' S W L O w h hA hM
  · exact few_f A n c A' m c' S W L O w h hA hM
  · exact few_g A n c A' m c' S W L O w h hA hM
  · exact few_h A n c A' m c' S W L O w h hA hM
end Go.Proofs.Ytopklkkhddpglaa
