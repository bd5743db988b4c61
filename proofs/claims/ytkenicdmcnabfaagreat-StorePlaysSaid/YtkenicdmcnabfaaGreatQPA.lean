/- Short forms of facts that the laws over the store use often. Conditions: none. -/
import Derived.Lib.Hide
import Derived.Below

namespace Go.Proofs.YtkenicdmcnabfaaGreat
open Go.RowKit
theorem zH{p:Prop}(h:p):Hid p:=Lib.hid h
theorem zL{n:Nat}:n≤n:=Nat.le_refl n
theorem zB{b:Nat}{w:World}:Below b w w:=Below.refl b w
theorem zI{α : Type}{xs:Array α}{i:Nat}{a: α}(h:xs[i]? = some a):i<xs.size:=(Array.getElem?_eq_some_iff.1 h).1
end Go.Proofs.YtkenicdmcnabfaaGreat
