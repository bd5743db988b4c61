/- Contracts: whether two entries are the same; an entry from one account to another one. Conditions: the two arrays of the program that names go by hold what their initialisers lay. -/
import Derived.Test.YtejdhemnlcbffaaDoorE6
namespace Go.Proofs.YtejdhemnlcbffaaDoor.Ent
open Go.RowKit Cht
open Mny (Fits vOf eOf vOf_t vOf_f eOf_t eOf_f)

def sameE (b : Int) (r : ByteArray) (l : List Ln) (b' : Int) (r' : ByteArray) (l' : List Ln) : Bool := decide (b = b' ∧ r = r' ∧ l = l')
theorem ln_eq {x y : Ln} : x = y ↔ x.k = y.k ∧ x.s = y.s ∧ x.n = y.n := by
  cases x; cases y; simp
theorem bytes_ne {r r' : ByteArray} (h : ¬ r = r') : ¬ r.toList = r'.toList := fun e => h (by
  apply ByteArray.ext
  apply Array.toList_inj.1
  rwa [ByteArray.toList_eq, ByteArray.toList_eq] at e)

end Go.Proofs.YtejdhemnlcbffaaDoor.Ent
