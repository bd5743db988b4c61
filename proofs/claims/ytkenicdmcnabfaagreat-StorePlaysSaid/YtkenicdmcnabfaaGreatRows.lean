/-
  No cell of these rows narrows 'for every input' (looked for: loops, veiled, ifaces, maps, wideKeys, modest, calm, conditions, laid).
  DERIVED. THE GIVEN ROWS OF THIS SEAT. 5 by the template 'for every input the law returns true; each argument reads behind the call as it read before'; 0 by the template 'total and deterministic' (their statements: YtkenicdmcnabfaaGreatTotals.lean).
  GIVEN WITH THE SEED: the statements are not yours to turn. If you find one false, say at which input.
  Laid BY PROGRAM, IN A SANDBOX (cutbox-rows.mjs): the forced cells as the released guide's own fill.sh prints them over the translation 355cc9135b71fd2e… (all of the seat's roots in one cut). By AI agents, Wed Nov 11 2026. No macro, syntax, notation, axiom, sorry.
-/
import Derived.Test.YtkenicdmcnabfaaGreatChecked
import GoSem.Claim
import GoSem.ClaimJoined
import GoSem.ClaimMapViews
import Derived.JoinedTies
import Derived.KernelRfl
namespace Go.Proofs.YtkenicdmcnabfaaGreat
/- THE CELL 'sum', in the pinned program and in every row, IS THE sha256 OF THE DUMP (.gsa) THAT YtkenicdmcnabfaaGreatProg.lean LOADS. Nothing in Lean hashes anything: it is a label: what it is worth is what the hold of that sum in a sandbox is worth. -/
noncomputable def Tryz.pinned : Pinned := { name := "ytkenicdmcnabfaagreat", sum := "355cc9135b71fd2ed2256a1430e38c7cb055f4e5fe5bc6eb83f7566463033073", checked := Tryz.checked }
namespace Rows
def none {H : Type} : Left H := { results := [], args := [] }

/-- 'bursarlaw10.StorePlays': WHATEVER THE INPUT: true; the input reads as it did. -/
def storePlaysSpec : ChangeSpec := { name := "storePlays", fn := fun _ => fun
  | [d] => { results := [.lit (.bool true)], args := [d] }
  | _ => none }
def storePlaysRow : OpenClaim := { program := "ytkenicdmcnabfaagreat", sum := "355cc9135b71fd2ed2256a1430e38c7cb055f4e5fe5bc6eb83f7566463033073", func := "bursar/bursarlaw10.StorePlays", spec := "storePlays", inPlace := ["maps.clone", "internal/bytealg.MakeNoZero"], unfollowed := true, recurses := true, apart := false }
def StorePlaysSaid : Prop := storePlaysRow.holds Tryz.pinned (OpenSpec.ofChange storePlaysSpec)

/-- ITS FALSE NEIGHBOUR: 'it returns false'. Refute it at one input. -/
def storePlaysWrong : ChangeSpec := { name := "storePlays", fn := fun _ => fun
  | [d] => { results := [.lit (.bool false)], args := [d] }
  | _ => none }
def StorePlaysWrongFalsely : Prop := storePlaysRow.holds Tryz.pinned (OpenSpec.ofChange storePlaysWrong)

/-- 'bursarlaw10.StoreCuts': WHATEVER THE INPUT: true; the input reads as it did. -/
def storeCutsSpec : ChangeSpec := { name := "storeCuts", fn := fun _ => fun
  | [d1, d2, d3] => { results := [.lit (.bool true)], args := [d1, d2, d3] }
  | _ => none }
def storeCutsRow : OpenClaim := { program := "ytkenicdmcnabfaagreat", sum := "355cc9135b71fd2ed2256a1430e38c7cb055f4e5fe5bc6eb83f7566463033073", func := "bursar/bursarlaw10.StoreCuts", spec := "storeCuts", inPlace := ["maps.clone", "internal/bytealg.MakeNoZero"], unfollowed := true, recurses := true, apart := false }
def StoreCutsSaid : Prop := storeCutsRow.holds Tryz.pinned (OpenSpec.ofChange storeCutsSpec)

/-- ITS FALSE NEIGHBOUR: 'it returns false'. Refute it at one input. -/
def storeCutsWrong : ChangeSpec := { name := "storeCuts", fn := fun _ => fun
  | [d1, d2, d3] => { results := [.lit (.bool false)], args := [d1, d2, d3] }
  | _ => none }
def StoreCutsWrongFalsely : Prop := storeCutsRow.holds Tryz.pinned (OpenSpec.ofChange storeCutsWrong)

/-- 'bursarlaw10.StoreSteady': WHATEVER THE INPUT: true; the input reads as it did. -/
def storeSteadySpec : ChangeSpec := { name := "storeSteady", fn := fun _ => fun
  | [d1, d2] => { results := [.lit (.bool true)], args := [d1, d2] }
  | _ => none }
def storeSteadyRow : OpenClaim := { program := "ytkenicdmcnabfaagreat", sum := "355cc9135b71fd2ed2256a1430e38c7cb055f4e5fe5bc6eb83f7566463033073", func := "bursar/bursarlaw10.StoreSteady", spec := "storeSteady", inPlace := ["maps.clone", "internal/bytealg.MakeNoZero"], unfollowed := true, recurses := true, apart := false }
def StoreSteadySaid : Prop := storeSteadyRow.holds Tryz.pinned (OpenSpec.ofChange storeSteadySpec)

/-- ITS FALSE NEIGHBOUR: 'it returns false'. Refute it at one input. -/
def storeSteadyWrong : ChangeSpec := { name := "storeSteady", fn := fun _ => fun
  | [d1, d2] => { results := [.lit (.bool false)], args := [d1, d2] }
  | _ => none }
def StoreSteadyWrongFalsely : Prop := storeSteadyRow.holds Tryz.pinned (OpenSpec.ofChange storeSteadyWrong)

/-- 'bursarlaw10.StoreLikewise': WHATEVER THE INPUT: true; the input reads as it did. -/
def storeLikewiseSpec : ChangeSpec := { name := "storeLikewise", fn := fun _ => fun
  | [d1, d2] => { results := [.lit (.bool true)], args := [d1, d2] }
  | _ => none }
def storeLikewiseRow : OpenClaim := { program := "ytkenicdmcnabfaagreat", sum := "355cc9135b71fd2ed2256a1430e38c7cb055f4e5fe5bc6eb83f7566463033073", func := "bursar/bursarlaw10.StoreLikewise", spec := "storeLikewise", inPlace := ["maps.clone", "internal/bytealg.MakeNoZero"], unfollowed := true, recurses := true, apart := false }
def StoreLikewiseSaid : Prop := storeLikewiseRow.holds Tryz.pinned (OpenSpec.ofChange storeLikewiseSpec)

/-- ITS FALSE NEIGHBOUR: 'it returns false'. Refute it at one input. -/
def storeLikewiseWrong : ChangeSpec := { name := "storeLikewise", fn := fun _ => fun
  | [d1, d2] => { results := [.lit (.bool false)], args := [d1, d2] }
  | _ => none }
def StoreLikewiseWrongFalsely : Prop := storeLikewiseRow.holds Tryz.pinned (OpenSpec.ofChange storeLikewiseWrong)

/-- 'bursarlaw10.StoreGets': WHATEVER THE INPUT: true; the input reads as it did. -/
def storeGetsSpec : ChangeSpec := { name := "storeGets", fn := fun _ => fun
  | [d1, d2] => { results := [.lit (.bool true)], args := [d1, d2] }
  | _ => none }
def storeGetsRow : OpenClaim := { program := "ytkenicdmcnabfaagreat", sum := "355cc9135b71fd2ed2256a1430e38c7cb055f4e5fe5bc6eb83f7566463033073", func := "bursar/bursarlaw10.StoreGets", spec := "storeGets", inPlace := ["maps.clone", "internal/bytealg.MakeNoZero"], unfollowed := true, recurses := true, apart := false }
def StoreGetsSaid : Prop := storeGetsRow.holds Tryz.pinned (OpenSpec.ofChange storeGetsSpec)

/-- ITS FALSE NEIGHBOUR: 'it returns false'. Refute it at one input. -/
def storeGetsWrong : ChangeSpec := { name := "storeGets", fn := fun _ => fun
  | [d1, d2] => { results := [.lit (.bool false)], args := [d1, d2] }
  | _ => none }
def StoreGetsWrongFalsely : Prop := storeGetsRow.holds Tryz.pinned (OpenSpec.ofChange storeGetsWrong)

/- THE SECOND FORM. 'bulk': how many values and letters a reading holds, each counted each time it is reached (what is shared counts as often as it is met; a slice's spare places count too). A statement '..UptoSaid' is the law's where the arguments, and the package variables that the reading takes, are together of bulk at most 1048576: NARROWER than '..Said'. Prove '..Said' where nothing that the law and all that it calls make is longer than what came in: it says more and counts as full. Else prove '..UptoSaid'. A law counts once. -/
mutual
def uptoBulk {H : Type} : DataW H → Nat
  | .lit (.string bytes) => bytes.length + 1
  | .lit _ => 1
  | .nil => 1
  | .ptr d => uptoBulk d + 1
  | .slice elems spare => uptoBulkAll elems + uptoBulkAll spare + 1
  | .agg parts => uptoBulkAll parts + 1
  | .iface _ d => uptoBulk d + 1
  | .map entries => uptoBulkEntries entries + 1
  | .held _ => 1
def uptoBulkAll {H : Type} : List (DataW H) → Nat
  | [] => 0
  | d :: r => uptoBulk d + uptoBulkAll r
def uptoBulkEntries {H : Type} : List (Lit × DataW H) → Nat
  | [] => 0
  | x :: r => uptoBulkEntry x + uptoBulkEntries r
def uptoBulkEntry {H : Type} : Lit × DataW H → Nat
  | (.string bytes, d) => bytes.length + uptoBulk d + 1
  | (_, d) => uptoBulk d + 1
 end
def uptoSmall : (H : Type) → List (DataW H) → Bool := fun _ ds => decide (uptoBulkAll ds ≤ 1048576)
def OpenSpec.upto (s : _root_.Go.ChangeSpec) : _root_.Go.OpenSpec := { _root_.Go.OpenSpec.ofChange s with cond := some uptoSmall }

/-- 'bursarlaw10.StorePlays', WHERE WHAT IT READS IS OF BULK AT MOST 1048576: true; the input reads as it did. -/
def storePlaysUptoRow : OpenClaim := { program := "ytkenicdmcnabfaagreat", sum := "355cc9135b71fd2ed2256a1430e38c7cb055f4e5fe5bc6eb83f7566463033073", func := "bursar/bursarlaw10.StorePlays", spec := "storePlays", inPlace := ["maps.clone", "internal/bytealg.MakeNoZero"], unfollowed := true, recurses := true, apart := false, narrowed := true }
def StorePlaysUptoSaid : Prop := storePlaysUptoRow.holds Tryz.pinned (OpenSpec.upto storePlaysSpec)

/-- 'bursarlaw10.StoreCuts', WHERE WHAT IT READS IS OF BULK AT MOST 1048576: true; the input reads as it did. -/
def storeCutsUptoRow : OpenClaim := { program := "ytkenicdmcnabfaagreat", sum := "355cc9135b71fd2ed2256a1430e38c7cb055f4e5fe5bc6eb83f7566463033073", func := "bursar/bursarlaw10.StoreCuts", spec := "storeCuts", inPlace := ["maps.clone", "internal/bytealg.MakeNoZero"], unfollowed := true, recurses := true, apart := false, narrowed := true }
def StoreCutsUptoSaid : Prop := storeCutsUptoRow.holds Tryz.pinned (OpenSpec.upto storeCutsSpec)

/-- 'bursarlaw10.StoreSteady', WHERE WHAT IT READS IS OF BULK AT MOST 1048576: true; the input reads as it did. -/
def storeSteadyUptoRow : OpenClaim := { program := "ytkenicdmcnabfaagreat", sum := "355cc9135b71fd2ed2256a1430e38c7cb055f4e5fe5bc6eb83f7566463033073", func := "bursar/bursarlaw10.StoreSteady", spec := "storeSteady", inPlace := ["maps.clone", "internal/bytealg.MakeNoZero"], unfollowed := true, recurses := true, apart := false, narrowed := true }
def StoreSteadyUptoSaid : Prop := storeSteadyUptoRow.holds Tryz.pinned (OpenSpec.upto storeSteadySpec)

/-- 'bursarlaw10.StoreLikewise', WHERE WHAT IT READS IS OF BULK AT MOST 1048576: true; the input reads as it did. -/
def storeLikewiseUptoRow : OpenClaim := { program := "ytkenicdmcnabfaagreat", sum := "355cc9135b71fd2ed2256a1430e38c7cb055f4e5fe5bc6eb83f7566463033073", func := "bursar/bursarlaw10.StoreLikewise", spec := "storeLikewise", inPlace := ["maps.clone", "internal/bytealg.MakeNoZero"], unfollowed := true, recurses := true, apart := false, narrowed := true }
def StoreLikewiseUptoSaid : Prop := storeLikewiseUptoRow.holds Tryz.pinned (OpenSpec.upto storeLikewiseSpec)

/-- 'bursarlaw10.StoreGets', WHERE WHAT IT READS IS OF BULK AT MOST 1048576: true; the input reads as it did. -/
def storeGetsUptoRow : OpenClaim := { program := "ytkenicdmcnabfaagreat", sum := "355cc9135b71fd2ed2256a1430e38c7cb055f4e5fe5bc6eb83f7566463033073", func := "bursar/bursarlaw10.StoreGets", spec := "storeGets", inPlace := ["maps.clone", "internal/bytealg.MakeNoZero"], unfollowed := true, recurses := true, apart := false, narrowed := true }
def StoreGetsUptoSaid : Prop := storeGetsUptoRow.holds Tryz.pinned (OpenSpec.upto storeGetsSpec)

end Rows
end Go.Proofs.YtkenicdmcnabfaaGreat
