/-
  NARROWER THAN 'FOR EVERY INPUT', by the rows' own cells (each row's printed sentence says how): ExpiryLapses: laid · ExpiryGoes: laid · ExpiryFirst: laid.
  DERIVED. THE GIVEN ROWS OF THIS SEAT. 3 by the template 'for every input the law returns true; each argument reads behind the call as it read before'; 0 by the template 'total and deterministic' (their statements: YtgnkcgmmmkfkkaaDoorTotals.lean).
  GIVEN WITH THE SEED: the statements are not yours to turn. If you find one false, say at which input.
  Laid BY PROGRAM, IN A SANDBOX (cutbox-rows.mjs): the forced cells as the released guide's own fill.sh prints them over the translation aea0c38b440546ce… (all of the seat's roots in one cut). By AI agents, Wed Nov 11 2026. No macro, syntax, notation, axiom, sorry.
-/
import Derived.Test.YtgnkcgmmmkfkkaaDoorChecked
import GoSem.Claim
import GoSem.ClaimJoined
import GoSem.ClaimMapViews
import Derived.JoinedTies
import Derived.KernelRfl
namespace Go.Proofs.YtgnkcgmmmkfkkaaDoor
/- THE CELL 'sum', in the pinned program and in every row, IS THE sha256 OF THE DUMP (.gsa) THAT YtgnkcgmmmkfkkaaDoorProg.lean LOADS. Nothing in Lean hashes anything: it is a label: what it is worth is what the hold of that sum in a sandbox is worth. -/
noncomputable def Tryd.pinned : Pinned := { name := "ytgnkcgmmmkfkkaadoor", sum := "aea0c38b440546ceafd1d0575f68719d18c4e76f1ed90e71c23f2240882fde5a", checked := Tryd.checked }
namespace Rows
def none {H : Type} : Left H := { results := [], args := [] }

/- WHAT THE LISTED PACKAGE-LEVEL VARIABLES READ AS WHEN THE CALL BEGINS. Each datum BY PROGRAM (the guide's laid-datum.mjs) off the statement by which the dump's own 'gosem.cut.vars' lays the variable. In a bare row this is a premise. The card (YtgnkcgmmmkfkkaaDoorCards.lean) ties it to the program's text. -/
def laid_bursar_chart_size {H : Type} : DataW H := .agg [.lit (.int .i64 0), .lit (.int .i64 16), .lit (.int .i64 6), .lit (.int .i64 0), .lit (.int .i64 0)]

/-- 'bursarlaw15.ExpiryLapses': WHATEVER THE INPUT: true; the input reads as it did. -/
def expiryLapsesSpec : ChangeSpec := { name := "expiryLapses", fn := fun _ => fun
  | [d1, d2] => { results := [.lit (.bool true)], args := [d1, d2] }
  | _ => none }
def expiryLapsesRow : OpenClaim := { program := "ytgnkcgmmmkfkkaadoor", sum := "aea0c38b440546ceafd1d0575f68719d18c4e76f1ed90e71c23f2240882fde5a", func := "bursar/bursarlaw15.ExpiryLapses", spec := "expiryLapses", unfollowed := true, recurses := true, named := ["bursar/chart.size"], apart := false, laid := [("bursar/chart.size", laid_bursar_chart_size)] }
def ExpiryLapsesSaid : Prop := expiryLapsesRow.holds Tryd.pinned (OpenSpec.ofChange expiryLapsesSpec)

/-- ITS FALSE NEIGHBOUR: 'it returns false'. Refute it at one input. -/
def expiryLapsesWrong : ChangeSpec := { name := "expiryLapses", fn := fun _ => fun
  | [d1, d2] => { results := [.lit (.bool false)], args := [d1, d2] }
  | _ => none }
def ExpiryLapsesWrongFalsely : Prop := expiryLapsesRow.holds Tryd.pinned (OpenSpec.ofChange expiryLapsesWrong)

/-- 'bursarlaw15.ExpiryGoes': WHATEVER THE INPUT: true; the input reads as it did. -/
def expiryGoesSpec : ChangeSpec := { name := "expiryGoes", fn := fun _ => fun
  | [d1, d2, d3] => { results := [.lit (.bool true)], args := [d1, d2, d3] }
  | _ => none }
def expiryGoesRow : OpenClaim := { program := "ytgnkcgmmmkfkkaadoor", sum := "aea0c38b440546ceafd1d0575f68719d18c4e76f1ed90e71c23f2240882fde5a", func := "bursar/bursarlaw15.ExpiryGoes", spec := "expiryGoes", unfollowed := true, recurses := true, named := ["bursar/chart.size"], apart := false, laid := [("bursar/chart.size", laid_bursar_chart_size)] }
def ExpiryGoesSaid : Prop := expiryGoesRow.holds Tryd.pinned (OpenSpec.ofChange expiryGoesSpec)

/-- ITS FALSE NEIGHBOUR: 'it returns false'. Refute it at one input. -/
def expiryGoesWrong : ChangeSpec := { name := "expiryGoes", fn := fun _ => fun
  | [d1, d2, d3] => { results := [.lit (.bool false)], args := [d1, d2, d3] }
  | _ => none }
def ExpiryGoesWrongFalsely : Prop := expiryGoesRow.holds Tryd.pinned (OpenSpec.ofChange expiryGoesWrong)

/-- 'bursarlaw15.ExpiryFirst': WHATEVER THE INPUT: true; the input reads as it did. -/
def expiryFirstSpec : ChangeSpec := { name := "expiryFirst", fn := fun _ => fun
  | [d1, d2] => { results := [.lit (.bool true)], args := [d1, d2] }
  | _ => none }
def expiryFirstRow : OpenClaim := { program := "ytgnkcgmmmkfkkaadoor", sum := "aea0c38b440546ceafd1d0575f68719d18c4e76f1ed90e71c23f2240882fde5a", func := "bursar/bursarlaw15.ExpiryFirst", spec := "expiryFirst", unfollowed := true, recurses := true, named := ["bursar/chart.size"], apart := false, laid := [("bursar/chart.size", laid_bursar_chart_size)] }
def ExpiryFirstSaid : Prop := expiryFirstRow.holds Tryd.pinned (OpenSpec.ofChange expiryFirstSpec)

/-- ITS FALSE NEIGHBOUR: 'it returns false'. Refute it at one input. -/
def expiryFirstWrong : ChangeSpec := { name := "expiryFirst", fn := fun _ => fun
  | [d1, d2] => { results := [.lit (.bool false)], args := [d1, d2] }
  | _ => none }
def ExpiryFirstWrongFalsely : Prop := expiryFirstRow.holds Tryd.pinned (OpenSpec.ofChange expiryFirstWrong)

/- THE SECOND FORM. 'bulk': how many values and letters a reading holds, each counted each time it is reached (what is shared counts as often as it is met; a slice's spare places count too). A statement '..UptoSaid' is the law's where the arguments, and the package variables that the reading takes, are together of bulk at most 1048576: NARROWER than '..Said'. Prove '..Said' where nothing that the law and all that it calls make is longer than what came in: it says more and counts as full. Else prove '..UptoSaid'. A law counts once. -/
mutual
def uptoBulk {H : Type} : DataW H → Nat
  | .lit (.string bytes) => bytes.length + 1
  | .lit _ => 1
  | .nil => 1
  | .ptr d => uptoBulk d + 1
  | .slice elems spare => uptoBulkAll elems + uptoBulkAll spare + 1
  | .agg parts => uptoBulkAll parts + 1
  | .iface _ d => uptoBulk d + 1
  | .map entries => uptoBulkEntries entries + 1
  | .held _ => 1
def uptoBulkAll {H : Type} : List (DataW H) → Nat
  | [] => 0
  | d :: r => uptoBulk d + uptoBulkAll r
def uptoBulkEntries {H : Type} : List (Lit × DataW H) → Nat
  | [] => 0
  | x :: r => uptoBulkEntry x + uptoBulkEntries r
def uptoBulkEntry {H : Type} : Lit × DataW H → Nat
  | (.string bytes, d) => bytes.length + uptoBulk d + 1
  | (_, d) => uptoBulk d + 1
 end
def uptoSmall : (H : Type) → List (DataW H) → Bool := fun _ ds => decide (uptoBulkAll ds ≤ 1048576)
def OpenSpec.upto (s : _root_.Go.ChangeSpec) : _root_.Go.OpenSpec := { _root_.Go.OpenSpec.ofChange s with cond := some uptoSmall }

/-- 'bursarlaw15.ExpiryLapses', WHERE WHAT IT READS IS OF BULK AT MOST 1048576: true; the input reads as it did. -/
def expiryLapsesUptoRow : OpenClaim := { program := "ytgnkcgmmmkfkkaadoor", sum := "aea0c38b440546ceafd1d0575f68719d18c4e76f1ed90e71c23f2240882fde5a", func := "bursar/bursarlaw15.ExpiryLapses", spec := "expiryLapses", unfollowed := true, recurses := true, named := ["bursar/chart.size"], apart := false, laid := [("bursar/chart.size", laid_bursar_chart_size)], narrowed := true }
def ExpiryLapsesUptoSaid : Prop := expiryLapsesUptoRow.holds Tryd.pinned (OpenSpec.upto expiryLapsesSpec)

/-- 'bursarlaw15.ExpiryGoes', WHERE WHAT IT READS IS OF BULK AT MOST 1048576: true; the input reads as it did. -/
def expiryGoesUptoRow : OpenClaim := { program := "ytgnkcgmmmkfkkaadoor", sum := "aea0c38b440546ceafd1d0575f68719d18c4e76f1ed90e71c23f2240882fde5a", func := "bursar/bursarlaw15.ExpiryGoes", spec := "expiryGoes", unfollowed := true, recurses := true, named := ["bursar/chart.size"], apart := false, laid := [("bursar/chart.size", laid_bursar_chart_size)], narrowed := true }
def ExpiryGoesUptoSaid : Prop := expiryGoesUptoRow.holds Tryd.pinned (OpenSpec.upto expiryGoesSpec)

/-- 'bursarlaw15.ExpiryFirst', WHERE WHAT IT READS IS OF BULK AT MOST 1048576: true; the input reads as it did. -/
def expiryFirstUptoRow : OpenClaim := { program := "ytgnkcgmmmkfkkaadoor", sum := "aea0c38b440546ceafd1d0575f68719d18c4e76f1ed90e71c23f2240882fde5a", func := "bursar/bursarlaw15.ExpiryFirst", spec := "expiryFirst", unfollowed := true, recurses := true, named := ["bursar/chart.size"], apart := false, laid := [("bursar/chart.size", laid_bursar_chart_size)], narrowed := true }
def ExpiryFirstUptoSaid : Prop := expiryFirstUptoRow.holds Tryd.pinned (OpenSpec.upto expiryFirstSpec)

end Rows
end Go.Proofs.YtgnkcgmmmkfkkaaDoor
