/-
  NARROWER THAN 'FOR EVERY INPUT', by the rows' own cells (each row's printed sentence says how): ChartNames: laid · ChartParses: laid · ChartApart: laid.
  DERIVED. THE GIVEN ROWS OF THIS SEAT. 3 by the template 'for every input the law returns true; each argument reads behind the call as it read before'; 0 by the template 'total and deterministic' (their statements: YtdlnpnomomgjkaaDoorTotals.lean).
  GIVEN WITH THE SEED: the statements are not yours to turn. If you find one false, say at which input.
  Laid BY PROGRAM, IN A SANDBOX (cutbox-rows.mjs): the forced cells as the released guide's own fill.sh prints them over the translation b31af20f600f3d8c… (all of the seat's roots in one cut). By AI agents, Wed Nov 11 2026. No macro, syntax, notation, axiom, sorry.
-/
import Derived.Test.YtdlnpnomomgjkaaDoorChecked
import GoSem.Claim
import GoSem.ClaimJoined
import GoSem.ClaimMapViews
import Derived.JoinedTies
import Derived.KernelRfl
namespace Go.Proofs.YtdlnpnomomgjkaaDoor
/- THE CELL 'sum', in the pinned program and in every row, IS THE sha256 OF THE DUMP (.gsa) THAT YtdlnpnomomgjkaaDoorProg.lean LOADS. Nothing in Lean hashes anything: it is a label: what it is worth is what the hold of that sum in a sandbox is worth. -/
noncomputable def Tryd.pinned : Pinned := { name := "ytdlnpnomomgjkaadoor", sum := "b31af20f600f3d8cfbb9e6422fe52ec5909407960819feefc557c1207a9fb6d3", checked := Tryd.checked }
namespace Rows
def none {H : Type} : Left H := { results := [], args := [] }

/- WHAT THE LISTED PACKAGE-LEVEL VARIABLES READ AS WHEN THE CALL BEGINS. Each datum BY PROGRAM (the guide's laid-datum.mjs) off the statement by which the dump's own 'gosem.cut.vars' lays the variable. In a bare row this is a premise. The card (YtdlnpnomomgjkaaDoorCards.lean) ties it to the program's text. -/
def laid_bursar_chart_first {H : Type} : DataW H := .agg [.lit (.string []), .lit (.string [67]), .lit (.string [65]), .lit (.string [72]), .lit (.string [68])]
def laid_bursar_chart_size {H : Type} : DataW H := .agg [.lit (.int .i64 0), .lit (.int .i64 16), .lit (.int .i64 6), .lit (.int .i64 0), .lit (.int .i64 0)]

/-- 'bursarlaw11.ChartNames': WHATEVER THE INPUT: true; the input reads as it did. -/
def chartNamesSpec : ChangeSpec := { name := "chartNames", fn := fun _ => fun
  | [d] => { results := [.lit (.bool true)], args := [d] }
  | _ => none }
def chartNamesRow : OpenClaim := { program := "ytdlnpnomomgjkaadoor", sum := "b31af20f600f3d8cfbb9e6422fe52ec5909407960819feefc557c1207a9fb6d3", func := "bursar/bursarlaw11.ChartNames", spec := "chartNames", unfollowed := true, recurses := true, named := ["bursar/chart.first", "bursar/chart.size"], apart := false, laid := [("bursar/chart.first", laid_bursar_chart_first), ("bursar/chart.size", laid_bursar_chart_size)] }
def ChartNamesSaid : Prop := chartNamesRow.holds Tryd.pinned (OpenSpec.ofChange chartNamesSpec)

/-- ITS FALSE NEIGHBOUR: 'it returns false'. Refute it at one input. -/
def chartNamesWrong : ChangeSpec := { name := "chartNames", fn := fun _ => fun
  | [d] => { results := [.lit (.bool false)], args := [d] }
  | _ => none }
def ChartNamesWrongFalsely : Prop := chartNamesRow.holds Tryd.pinned (OpenSpec.ofChange chartNamesWrong)

/-- 'bursarlaw11.ChartParses': WHATEVER THE INPUT: true; the input reads as it did. -/
def chartParsesSpec : ChangeSpec := { name := "chartParses", fn := fun _ => fun
  | [d] => { results := [.lit (.bool true)], args := [d] }
  | _ => none }
def chartParsesRow : OpenClaim := { program := "ytdlnpnomomgjkaadoor", sum := "b31af20f600f3d8cfbb9e6422fe52ec5909407960819feefc557c1207a9fb6d3", func := "bursar/bursarlaw11.ChartParses", spec := "chartParses", unfollowed := true, recurses := true, named := ["bursar/chart.first", "bursar/chart.size"], apart := false, laid := [("bursar/chart.first", laid_bursar_chart_first), ("bursar/chart.size", laid_bursar_chart_size)] }
def ChartParsesSaid : Prop := chartParsesRow.holds Tryd.pinned (OpenSpec.ofChange chartParsesSpec)

/-- ITS FALSE NEIGHBOUR: 'it returns false'. Refute it at one input. -/
def chartParsesWrong : ChangeSpec := { name := "chartParses", fn := fun _ => fun
  | [d] => { results := [.lit (.bool false)], args := [d] }
  | _ => none }
def ChartParsesWrongFalsely : Prop := chartParsesRow.holds Tryd.pinned (OpenSpec.ofChange chartParsesWrong)

/-- 'bursarlaw11.ChartApart': WHATEVER THE INPUT: true; the input reads as it did. -/
def chartApartSpec : ChangeSpec := { name := "chartApart", fn := fun _ => fun
  | [d1, d2] => { results := [.lit (.bool true)], args := [d1, d2] }
  | _ => none }
def chartApartRow : OpenClaim := { program := "ytdlnpnomomgjkaadoor", sum := "b31af20f600f3d8cfbb9e6422fe52ec5909407960819feefc557c1207a9fb6d3", func := "bursar/bursarlaw11.ChartApart", spec := "chartApart", unfollowed := true, recurses := true, named := ["bursar/chart.first", "bursar/chart.size"], apart := false, laid := [("bursar/chart.first", laid_bursar_chart_first), ("bursar/chart.size", laid_bursar_chart_size)] }
def ChartApartSaid : Prop := chartApartRow.holds Tryd.pinned (OpenSpec.ofChange chartApartSpec)

/-- ITS FALSE NEIGHBOUR: 'it returns false'. Refute it at one input. -/
def chartApartWrong : ChangeSpec := { name := "chartApart", fn := fun _ => fun
  | [d1, d2] => { results := [.lit (.bool false)], args := [d1, d2] }
  | _ => none }
def ChartApartWrongFalsely : Prop := chartApartRow.holds Tryd.pinned (OpenSpec.ofChange chartApartWrong)

/- THE SECOND FORM. 'bulk': how many values and letters a reading holds, each counted each time it is reached (what is shared counts as often as it is met; a slice's spare places count too). A statement '..UptoSaid' is the law's where the arguments, and the package variables that the reading takes, are together of bulk at most 1048576: NARROWER than '..Said'. Prove '..Said' where nothing that the law and all that it calls make is longer than what came in: it says more and counts as full. Else prove '..UptoSaid'. A law counts once. -/
mutual
def uptoBulk {H : Type} : DataW H → Nat
  | .lit (.string bytes) => bytes.length + 1
  | .lit _ => 1
  | .nil => 1
  | .ptr d => uptoBulk d + 1
  | .slice elems spare => uptoBulkAll elems + uptoBulkAll spare + 1
  | .agg parts => uptoBulkAll parts + 1
  | .iface _ d => uptoBulk d + 1
  | .map entries => uptoBulkEntries entries + 1
  | .held _ => 1
def uptoBulkAll {H : Type} : List (DataW H) → Nat
  | [] => 0
  | d :: r => uptoBulk d + uptoBulkAll r
def uptoBulkEntries {H : Type} : List (Lit × DataW H) → Nat
  | [] => 0
  | x :: r => uptoBulkEntry x + uptoBulkEntries r
def uptoBulkEntry {H : Type} : Lit × DataW H → Nat
  | (.string bytes, d) => bytes.length + uptoBulk d + 1
  | (_, d) => uptoBulk d + 1
 end
def uptoSmall : (H : Type) → List (DataW H) → Bool := fun _ ds => decide (uptoBulkAll ds ≤ 1048576)
def OpenSpec.upto (s : _root_.Go.ChangeSpec) : _root_.Go.OpenSpec := { _root_.Go.OpenSpec.ofChange s with cond := some uptoSmall }

/-- 'bursarlaw11.ChartNames', WHERE WHAT IT READS IS OF BULK AT MOST 1048576: true; the input reads as it did. -/
def chartNamesUptoRow : OpenClaim := { program := "ytdlnpnomomgjkaadoor", sum := "b31af20f600f3d8cfbb9e6422fe52ec5909407960819feefc557c1207a9fb6d3", func := "bursar/bursarlaw11.ChartNames", spec := "chartNames", unfollowed := true, recurses := true, named := ["bursar/chart.first", "bursar/chart.size"], apart := false, laid := [("bursar/chart.first", laid_bursar_chart_first), ("bursar/chart.size", laid_bursar_chart_size)], narrowed := true }
def ChartNamesUptoSaid : Prop := chartNamesUptoRow.holds Tryd.pinned (OpenSpec.upto chartNamesSpec)

/-- 'bursarlaw11.ChartParses', WHERE WHAT IT READS IS OF BULK AT MOST 1048576: true; the input reads as it did. -/
def chartParsesUptoRow : OpenClaim := { program := "ytdlnpnomomgjkaadoor", sum := "b31af20f600f3d8cfbb9e6422fe52ec5909407960819feefc557c1207a9fb6d3", func := "bursar/bursarlaw11.ChartParses", spec := "chartParses", unfollowed := true, recurses := true, named := ["bursar/chart.first", "bursar/chart.size"], apart := false, laid := [("bursar/chart.first", laid_bursar_chart_first), ("bursar/chart.size", laid_bursar_chart_size)], narrowed := true }
def ChartParsesUptoSaid : Prop := chartParsesUptoRow.holds Tryd.pinned (OpenSpec.upto chartParsesSpec)

/-- 'bursarlaw11.ChartApart', WHERE WHAT IT READS IS OF BULK AT MOST 1048576: true; the input reads as it did. -/
def chartApartUptoRow : OpenClaim := { program := "ytdlnpnomomgjkaadoor", sum := "b31af20f600f3d8cfbb9e6422fe52ec5909407960819feefc557c1207a9fb6d3", func := "bursar/bursarlaw11.ChartApart", spec := "chartApart", unfollowed := true, recurses := true, named := ["bursar/chart.first", "bursar/chart.size"], apart := false, laid := [("bursar/chart.first", laid_bursar_chart_first), ("bursar/chart.size", laid_bursar_chart_size)], narrowed := true }
def ChartApartUptoSaid : Prop := chartApartUptoRow.holds Tryd.pinned (OpenSpec.upto chartApartSpec)

end Rows
end Go.Proofs.YtdlnpnomomgjkaaDoor
