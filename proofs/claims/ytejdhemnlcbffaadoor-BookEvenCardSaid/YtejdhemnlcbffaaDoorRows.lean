/-
  NARROWER THAN 'FOR EVERY INPUT', by the rows' own cells (each row's printed sentence says how): BookPosts: laid · BookEven: laid · BookOrder: laid · BookAdds: laid.
  DERIVED. THE GIVEN ROWS OF THIS SEAT. 4 by the template 'for every input the law returns true; each argument reads behind the call as it read before'; 0 by the template 'total and deterministic' (their statements: YtejdhemnlcbffaaDoorTotals.lean).
  GIVEN WITH THE SEED: the statements are not yours to turn. If you find one false, say at which input.
  Laid BY PROGRAM, IN A SANDBOX (cutbox-rows.mjs): the forced cells as the released guide's own fill.sh prints them over the translation c0b108f5df3a1c7a… (all of the seat's roots in one cut). By AI agents, Wed Nov 11 2026. No macro, syntax, notation, axiom, sorry.
-/
import Derived.Test.YtejdhemnlcbffaaDoorChecked
import GoSem.Claim
import GoSem.ClaimJoined
import GoSem.ClaimMapViews
import Derived.JoinedTies
import Derived.KernelRfl
namespace Go.Proofs.YtejdhemnlcbffaaDoor
/- THE CELL 'sum', in the pinned program and in every row, IS THE sha256 OF THE DUMP (.gsa) THAT YtejdhemnlcbffaaDoorProg.lean LOADS. Nothing in Lean hashes anything: it is a label: what it is worth is what the hold of that sum in a sandbox is worth. -/
noncomputable def Tryd.pinned : Pinned := { name := "ytejdhemnlcbffaadoor", sum := "c0b108f5df3a1c7adf0aaddf9c00e50012cfca66a05e17a19e278a7052564366", checked := Tryd.checked }
namespace Rows
def none {H : Type} : Left H := { results := [], args := [] }

/- WHAT THE LISTED PACKAGE-LEVEL VARIABLES READ AS WHEN THE CALL BEGINS. Each datum BY PROGRAM (the guide's laid-datum.mjs) off the statement by which the dump's own 'gosem.cut.vars' lays the variable. In a bare row this is a premise. The card (YtejdhemnlcbffaaDoorCards.lean) ties it to the program's text. -/
def laid_bursar_chart_first {H : Type} : DataW H := .agg [.lit (.string []), .lit (.string [67]), .lit (.string [65]), .lit (.string [72]), .lit (.string [68])]
def laid_bursar_chart_size {H : Type} : DataW H := .agg [.lit (.int .i64 0), .lit (.int .i64 16), .lit (.int .i64 6), .lit (.int .i64 0), .lit (.int .i64 0)]

/-- 'bursarlaw13.BookPosts': WHATEVER THE INPUT: true; the input reads as it did. -/
def bookPostsSpec : ChangeSpec := { name := "bookPosts", fn := fun _ => fun
  | [d1, d2, d3] => { results := [.lit (.bool true)], args := [d1, d2, d3] }
  | _ => none }
def bookPostsRow : OpenClaim := { program := "ytejdhemnlcbffaadoor", sum := "c0b108f5df3a1c7adf0aaddf9c00e50012cfca66a05e17a19e278a7052564366", func := "bursar/bursarlaw13.BookPosts", spec := "bookPosts", inPlace := ["slices.overlaps[bursar/api.Balance]"], unfollowed := true, recurses := true, named := ["bursar/chart.size", "bursar/chart.first"], plainKeys := false, apart := false, laid := [("bursar/chart.first", laid_bursar_chart_first), ("bursar/chart.size", laid_bursar_chart_size)] }
def BookPostsSaid : Prop := bookPostsRow.holds Tryd.pinned (OpenSpec.ofChange bookPostsSpec)

/-- ITS FALSE NEIGHBOUR: 'it returns false'. Refute it at one input. -/
def bookPostsWrong : ChangeSpec := { name := "bookPosts", fn := fun _ => fun
  | [d1, d2, d3] => { results := [.lit (.bool false)], args := [d1, d2, d3] }
  | _ => none }
def BookPostsWrongFalsely : Prop := bookPostsRow.holds Tryd.pinned (OpenSpec.ofChange bookPostsWrong)

/-- 'bursarlaw13.BookEven': WHATEVER THE INPUT: true; the input reads as it did. -/
def bookEvenSpec : ChangeSpec := { name := "bookEven", fn := fun _ => fun
  | [d] => { results := [.lit (.bool true)], args := [d] }
  | _ => none }
def bookEvenRow : OpenClaim := { program := "ytejdhemnlcbffaadoor", sum := "c0b108f5df3a1c7adf0aaddf9c00e50012cfca66a05e17a19e278a7052564366", func := "bursar/bursarlaw13.BookEven", spec := "bookEven", inPlace := ["slices.overlaps[bursar/api.Balance]"], unfollowed := true, recurses := true, named := ["bursar/chart.size", "bursar/chart.first"], plainKeys := false, apart := false, laid := [("bursar/chart.first", laid_bursar_chart_first), ("bursar/chart.size", laid_bursar_chart_size)] }
def BookEvenSaid : Prop := bookEvenRow.holds Tryd.pinned (OpenSpec.ofChange bookEvenSpec)

/-- ITS FALSE NEIGHBOUR: 'it returns false'. Refute it at one input. -/
def bookEvenWrong : ChangeSpec := { name := "bookEven", fn := fun _ => fun
  | [d] => { results := [.lit (.bool false)], args := [d] }
  | _ => none }
def BookEvenWrongFalsely : Prop := bookEvenRow.holds Tryd.pinned (OpenSpec.ofChange bookEvenWrong)

/-- 'bursarlaw13.BookOrder': WHATEVER THE INPUT: true; the input reads as it did. -/
def bookOrderSpec : ChangeSpec := { name := "bookOrder", fn := fun _ => fun
  | [d1, d2] => { results := [.lit (.bool true)], args := [d1, d2] }
  | _ => none }
def bookOrderRow : OpenClaim := { program := "ytejdhemnlcbffaadoor", sum := "c0b108f5df3a1c7adf0aaddf9c00e50012cfca66a05e17a19e278a7052564366", func := "bursar/bursarlaw13.BookOrder", spec := "bookOrder", inPlace := ["slices.overlaps[bursar/api.Balance]"], unfollowed := true, recurses := true, named := ["bursar/chart.size", "bursar/chart.first"], plainKeys := false, apart := false, laid := [("bursar/chart.first", laid_bursar_chart_first), ("bursar/chart.size", laid_bursar_chart_size)] }
def BookOrderSaid : Prop := bookOrderRow.holds Tryd.pinned (OpenSpec.ofChange bookOrderSpec)

/-- ITS FALSE NEIGHBOUR: 'it returns false'. Refute it at one input. -/
def bookOrderWrong : ChangeSpec := { name := "bookOrder", fn := fun _ => fun
  | [d1, d2] => { results := [.lit (.bool false)], args := [d1, d2] }
  | _ => none }
def BookOrderWrongFalsely : Prop := bookOrderRow.holds Tryd.pinned (OpenSpec.ofChange bookOrderWrong)

/-- 'bursarlaw13.BookAdds': WHATEVER THE INPUT: true; the input reads as it did. -/
def bookAddsSpec : ChangeSpec := { name := "bookAdds", fn := fun _ => fun
  | [d1, d2, d3] => { results := [.lit (.bool true)], args := [d1, d2, d3] }
  | _ => none }
def bookAddsRow : OpenClaim := { program := "ytejdhemnlcbffaadoor", sum := "c0b108f5df3a1c7adf0aaddf9c00e50012cfca66a05e17a19e278a7052564366", func := "bursar/bursarlaw13.BookAdds", spec := "bookAdds", inPlace := ["slices.overlaps[bursar/api.Balance]"], unfollowed := true, recurses := true, named := ["bursar/chart.size", "bursar/chart.first"], plainKeys := false, apart := false, laid := [("bursar/chart.first", laid_bursar_chart_first), ("bursar/chart.size", laid_bursar_chart_size)] }
def BookAddsSaid : Prop := bookAddsRow.holds Tryd.pinned (OpenSpec.ofChange bookAddsSpec)

/-- ITS FALSE NEIGHBOUR: 'it returns false'. Refute it at one input. -/
def bookAddsWrong : ChangeSpec := { name := "bookAdds", fn := fun _ => fun
  | [d1, d2, d3] => { results := [.lit (.bool false)], args := [d1, d2, d3] }
  | _ => none }
def BookAddsWrongFalsely : Prop := bookAddsRow.holds Tryd.pinned (OpenSpec.ofChange bookAddsWrong)

/- THE SECOND FORM. 'bulk': how many values and letters a reading holds, each counted each time it is reached (what is shared counts as often as it is met; a slice's spare places count too). A statement '..UptoSaid' is the law's where the arguments, and the package variables that the reading takes, are together of bulk at most 1048576: NARROWER than '..Said'. Prove '..Said' where nothing that the law and all that it calls make is longer than what came in: it says more and counts as full. Else prove '..UptoSaid'. A law counts once. -/
mutual
def uptoBulk {H : Type} : DataW H → Nat
  | .lit (.string bytes) => bytes.length + 1
  | .lit _ => 1
  | .nil => 1
  | .ptr d => uptoBulk d + 1
  | .slice elems spare => uptoBulkAll elems + uptoBulkAll spare + 1
  | .agg parts => uptoBulkAll parts + 1
  | .iface _ d => uptoBulk d + 1
  | .map entries => uptoBulkEntries entries + 1
  | .held _ => 1
def uptoBulkAll {H : Type} : List (DataW H) → Nat
  | [] => 0
  | d :: r => uptoBulk d + uptoBulkAll r
def uptoBulkEntries {H : Type} : List (Lit × DataW H) → Nat
  | [] => 0
  | x :: r => uptoBulkEntry x + uptoBulkEntries r
def uptoBulkEntry {H : Type} : Lit × DataW H → Nat
  | (.string bytes, d) => bytes.length + uptoBulk d + 1
  | (_, d) => uptoBulk d + 1
 end
def uptoSmall : (H : Type) → List (DataW H) → Bool := fun _ ds => decide (uptoBulkAll ds ≤ 1048576)
def OpenSpec.upto (s : _root_.Go.ChangeSpec) : _root_.Go.OpenSpec := { _root_.Go.OpenSpec.ofChange s with cond := some uptoSmall }

/-- 'bursarlaw13.BookPosts', WHERE WHAT IT READS IS OF BULK AT MOST 1048576: true; the input reads as it did. -/
def bookPostsUptoRow : OpenClaim := { program := "ytejdhemnlcbffaadoor", sum := "c0b108f5df3a1c7adf0aaddf9c00e50012cfca66a05e17a19e278a7052564366", func := "bursar/bursarlaw13.BookPosts", spec := "bookPosts", inPlace := ["slices.overlaps[bursar/api.Balance]"], unfollowed := true, recurses := true, named := ["bursar/chart.size", "bursar/chart.first"], plainKeys := false, apart := false, laid := [("bursar/chart.first", laid_bursar_chart_first), ("bursar/chart.size", laid_bursar_chart_size)], narrowed := true }
def BookPostsUptoSaid : Prop := bookPostsUptoRow.holds Tryd.pinned (OpenSpec.upto bookPostsSpec)

/-- 'bursarlaw13.BookEven', WHERE WHAT IT READS IS OF BULK AT MOST 1048576: true; the input reads as it did. -/
def bookEvenUptoRow : OpenClaim := { program := "ytejdhemnlcbffaadoor", sum := "c0b108f5df3a1c7adf0aaddf9c00e50012cfca66a05e17a19e278a7052564366", func := "bursar/bursarlaw13.BookEven", spec := "bookEven", inPlace := ["slices.overlaps[bursar/api.Balance]"], unfollowed := true, recurses := true, named := ["bursar/chart.size", "bursar/chart.first"], plainKeys := false, apart := false, laid := [("bursar/chart.first", laid_bursar_chart_first), ("bursar/chart.size", laid_bursar_chart_size)], narrowed := true }
def BookEvenUptoSaid : Prop := bookEvenUptoRow.holds Tryd.pinned (OpenSpec.upto bookEvenSpec)

/-- 'bursarlaw13.BookOrder', WHERE WHAT IT READS IS OF BULK AT MOST 1048576: true; the input reads as it did. -/
def bookOrderUptoRow : OpenClaim := { program := "ytejdhemnlcbffaadoor", sum := "c0b108f5df3a1c7adf0aaddf9c00e50012cfca66a05e17a19e278a7052564366", func := "bursar/bursarlaw13.BookOrder", spec := "bookOrder", inPlace := ["slices.overlaps[bursar/api.Balance]"], unfollowed := true, recurses := true, named := ["bursar/chart.size", "bursar/chart.first"], plainKeys := false, apart := false, laid := [("bursar/chart.first", laid_bursar_chart_first), ("bursar/chart.size", laid_bursar_chart_size)], narrowed := true }
def BookOrderUptoSaid : Prop := bookOrderUptoRow.holds Tryd.pinned (OpenSpec.upto bookOrderSpec)

/-- 'bursarlaw13.BookAdds', WHERE WHAT IT READS IS OF BULK AT MOST 1048576: true; the input reads as it did. -/
def bookAddsUptoRow : OpenClaim := { program := "ytejdhemnlcbffaadoor", sum := "c0b108f5df3a1c7adf0aaddf9c00e50012cfca66a05e17a19e278a7052564366", func := "bursar/bursarlaw13.BookAdds", spec := "bookAdds", inPlace := ["slices.overlaps[bursar/api.Balance]"], unfollowed := true, recurses := true, named := ["bursar/chart.size", "bursar/chart.first"], plainKeys := false, apart := false, laid := [("bursar/chart.first", laid_bursar_chart_first), ("bursar/chart.size", laid_bursar_chart_size)], narrowed := true }
def BookAddsUptoSaid : Prop := bookAddsUptoRow.holds Tryd.pinned (OpenSpec.upto bookAddsSpec)

end Rows
end Go.Proofs.YtejdhemnlcbffaaDoor
