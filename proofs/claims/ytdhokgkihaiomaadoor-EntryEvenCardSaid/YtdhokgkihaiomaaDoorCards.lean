/-
  DERIVED. GIVEN WITH THE SEED: THE CARDS: each row of YtdhokgkihaiomaaDoorRows.lean that lists a variable, with what it lists TIED to the program's text (the seventh form; the later family's looks); each row that meets fmt, with fmt's text TOLD by the authors' own Lean function (tested against real Go, not proved from fmt's source: count such statements apart). THE CARD IS WHAT COUNTS. Prove the row's statement (the work); the ties are given (YtdhokgkihaiomaaDoorTie.lean); close each card by the builder's one call (the guide's Derived/Test/ToyasCard.lean, 'card_holds'). Laid BY PROGRAM, IN A SANDBOX (cutbox-door.mjs). By AI agents, Wed Nov 11 2026. No macro, syntax, notation, axiom, sorry.
-/
import Derived.Test.YtdhokgkihaiomaaDoorRows
import GoSem.ClaimSeven
namespace Go.Proofs.YtdhokgkihaiomaaDoor
namespace Rows

/-- THE TIED CARD OF 'bursarlaw12.EntryMoves'. -/
def entryMovesCard : Claim7 := { stood := { row := entryMovesRow, standIns := [], harness := (true, "077b2b958bc1d75f8f25eb3eb367f2e8190f906740675328c3b5e18a393a5d61"), looks := false }, kinds := [], alts := [], laidByText := true, laidKinds := [.data, .data, .data, .data, .data], laidTests := true, laidLooks := .later }
def EntryMovesCardSaid : Prop := Claim7.holds Tryd.pinned (.plain (OpenSpec.ofChange entryMovesSpec)) entryMovesCard

/-- THE TIED CARD OF 'bursarlaw12.EntryBack'. -/
def entryBackCard : Claim7 := { stood := { row := entryBackRow, standIns := [], harness := (true, "077b2b958bc1d75f8f25eb3eb367f2e8190f906740675328c3b5e18a393a5d61"), looks := false }, kinds := [], alts := [], laidByText := true, laidKinds := [.data, .data, .data, .data, .data], laidTests := true, laidLooks := .later }
def EntryBackCardSaid : Prop := Claim7.holds Tryd.pinned (.plain (OpenSpec.ofChange entryBackSpec)) entryBackCard

/-- THE TIED CARD OF 'bursarlaw12.EntryEven'. -/
def entryEvenCard : Claim7 := { stood := { row := entryEvenRow, standIns := [], harness := (true, "077b2b958bc1d75f8f25eb3eb367f2e8190f906740675328c3b5e18a393a5d61"), looks := false }, kinds := [], alts := [], laidByText := true, laidKinds := [.data, .data, .data, .data, .data], laidTests := true, laidLooks := .later }
def EntryEvenCardSaid : Prop := Claim7.holds Tryd.pinned (.plain (OpenSpec.ofChange entryEvenSpec)) entryEvenCard

/-- THE SECOND FORM's CARD OF 'bursarlaw12.EntryMoves'. -/
def entryMovesUptoCard : Claim7 := { stood := { row := entryMovesUptoRow, standIns := [], harness := (true, "077b2b958bc1d75f8f25eb3eb367f2e8190f906740675328c3b5e18a393a5d61"), looks := false }, kinds := [], alts := [], laidByText := true, laidKinds := [.data, .data, .data, .data, .data], laidTests := true, laidLooks := .later }
def EntryMovesUptoCardSaid : Prop := Claim7.holds Tryd.pinned (.plain (OpenSpec.upto entryMovesSpec)) entryMovesUptoCard

/-- THE SECOND FORM's CARD OF 'bursarlaw12.EntryBack'. -/
def entryBackUptoCard : Claim7 := { stood := { row := entryBackUptoRow, standIns := [], harness := (true, "077b2b958bc1d75f8f25eb3eb367f2e8190f906740675328c3b5e18a393a5d61"), looks := false }, kinds := [], alts := [], laidByText := true, laidKinds := [.data, .data, .data, .data, .data], laidTests := true, laidLooks := .later }
def EntryBackUptoCardSaid : Prop := Claim7.holds Tryd.pinned (.plain (OpenSpec.upto entryBackSpec)) entryBackUptoCard

/-- THE SECOND FORM's CARD OF 'bursarlaw12.EntryEven'. -/
def entryEvenUptoCard : Claim7 := { stood := { row := entryEvenUptoRow, standIns := [], harness := (true, "077b2b958bc1d75f8f25eb3eb367f2e8190f906740675328c3b5e18a393a5d61"), looks := false }, kinds := [], alts := [], laidByText := true, laidKinds := [.data, .data, .data, .data, .data], laidTests := true, laidLooks := .later }
def EntryEvenUptoCardSaid : Prop := Claim7.holds Tryd.pinned (.plain (OpenSpec.upto entryEvenSpec)) entryEvenUptoCard
end Rows
end Go.Proofs.YtdhokgkihaiomaaDoor
