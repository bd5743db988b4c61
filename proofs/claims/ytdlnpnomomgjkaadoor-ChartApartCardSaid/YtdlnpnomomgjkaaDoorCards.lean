/-
  DERIVED. GIVEN WITH THE SEED: THE CARDS: each row of YtdlnpnomomgjkaaDoorRows.lean that lists a variable, with what it lists TIED to the program's text (the seventh form; the later family's looks); each row that meets fmt, with fmt's text TOLD by the authors' own Lean function (tested against real Go, not proved from fmt's source: count such statements apart). THE CARD IS WHAT COUNTS. Prove the row's statement (the work); the ties are given (YtdlnpnomomgjkaaDoorTie.lean); close each card by the builder's one call (the guide's Derived/Test/ToyasCard.lean, 'card_holds'). Laid BY PROGRAM, IN A SANDBOX (cutbox-door.mjs). By AI agents, Wed Nov 11 2026. No macro, syntax, notation, axiom, sorry.
-/
import Derived.Test.YtdlnpnomomgjkaaDoorRows
import GoSem.ClaimSeven
namespace Go.Proofs.YtdlnpnomomgjkaaDoor
namespace Rows

/-- THE TIED CARD OF 'bursarlaw11.ChartNames'. -/
def chartNamesCard : Claim7 := { stood := { row := chartNamesRow, standIns := [], harness := (true, "a5fe9ad731db63d5a077c6269dca1ac0b53f192d23bf5b671701356bc2b7af97"), looks := false }, kinds := [], alts := [], laidByText := true, laidKinds := [.data, .data], laidTests := true, laidLooks := .later }
def ChartNamesCardSaid : Prop := Claim7.holds Tryd.pinned (.plain (OpenSpec.ofChange chartNamesSpec)) chartNamesCard

/-- THE TIED CARD OF 'bursarlaw11.ChartParses'. -/
def chartParsesCard : Claim7 := { stood := { row := chartParsesRow, standIns := [], harness := (true, "a5fe9ad731db63d5a077c6269dca1ac0b53f192d23bf5b671701356bc2b7af97"), looks := false }, kinds := [], alts := [], laidByText := true, laidKinds := [.data, .data], laidTests := true, laidLooks := .later }
def ChartParsesCardSaid : Prop := Claim7.holds Tryd.pinned (.plain (OpenSpec.ofChange chartParsesSpec)) chartParsesCard

/-- THE TIED CARD OF 'bursarlaw11.ChartApart'. -/
def chartApartCard : Claim7 := { stood := { row := chartApartRow, standIns := [], harness := (true, "a5fe9ad731db63d5a077c6269dca1ac0b53f192d23bf5b671701356bc2b7af97"), looks := false }, kinds := [], alts := [], laidByText := true, laidKinds := [.data, .data], laidTests := true, laidLooks := .later }
def ChartApartCardSaid : Prop := Claim7.holds Tryd.pinned (.plain (OpenSpec.ofChange chartApartSpec)) chartApartCard

/-- THE SECOND FORM's CARD OF 'bursarlaw11.ChartNames'. -/
def chartNamesUptoCard : Claim7 := { stood := { row := chartNamesUptoRow, standIns := [], harness := (true, "a5fe9ad731db63d5a077c6269dca1ac0b53f192d23bf5b671701356bc2b7af97"), looks := false }, kinds := [], alts := [], laidByText := true, laidKinds := [.data, .data], laidTests := true, laidLooks := .later }
def ChartNamesUptoCardSaid : Prop := Claim7.holds Tryd.pinned (.plain (OpenSpec.upto chartNamesSpec)) chartNamesUptoCard

/-- THE SECOND FORM's CARD OF 'bursarlaw11.ChartParses'. -/
def chartParsesUptoCard : Claim7 := { stood := { row := chartParsesUptoRow, standIns := [], harness := (true, "a5fe9ad731db63d5a077c6269dca1ac0b53f192d23bf5b671701356bc2b7af97"), looks := false }, kinds := [], alts := [], laidByText := true, laidKinds := [.data, .data], laidTests := true, laidLooks := .later }
def ChartParsesUptoCardSaid : Prop := Claim7.holds Tryd.pinned (.plain (OpenSpec.upto chartParsesSpec)) chartParsesUptoCard

/-- THE SECOND FORM's CARD OF 'bursarlaw11.ChartApart'. -/
def chartApartUptoCard : Claim7 := { stood := { row := chartApartUptoRow, standIns := [], harness := (true, "a5fe9ad731db63d5a077c6269dca1ac0b53f192d23bf5b671701356bc2b7af97"), looks := false }, kinds := [], alts := [], laidByText := true, laidKinds := [.data, .data], laidTests := true, laidLooks := .later }
def ChartApartUptoCardSaid : Prop := Claim7.holds Tryd.pinned (.plain (OpenSpec.upto chartApartSpec)) chartApartUptoCard
end Rows
end Go.Proofs.YtdlnpnomomgjkaaDoor
