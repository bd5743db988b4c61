/-
  DERIVED. GIVEN WITH THE SEED: THE CARDS: each row of YtgnkcgmmmkfkkaaDoorRows.lean that lists a variable, with what it lists TIED to the program's text (the seventh form; the later family's looks); each row that meets fmt, with fmt's text TOLD by the authors' own Lean function (tested against real Go, not proved from fmt's source: count such statements apart). THE CARD IS WHAT COUNTS. Prove the row's statement (the work); the ties are given (YtgnkcgmmmkfkkaaDoorTie.lean); close each card by the builder's one call (the guide's Derived/Test/ToyasCard.lean, 'card_holds'). Laid BY PROGRAM, IN A SANDBOX (cutbox-door.mjs). By AI agents, Wed Nov 11 2026. No macro, syntax, notation, axiom, sorry.
-/
import Derived.Test.YtgnkcgmmmkfkkaaDoorRows
import GoSem.ClaimSeven
namespace Go.Proofs.YtgnkcgmmmkfkkaaDoor
namespace Rows

/-- THE TIED CARD OF 'bursarlaw15.ExpiryLapses'. -/
def expiryLapsesCard : Claim7 := { stood := { row := expiryLapsesRow, standIns := [], harness := (true, "5b10a394ff27ef2d9a05069b0fe92c59f4be3b2c969aad23295a9ac134a2c9c8"), looks := true }, kinds := [], alts := [], laidByText := true, laidKinds := [.data], laidTests := true, laidLooks := .later }
def ExpiryLapsesCardSaid : Prop := Claim7.holds Tryd.pinned (.plain (OpenSpec.ofChange expiryLapsesSpec)) expiryLapsesCard

/-- THE TIED CARD OF 'bursarlaw15.ExpiryGoes'. -/
def expiryGoesCard : Claim7 := { stood := { row := expiryGoesRow, standIns := [], harness := (true, "5b10a394ff27ef2d9a05069b0fe92c59f4be3b2c969aad23295a9ac134a2c9c8"), looks := true }, kinds := [], alts := [], laidByText := true, laidKinds := [.data], laidTests := true, laidLooks := .later }
def ExpiryGoesCardSaid : Prop := Claim7.holds Tryd.pinned (.plain (OpenSpec.ofChange expiryGoesSpec)) expiryGoesCard

/-- THE TIED CARD OF 'bursarlaw15.ExpiryFirst'. -/
def expiryFirstCard : Claim7 := { stood := { row := expiryFirstRow, standIns := [], harness := (true, "5b10a394ff27ef2d9a05069b0fe92c59f4be3b2c969aad23295a9ac134a2c9c8"), looks := true }, kinds := [], alts := [], laidByText := true, laidKinds := [.data], laidTests := true, laidLooks := .later }
def ExpiryFirstCardSaid : Prop := Claim7.holds Tryd.pinned (.plain (OpenSpec.ofChange expiryFirstSpec)) expiryFirstCard

/-- THE SECOND FORM's CARD OF 'bursarlaw15.ExpiryLapses'. -/
def expiryLapsesUptoCard : Claim7 := { stood := { row := expiryLapsesUptoRow, standIns := [], harness := (true, "5b10a394ff27ef2d9a05069b0fe92c59f4be3b2c969aad23295a9ac134a2c9c8"), looks := true }, kinds := [], alts := [], laidByText := true, laidKinds := [.data], laidTests := true, laidLooks := .later }
def ExpiryLapsesUptoCardSaid : Prop := Claim7.holds Tryd.pinned (.plain (OpenSpec.upto expiryLapsesSpec)) expiryLapsesUptoCard

/-- THE SECOND FORM's CARD OF 'bursarlaw15.ExpiryGoes'. -/
def expiryGoesUptoCard : Claim7 := { stood := { row := expiryGoesUptoRow, standIns := [], harness := (true, "5b10a394ff27ef2d9a05069b0fe92c59f4be3b2c969aad23295a9ac134a2c9c8"), looks := true }, kinds := [], alts := [], laidByText := true, laidKinds := [.data], laidTests := true, laidLooks := .later }
def ExpiryGoesUptoCardSaid : Prop := Claim7.holds Tryd.pinned (.plain (OpenSpec.upto expiryGoesSpec)) expiryGoesUptoCard

/-- THE SECOND FORM's CARD OF 'bursarlaw15.ExpiryFirst'. -/
def expiryFirstUptoCard : Claim7 := { stood := { row := expiryFirstUptoRow, standIns := [], harness := (true, "5b10a394ff27ef2d9a05069b0fe92c59f4be3b2c969aad23295a9ac134a2c9c8"), looks := true }, kinds := [], alts := [], laidByText := true, laidKinds := [.data], laidTests := true, laidLooks := .later }
def ExpiryFirstUptoCardSaid : Prop := Claim7.holds Tryd.pinned (.plain (OpenSpec.upto expiryFirstSpec)) expiryFirstUptoCard
end Rows
end Go.Proofs.YtgnkcgmmmkfkkaaDoor
