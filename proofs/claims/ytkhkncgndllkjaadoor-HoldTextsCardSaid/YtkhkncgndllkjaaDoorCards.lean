/-
  DERIVED. GIVEN WITH THE SEED: THE CARDS: each row of YtkhkncgndllkjaaDoorRows.lean that lists a variable, with what it lists TIED to the program's text (the seventh form; the later family's looks); each row that meets fmt, with fmt's text TOLD by the authors' own Lean function (tested against real Go, not proved from fmt's source: count such statements apart). THE CARD IS WHAT COUNTS. Prove the row's statement (the work); the ties are given (YtkhkncgndllkjaaDoorTie.lean); close each card by the builder's one call (the guide's Derived/Test/ToyasCard.lean, 'card_holds'). Laid BY PROGRAM, IN A SANDBOX (cutbox-door.mjs). By AI agents, Wed Nov 11 2026. No macro, syntax, notation, axiom, sorry.
-/
import Derived.Test.YtkhkncgndllkjaaDoorRows
import GoSem.ClaimSeven
namespace Go.Proofs.YtkhkncgndllkjaaDoor
namespace Rows

/-- THE TIED CARD OF 'bursarlaw14.HoldTexts'. -/
def holdTextsCard : Claim7 := { stood := { row := holdTextsRow, standIns := [], harness := (true, "a1170144e51617f365efa12adba2f8e503d7ac154e81ddbb7cf1a18612b5f6ed"), looks := true }, kinds := [], alts := [], laidByText := true, laidKinds := [.data, .data, .data, .sentinel, .sentinel, .data], laidTests := true, laidLooks := .later }
def HoldTextsCardSaid : Prop := Claim7.holds Tryd.pinned (.plain (OpenSpec.ofChange holdTextsSpec)) holdTextsCard

/-- THE TIED CARD OF 'bursarlaw14.HoldSums'. -/
def holdSumsCard : Claim7 := { stood := { row := holdSumsRow, standIns := [], harness := (true, "a1170144e51617f365efa12adba2f8e503d7ac154e81ddbb7cf1a18612b5f6ed"), looks := true }, kinds := [], alts := [], laidByText := true, laidKinds := [.data], laidTests := true, laidLooks := .later }
def HoldSumsCardSaid : Prop := Claim7.holds Tryd.pinned (.plain (OpenSpec.ofChange holdSumsSpec)) holdSumsCard

/-- THE TIED CARD OF 'bursarlaw14.HoldKeeps'. -/
def holdKeepsCard : Claim7 := { stood := { row := holdKeepsRow, standIns := [], harness := (true, "a1170144e51617f365efa12adba2f8e503d7ac154e81ddbb7cf1a18612b5f6ed"), looks := true }, kinds := [], alts := [], laidByText := true, laidKinds := [.data], laidTests := true, laidLooks := .later }
def HoldKeepsCardSaid : Prop := Claim7.holds Tryd.pinned (.plain (OpenSpec.ofChange holdKeepsSpec)) holdKeepsCard

/-- THE TIED CARD OF 'bursarlaw14.HoldParts'. -/
def holdPartsCard : Claim7 := { stood := { row := holdPartsRow, standIns := [], harness := (true, "a1170144e51617f365efa12adba2f8e503d7ac154e81ddbb7cf1a18612b5f6ed"), looks := true }, kinds := [], alts := [], laidByText := true, laidKinds := [.data], laidTests := true, laidLooks := .later }
def HoldPartsCardSaid : Prop := Claim7.holds Tryd.pinned (.plain (OpenSpec.ofChange holdPartsSpec)) holdPartsCard

/-- THE SECOND FORM's CARD OF 'bursarlaw14.HoldTexts'. -/
def holdTextsUptoCard : Claim7 := { stood := { row := holdTextsUptoRow, standIns := [], harness := (true, "a1170144e51617f365efa12adba2f8e503d7ac154e81ddbb7cf1a18612b5f6ed"), looks := true }, kinds := [], alts := [], laidByText := true, laidKinds := [.data, .data, .data, .sentinel, .sentinel, .data], laidTests := true, laidLooks := .later }
def HoldTextsUptoCardSaid : Prop := Claim7.holds Tryd.pinned (.plain (OpenSpec.upto holdTextsSpec)) holdTextsUptoCard

/-- THE SECOND FORM's CARD OF 'bursarlaw14.HoldSums'. -/
def holdSumsUptoCard : Claim7 := { stood := { row := holdSumsUptoRow, standIns := [], harness := (true, "a1170144e51617f365efa12adba2f8e503d7ac154e81ddbb7cf1a18612b5f6ed"), looks := true }, kinds := [], alts := [], laidByText := true, laidKinds := [.data], laidTests := true, laidLooks := .later }
def HoldSumsUptoCardSaid : Prop := Claim7.holds Tryd.pinned (.plain (OpenSpec.upto holdSumsSpec)) holdSumsUptoCard

/-- THE SECOND FORM's CARD OF 'bursarlaw14.HoldKeeps'. -/
def holdKeepsUptoCard : Claim7 := { stood := { row := holdKeepsUptoRow, standIns := [], harness := (true, "a1170144e51617f365efa12adba2f8e503d7ac154e81ddbb7cf1a18612b5f6ed"), looks := true }, kinds := [], alts := [], laidByText := true, laidKinds := [.data], laidTests := true, laidLooks := .later }
def HoldKeepsUptoCardSaid : Prop := Claim7.holds Tryd.pinned (.plain (OpenSpec.upto holdKeepsSpec)) holdKeepsUptoCard

/-- THE SECOND FORM's CARD OF 'bursarlaw14.HoldParts'. -/
def holdPartsUptoCard : Claim7 := { stood := { row := holdPartsUptoRow, standIns := [], harness := (true, "a1170144e51617f365efa12adba2f8e503d7ac154e81ddbb7cf1a18612b5f6ed"), looks := true }, kinds := [], alts := [], laidByText := true, laidKinds := [.data], laidTests := true, laidLooks := .later }
def HoldPartsUptoCardSaid : Prop := Claim7.holds Tryd.pinned (.plain (OpenSpec.upto holdPartsSpec)) holdPartsUptoCard
end Rows
end Go.Proofs.YtkhkncgndllkjaaDoor
