/-
  DERIVED. GIVEN WITH THE SEED: THE CARDS: each row of YtejdhemnlcbffaaDoorRows.lean that lists a variable, with what it lists TIED to the program's text (the seventh form; the later family's looks); each row that meets fmt, with fmt's text TOLD by the authors' own Lean function (tested against real Go, not proved from fmt's source: count such statements apart). THE CARD IS WHAT COUNTS. Prove the row's statement (the work); the ties are given (YtejdhemnlcbffaaDoorTie.lean); close each card by the builder's one call (the guide's Derived/Test/ToyasCard.lean, 'card_holds'). Laid BY PROGRAM, IN A SANDBOX (cutbox-door.mjs). By AI agents, Wed Nov 11 2026. No macro, syntax, notation, axiom, sorry.
-/
import Derived.Test.YtejdhemnlcbffaaDoorRows
import GoSem.ClaimSeven
namespace Go.Proofs.YtejdhemnlcbffaaDoor
namespace Rows

/-- THE TIED CARD OF 'bursarlaw13.BookPosts'. -/
def bookPostsCard : Claim7 := { stood := { row := bookPostsRow, standIns := [], harness := (true, "777d83c4542202acd2421fb674c90551287e4b51173154aad84a7a3c8f7148fc"), looks := false }, kinds := [], alts := [], laidByText := true, laidKinds := [.data, .data], laidTests := true, laidLooks := .later }
def BookPostsCardSaid : Prop := Claim7.holds Tryd.pinned (.plain (OpenSpec.ofChange bookPostsSpec)) bookPostsCard

/-- THE TIED CARD OF 'bursarlaw13.BookEven'. -/
def bookEvenCard : Claim7 := { stood := { row := bookEvenRow, standIns := [], harness := (true, "777d83c4542202acd2421fb674c90551287e4b51173154aad84a7a3c8f7148fc"), looks := false }, kinds := [], alts := [], laidByText := true, laidKinds := [.data, .data], laidTests := true, laidLooks := .later }
def BookEvenCardSaid : Prop := Claim7.holds Tryd.pinned (.plain (OpenSpec.ofChange bookEvenSpec)) bookEvenCard

/-- THE TIED CARD OF 'bursarlaw13.BookOrder'. -/
def bookOrderCard : Claim7 := { stood := { row := bookOrderRow, standIns := [], harness := (true, "777d83c4542202acd2421fb674c90551287e4b51173154aad84a7a3c8f7148fc"), looks := false }, kinds := [], alts := [], laidByText := true, laidKinds := [.data, .data], laidTests := true, laidLooks := .later }
def BookOrderCardSaid : Prop := Claim7.holds Tryd.pinned (.plain (OpenSpec.ofChange bookOrderSpec)) bookOrderCard

/-- THE TIED CARD OF 'bursarlaw13.BookAdds'. -/
def bookAddsCard : Claim7 := { stood := { row := bookAddsRow, standIns := [], harness := (true, "777d83c4542202acd2421fb674c90551287e4b51173154aad84a7a3c8f7148fc"), looks := false }, kinds := [], alts := [], laidByText := true, laidKinds := [.data, .data], laidTests := true, laidLooks := .later }
def BookAddsCardSaid : Prop := Claim7.holds Tryd.pinned (.plain (OpenSpec.ofChange bookAddsSpec)) bookAddsCard

/-- THE SECOND FORM's CARD OF 'bursarlaw13.BookPosts'. -/
def bookPostsUptoCard : Claim7 := { stood := { row := bookPostsUptoRow, standIns := [], harness := (true, "777d83c4542202acd2421fb674c90551287e4b51173154aad84a7a3c8f7148fc"), looks := false }, kinds := [], alts := [], laidByText := true, laidKinds := [.data, .data], laidTests := true, laidLooks := .later }
def BookPostsUptoCardSaid : Prop := Claim7.holds Tryd.pinned (.plain (OpenSpec.upto bookPostsSpec)) bookPostsUptoCard

/-- THE SECOND FORM's CARD OF 'bursarlaw13.BookEven'. -/
def bookEvenUptoCard : Claim7 := { stood := { row := bookEvenUptoRow, standIns := [], harness := (true, "777d83c4542202acd2421fb674c90551287e4b51173154aad84a7a3c8f7148fc"), looks := false }, kinds := [], alts := [], laidByText := true, laidKinds := [.data, .data], laidTests := true, laidLooks := .later }
def BookEvenUptoCardSaid : Prop := Claim7.holds Tryd.pinned (.plain (OpenSpec.upto bookEvenSpec)) bookEvenUptoCard

/-- THE SECOND FORM's CARD OF 'bursarlaw13.BookOrder'. -/
def bookOrderUptoCard : Claim7 := { stood := { row := bookOrderUptoRow, standIns := [], harness := (true, "777d83c4542202acd2421fb674c90551287e4b51173154aad84a7a3c8f7148fc"), looks := false }, kinds := [], alts := [], laidByText := true, laidKinds := [.data, .data], laidTests := true, laidLooks := .later }
def BookOrderUptoCardSaid : Prop := Claim7.holds Tryd.pinned (.plain (OpenSpec.upto bookOrderSpec)) bookOrderUptoCard

/-- THE SECOND FORM's CARD OF 'bursarlaw13.BookAdds'. -/
def bookAddsUptoCard : Claim7 := { stood := { row := bookAddsUptoRow, standIns := [], harness := (true, "777d83c4542202acd2421fb674c90551287e4b51173154aad84a7a3c8f7148fc"), looks := false }, kinds := [], alts := [], laidByText := true, laidKinds := [.data, .data], laidTests := true, laidLooks := .later }
def BookAddsUptoCardSaid : Prop := Claim7.holds Tryd.pinned (.plain (OpenSpec.upto bookAddsSpec)) bookAddsUptoCard
end Rows
end Go.Proofs.YtejdhemnlcbffaaDoor
