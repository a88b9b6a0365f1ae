/-
  DERIVED. GIVEN WITH THE SEED: THE CARDS: each row of YtfhdoecackdflaaGreatDoorRows.lean that lists a variable, with what it lists TIED to the program's text (the seventh form; the later family's looks); each row that meets fmt, with fmt's text TOLD by the authors' own Lean function (tested against real Go, not proved from fmt's source: count such statements apart). THE CARD IS WHAT COUNTS. Prove the row's statement (the work); the ties are given (YtfhdoecackdflaaGreatDoorTie.lean); close each card by the builder's one call (the guide's Derived/Test/ToyasCard.lean, 'card_holds'). Laid BY PROGRAM, IN A SANDBOX (cutbox-door.mjs). By AI agents, Wed Nov 11 2026. No macro, syntax, notation, axiom, sorry.
-/
import Derived.Test.YtfhdoecackdflaaGreatDoorRows
import GoSem.ClaimSeven
namespace Go.Proofs.YtfhdoecackdflaaGreatDoor
namespace Rows

/-- THE TIED CARD OF 'mailsacklaw11.ImageWhole'. -/
def imageWholeCard : Claim7 := { stood := { row := imageWholeRow, standIns := [], harness := (true, "601d7c2595f7fcdb66f68c3329f6b6171f539a544ad716e0b89b46745f15401d"), looks := false }, kinds := [], alts := [], laidByText := true, laidKinds := [.data, .data, .data], laidTests := true, laidLooks := .later }
def ImageWholeCardSaid : Prop := Claim7.holds Tryz.pinned (.plain (OpenSpec.ofChange imageWholeSpec)) imageWholeCard

/-- THE TIED CARD OF 'mailsacklaw11.ImageOther'. -/
def imageOtherCard : Claim7 := { stood := { row := imageOtherRow, standIns := [], harness := (true, "601d7c2595f7fcdb66f68c3329f6b6171f539a544ad716e0b89b46745f15401d"), looks := false }, kinds := [], alts := [], laidByText := true, laidKinds := [.data, .data, .data], laidTests := true, laidLooks := .later }
def ImageOtherCardSaid : Prop := Claim7.holds Tryz.pinned (.plain (OpenSpec.ofChange imageOtherSpec)) imageOtherCard

/-- THE TIED CARD OF 'mailsacklaw11.ImageRest'. -/
def imageRestCard : Claim7 := { stood := { row := imageRestRow, standIns := [], harness := (true, "601d7c2595f7fcdb66f68c3329f6b6171f539a544ad716e0b89b46745f15401d"), looks := false }, kinds := [], alts := [], laidByText := true, laidKinds := [.data, .data, .data], laidTests := true, laidLooks := .later }
def ImageRestCardSaid : Prop := Claim7.holds Tryz.pinned (.plain (OpenSpec.ofChange imageRestSpec)) imageRestCard

/-- THE TIED CARD OF 'mailsacklaw11.ImageMore'. -/
def imageMoreCard : Claim7 := { stood := { row := imageMoreRow, standIns := [], harness := (true, "601d7c2595f7fcdb66f68c3329f6b6171f539a544ad716e0b89b46745f15401d"), looks := false }, kinds := [], alts := [], laidByText := true, laidKinds := [.data, .data, .data], laidTests := true, laidLooks := .later }
def ImageMoreCardSaid : Prop := Claim7.holds Tryz.pinned (.plain (OpenSpec.ofChange imageMoreSpec)) imageMoreCard

/-- THE SECOND FORM's CARD OF 'mailsacklaw11.ImageWhole'. -/
def imageWholeUptoCard : Claim7 := { stood := { row := imageWholeUptoRow, standIns := [], harness := (true, "601d7c2595f7fcdb66f68c3329f6b6171f539a544ad716e0b89b46745f15401d"), looks := false }, kinds := [], alts := [], laidByText := true, laidKinds := [.data, .data, .data], laidTests := true, laidLooks := .later }
def ImageWholeUptoCardSaid : Prop := Claim7.holds Tryz.pinned (.plain (OpenSpec.upto imageWholeSpec)) imageWholeUptoCard

/-- THE SECOND FORM's CARD OF 'mailsacklaw11.ImageOther'. -/
def imageOtherUptoCard : Claim7 := { stood := { row := imageOtherUptoRow, standIns := [], harness := (true, "601d7c2595f7fcdb66f68c3329f6b6171f539a544ad716e0b89b46745f15401d"), looks := false }, kinds := [], alts := [], laidByText := true, laidKinds := [.data, .data, .data], laidTests := true, laidLooks := .later }
def ImageOtherUptoCardSaid : Prop := Claim7.holds Tryz.pinned (.plain (OpenSpec.upto imageOtherSpec)) imageOtherUptoCard

/-- THE SECOND FORM's CARD OF 'mailsacklaw11.ImageRest'. -/
def imageRestUptoCard : Claim7 := { stood := { row := imageRestUptoRow, standIns := [], harness := (true, "601d7c2595f7fcdb66f68c3329f6b6171f539a544ad716e0b89b46745f15401d"), looks := false }, kinds := [], alts := [], laidByText := true, laidKinds := [.data, .data, .data], laidTests := true, laidLooks := .later }
def ImageRestUptoCardSaid : Prop := Claim7.holds Tryz.pinned (.plain (OpenSpec.upto imageRestSpec)) imageRestUptoCard

/-- THE SECOND FORM's CARD OF 'mailsacklaw11.ImageMore'. -/
def imageMoreUptoCard : Claim7 := { stood := { row := imageMoreUptoRow, standIns := [], harness := (true, "601d7c2595f7fcdb66f68c3329f6b6171f539a544ad716e0b89b46745f15401d"), looks := false }, kinds := [], alts := [], laidByText := true, laidKinds := [.data, .data, .data], laidTests := true, laidLooks := .later }
def ImageMoreUptoCardSaid : Prop := Claim7.holds Tryz.pinned (.plain (OpenSpec.upto imageMoreSpec)) imageMoreUptoCard
end Rows
end Go.Proofs.YtfhdoecackdflaaGreatDoor
