/-
  DERIVED. GIVEN WITH THE SEED: THE CARDS: each row of YtoljpfapphoflaaGreatDoorRows.lean that lists a variable, with what it lists TIED to the program's text (the seventh form; the later family's looks); each row that meets fmt, with fmt's text TOLD by the authors' own Lean function (tested against real Go, not proved from fmt's source: count such statements apart). THE CARD IS WHAT COUNTS. Prove the row's statement (the work); the ties are given (YtoljpfapphoflaaGreatDoorTie.lean); close each card by the builder's one call (the guide's Derived/Test/ToyasCard.lean, 'card_holds'). Laid BY PROGRAM, IN A SANDBOX (cutbox-door.mjs). By AI agents, Wed Nov 11 2026. No macro, syntax, notation, axiom, sorry.
-/
import Derived.Test.YtoljpfapphoflaaGreatDoorRows
import GoSem.ClaimSeven
namespace Go.Proofs.YtoljpfapphoflaaGreatDoor
namespace Rows

/-- THE TIED CARD OF 'mailsacklaw15.HoldStays'. -/
def holdStaysCard : Claim7 := { stood := { row := holdStaysRow, standIns := [], harness := (true, "98d5cacc0e11f05344598ad02ae51eeb67c6ec44a1b1d4d3239591e938f94025"), looks := false }, kinds := [], alts := [], laidByText := true, laidKinds := [.data, .data, .data], laidTests := true, laidLooks := .later }
def HoldStaysCardSaid : Prop := Claim7.holds Tryz.pinned (.plain (OpenSpec.ofChange holdStaysSpec)) holdStaysCard

/-- THE TIED CARD OF 'mailsacklaw15.HoldGone'. -/
def holdGoneCard : Claim7 := { stood := { row := holdGoneRow, standIns := [], harness := (true, "98d5cacc0e11f05344598ad02ae51eeb67c6ec44a1b1d4d3239591e938f94025"), looks := false }, kinds := [], alts := [], laidByText := true, laidKinds := [.data, .data, .data], laidTests := true, laidLooks := .later }
def HoldGoneCardSaid : Prop := Claim7.holds Tryz.pinned (.plain (OpenSpec.ofChange holdGoneSpec)) holdGoneCard

/-- THE TIED CARD OF 'mailsacklaw15.HoldForm'. -/
def holdFormCard : Claim7 := { stood := { row := holdFormRow, standIns := [], harness := (true, "98d5cacc0e11f05344598ad02ae51eeb67c6ec44a1b1d4d3239591e938f94025"), looks := false }, kinds := [], alts := [], laidByText := true, laidKinds := [.data, .data, .data], laidTests := true, laidLooks := .later }
def HoldFormCardSaid : Prop := Claim7.holds Tryz.pinned (.plain (OpenSpec.ofChange holdFormSpec)) holdFormCard

/-- THE TIED CARD OF 'mailsacklaw15.HoldFull'. -/
def holdFullCard : Claim7 := { stood := { row := holdFullRow, standIns := [], harness := (true, "98d5cacc0e11f05344598ad02ae51eeb67c6ec44a1b1d4d3239591e938f94025"), looks := false }, kinds := [], alts := [], laidByText := true, laidKinds := [.data, .data, .data], laidTests := true, laidLooks := .later }
def HoldFullCardSaid : Prop := Claim7.holds Tryz.pinned (.plain (OpenSpec.ofChange holdFullSpec)) holdFullCard

/-- THE SECOND FORM's CARD OF 'mailsacklaw15.HoldStays'. -/
def holdStaysUptoCard : Claim7 := { stood := { row := holdStaysUptoRow, standIns := [], harness := (true, "98d5cacc0e11f05344598ad02ae51eeb67c6ec44a1b1d4d3239591e938f94025"), looks := false }, kinds := [], alts := [], laidByText := true, laidKinds := [.data, .data, .data], laidTests := true, laidLooks := .later }
def HoldStaysUptoCardSaid : Prop := Claim7.holds Tryz.pinned (.plain (OpenSpec.upto holdStaysSpec)) holdStaysUptoCard

/-- THE SECOND FORM's CARD OF 'mailsacklaw15.HoldGone'. -/
def holdGoneUptoCard : Claim7 := { stood := { row := holdGoneUptoRow, standIns := [], harness := (true, "98d5cacc0e11f05344598ad02ae51eeb67c6ec44a1b1d4d3239591e938f94025"), looks := false }, kinds := [], alts := [], laidByText := true, laidKinds := [.data, .data, .data], laidTests := true, laidLooks := .later }
def HoldGoneUptoCardSaid : Prop := Claim7.holds Tryz.pinned (.plain (OpenSpec.upto holdGoneSpec)) holdGoneUptoCard

/-- THE SECOND FORM's CARD OF 'mailsacklaw15.HoldForm'. -/
def holdFormUptoCard : Claim7 := { stood := { row := holdFormUptoRow, standIns := [], harness := (true, "98d5cacc0e11f05344598ad02ae51eeb67c6ec44a1b1d4d3239591e938f94025"), looks := false }, kinds := [], alts := [], laidByText := true, laidKinds := [.data, .data, .data], laidTests := true, laidLooks := .later }
def HoldFormUptoCardSaid : Prop := Claim7.holds Tryz.pinned (.plain (OpenSpec.upto holdFormSpec)) holdFormUptoCard

/-- THE SECOND FORM's CARD OF 'mailsacklaw15.HoldFull'. -/
def holdFullUptoCard : Claim7 := { stood := { row := holdFullUptoRow, standIns := [], harness := (true, "98d5cacc0e11f05344598ad02ae51eeb67c6ec44a1b1d4d3239591e938f94025"), looks := false }, kinds := [], alts := [], laidByText := true, laidKinds := [.data, .data, .data], laidTests := true, laidLooks := .later }
def HoldFullUptoCardSaid : Prop := Claim7.holds Tryz.pinned (.plain (OpenSpec.upto holdFullSpec)) holdFullUptoCard
end Rows
end Go.Proofs.YtoljpfapphoflaaGreatDoor
