/-
  DERIVED. GIVEN WITH THE SEED: THE CARDS: each row of YtchlbbndfhibgaaGreatDoorRows.lean that lists a variable, with what it lists TIED to the program's text (the seventh form; the later family's looks); each row that meets fmt, with fmt's text TOLD by the authors' own Lean function (tested against real Go, not proved from fmt's source: count such statements apart). THE CARD IS WHAT COUNTS. Prove the row's statement (the work); the ties are given (YtchlbbndfhibgaaGreatDoorTie.lean); close each card by the builder's one call (the guide's Derived/Test/ToyasCard.lean, 'card_holds'). Laid BY PROGRAM, IN A SANDBOX (cutbox-door.mjs). By AI agents, Wed Nov 11 2026. No macro, syntax, notation, axiom, sorry.
-/
import Derived.Test.YtchlbbndfhibgaaGreatDoorRows
import GoSem.ClaimSeven
namespace Go.Proofs.YtchlbbndfhibgaaGreatDoor
namespace Rows

/-- THE TIED CARD OF 'mailsacklaw7.RowDone'. -/
def rowDoneCard : Claim7 := { stood := { row := rowDoneRow, standIns := [], harness := (true, "887c71fb6e91ac7dcc214e188b31994c51b47f3b0362187451d90802b362eb2b"), looks := false }, kinds := [], alts := [], laidByText := true, laidKinds := [.data, .data, .data, .data], laidTests := true, laidLooks := .later }
def RowDoneCardSaid : Prop := Claim7.holds Tryz.pinned (.plain (OpenSpec.ofChange rowDoneSpec)) rowDoneCard

/-- THE TIED CARD OF 'mailsacklaw12.LowerForms'. -/
def lowerFormsCard : Claim7 := { stood := { row := lowerFormsRow, standIns := [], harness := (true, "887c71fb6e91ac7dcc214e188b31994c51b47f3b0362187451d90802b362eb2b"), looks := false }, kinds := [], alts := [], laidByText := true, laidKinds := [.data, .data, .data], laidTests := true, laidLooks := .later }
def LowerFormsCardSaid : Prop := Claim7.holds Tryz.pinned (.plain (OpenSpec.ofChange lowerFormsSpec)) lowerFormsCard

/-- THE TIED CARD OF 'mailsacklaw12.LowerJust'. -/
def lowerJustCard : Claim7 := { stood := { row := lowerJustRow, standIns := [], harness := (true, "887c71fb6e91ac7dcc214e188b31994c51b47f3b0362187451d90802b362eb2b"), looks := false }, kinds := [], alts := [], laidByText := true, laidKinds := [.data, .data, .data], laidTests := true, laidLooks := .later }
def LowerJustCardSaid : Prop := Claim7.holds Tryz.pinned (.plain (OpenSpec.ofChange lowerJustSpec)) lowerJustCard

/-- THE TIED CARD OF 'mailsacklaw12.LowerAlone'. -/
def lowerAloneCard : Claim7 := { stood := { row := lowerAloneRow, standIns := [], harness := (true, "887c71fb6e91ac7dcc214e188b31994c51b47f3b0362187451d90802b362eb2b"), looks := false }, kinds := [], alts := [], laidByText := true, laidKinds := [.data, .data, .data], laidTests := true, laidLooks := .later }
def LowerAloneCardSaid : Prop := Claim7.holds Tryz.pinned (.plain (OpenSpec.ofChange lowerAloneSpec)) lowerAloneCard

/-- THE TIED CARD OF 'mailsacklaw12.LowerOlder'. -/
def lowerOlderCard : Claim7 := { stood := { row := lowerOlderRow, standIns := [], harness := (true, "887c71fb6e91ac7dcc214e188b31994c51b47f3b0362187451d90802b362eb2b"), looks := false }, kinds := [], alts := [], laidByText := true, laidKinds := [.data, .data, .data], laidTests := true, laidLooks := .later }
def LowerOlderCardSaid : Prop := Claim7.holds Tryz.pinned (.plain (OpenSpec.ofChange lowerOlderSpec)) lowerOlderCard

/-- THE SECOND FORM's CARD OF 'mailsacklaw7.RowDone'. -/
def rowDoneUptoCard : Claim7 := { stood := { row := rowDoneUptoRow, standIns := [], harness := (true, "887c71fb6e91ac7dcc214e188b31994c51b47f3b0362187451d90802b362eb2b"), looks := false }, kinds := [], alts := [], laidByText := true, laidKinds := [.data, .data, .data, .data], laidTests := true, laidLooks := .later }
def RowDoneUptoCardSaid : Prop := Claim7.holds Tryz.pinned (.plain (OpenSpec.upto rowDoneSpec)) rowDoneUptoCard

/-- THE SECOND FORM's CARD OF 'mailsacklaw12.LowerForms'. -/
def lowerFormsUptoCard : Claim7 := { stood := { row := lowerFormsUptoRow, standIns := [], harness := (true, "887c71fb6e91ac7dcc214e188b31994c51b47f3b0362187451d90802b362eb2b"), looks := false }, kinds := [], alts := [], laidByText := true, laidKinds := [.data, .data, .data], laidTests := true, laidLooks := .later }
def LowerFormsUptoCardSaid : Prop := Claim7.holds Tryz.pinned (.plain (OpenSpec.upto lowerFormsSpec)) lowerFormsUptoCard

/-- THE SECOND FORM's CARD OF 'mailsacklaw12.LowerJust'. -/
def lowerJustUptoCard : Claim7 := { stood := { row := lowerJustUptoRow, standIns := [], harness := (true, "887c71fb6e91ac7dcc214e188b31994c51b47f3b0362187451d90802b362eb2b"), looks := false }, kinds := [], alts := [], laidByText := true, laidKinds := [.data, .data, .data], laidTests := true, laidLooks := .later }
def LowerJustUptoCardSaid : Prop := Claim7.holds Tryz.pinned (.plain (OpenSpec.upto lowerJustSpec)) lowerJustUptoCard

/-- THE SECOND FORM's CARD OF 'mailsacklaw12.LowerAlone'. -/
def lowerAloneUptoCard : Claim7 := { stood := { row := lowerAloneUptoRow, standIns := [], harness := (true, "887c71fb6e91ac7dcc214e188b31994c51b47f3b0362187451d90802b362eb2b"), looks := false }, kinds := [], alts := [], laidByText := true, laidKinds := [.data, .data, .data], laidTests := true, laidLooks := .later }
def LowerAloneUptoCardSaid : Prop := Claim7.holds Tryz.pinned (.plain (OpenSpec.upto lowerAloneSpec)) lowerAloneUptoCard

/-- THE SECOND FORM's CARD OF 'mailsacklaw12.LowerOlder'. -/
def lowerOlderUptoCard : Claim7 := { stood := { row := lowerOlderUptoRow, standIns := [], harness := (true, "887c71fb6e91ac7dcc214e188b31994c51b47f3b0362187451d90802b362eb2b"), looks := false }, kinds := [], alts := [], laidByText := true, laidKinds := [.data, .data, .data], laidTests := true, laidLooks := .later }
def LowerOlderUptoCardSaid : Prop := Claim7.holds Tryz.pinned (.plain (OpenSpec.upto lowerOlderSpec)) lowerOlderUptoCard
end Rows
end Go.Proofs.YtchlbbndfhibgaaGreatDoor
