/-
  DERIVED. GIVEN WITH THE SEED: THE CARDS: each row of YtfhdoecackdflabGreatDoorRows.lean that lists a variable, with what it lists TIED to the program's text (the seventh form; the later family's looks); each row that meets fmt, with fmt's text TOLD by the authors' own Lean function (tested against real Go, not proved from fmt's source: count such statements apart). THE CARD IS WHAT COUNTS. Prove the row's statement (the work); the ties are given (YtfhdoecackdflabGreatDoorTie.lean); close each card by the builder's one call (the guide's Derived/Test/ToyasCard.lean, 'card_holds'). Laid BY PROGRAM, IN A SANDBOX (cutbox-door.mjs). By AI agents, Wed Nov 11 2026. No macro, syntax, notation, axiom, sorry.
-/
import Derived.Test.YtfhdoecackdflabGreatDoorRows
import GoSem.ClaimSeven
namespace Go.Proofs.YtfhdoecackdflabGreatDoor
namespace Rows

/-- THE TIED CARD OF 'mailsacklaw7.RowDone'. -/
def rowDoneCard : Claim7 := { stood := { row := rowDoneRow, standIns := [], harness := (true, "8ee7e9bc5a1ec10f29e10bf544e30eb93eac7556eaad94bf6b927c1cc05d2b7e"), looks := false }, kinds := [], alts := [], laidByText := true, laidKinds := [.data, .data, .data, .data], laidTests := true, laidLooks := .later }
def RowDoneCardSaid : Prop := Claim7.holds Tryz.pinned (.plain (OpenSpec.ofChange rowDoneSpec)) rowDoneCard

/-- THE SECOND FORM's CARD OF 'mailsacklaw7.RowDone'. -/
def rowDoneUptoCard : Claim7 := { stood := { row := rowDoneUptoRow, standIns := [], harness := (true, "8ee7e9bc5a1ec10f29e10bf544e30eb93eac7556eaad94bf6b927c1cc05d2b7e"), looks := false }, kinds := [], alts := [], laidByText := true, laidKinds := [.data, .data, .data, .data], laidTests := true, laidLooks := .later }
def RowDoneUptoCardSaid : Prop := Claim7.holds Tryz.pinned (.plain (OpenSpec.upto rowDoneSpec)) rowDoneUptoCard
end Rows
end Go.Proofs.YtfhdoecackdflabGreatDoor
