/-
  DERIVED. GIVEN WITH THE SEED: THE CARDS: each row of YtmkbmdoglcimbaaDoorRows.lean that lists a variable, with what it lists TIED to the program's text (the seventh form; the later family's looks); each row that meets fmt, with fmt's text TOLD by the authors' own Lean function (tested against real Go, not proved from fmt's source: count such statements apart). THE CARD IS WHAT COUNTS. Prove the row's statement (the work); the ties are given (YtmkbmdoglcimbaaDoorTie.lean); close each card by the builder's one call (the guide's Derived/Test/ToyasCard.lean, 'card_holds'). Laid BY PROGRAM, IN A SANDBOX (cutbox-door.mjs). By AI agents, Wed Nov 11 2026. No macro, syntax, notation, axiom, sorry.
-/
import Derived.Test.YtmkbmdoglcimbaaDoorRows
import GoSem.ClaimSeven
namespace Go.Proofs.YtmkbmdoglcimbaaDoor
namespace Rows

/-- THE TIED CARD OF 'mailsacklaw7.RowMakes'. -/
def rowMakesCard : Claim7 := { stood := { row := rowMakesRow, standIns := [], harness := (true, "0109f90136035ac5bc5e91a7f5ceb05a55d5f30f8f41c2cad10aee0d0972ef63"), looks := false }, kinds := [], alts := [], laidByText := true, laidKinds := [.data, .data, .data, .data], laidTests := true, laidLooks := .later }
def RowMakesCardSaid : Prop := Claim7.holds Tryd.pinned (.plain (OpenSpec.ofChange rowMakesSpec)) rowMakesCard

/-- THE TIED CARD OF 'mailsacklaw7.RowParts'. -/
def rowPartsCard : Claim7 := { stood := { row := rowPartsRow, standIns := [], harness := (true, "0109f90136035ac5bc5e91a7f5ceb05a55d5f30f8f41c2cad10aee0d0972ef63"), looks := false }, kinds := [], alts := [], laidByText := true, laidKinds := [.data, .data, .data, .data], laidTests := true, laidLooks := .later }
def RowPartsCardSaid : Prop := Claim7.holds Tryd.pinned (.plain (OpenSpec.ofChange rowPartsSpec)) rowPartsCard

/-- THE TIED CARD OF 'mailsacklaw7.RowRises'. -/
def rowRisesCard : Claim7 := { stood := { row := rowRisesRow, standIns := [], harness := (true, "0109f90136035ac5bc5e91a7f5ceb05a55d5f30f8f41c2cad10aee0d0972ef63"), looks := false }, kinds := [], alts := [], laidByText := true, laidKinds := [.data, .data, .data, .data], laidTests := true, laidLooks := .later }
def RowRisesCardSaid : Prop := Claim7.holds Tryd.pinned (.plain (OpenSpec.ofChange rowRisesSpec)) rowRisesCard

/-- THE TIED CARD OF 'mailsacklaw7.RowKeeps'. -/
def rowKeepsCard : Claim7 := { stood := { row := rowKeepsRow, standIns := [], harness := (true, "0109f90136035ac5bc5e91a7f5ceb05a55d5f30f8f41c2cad10aee0d0972ef63"), looks := false }, kinds := [], alts := [], laidByText := true, laidKinds := [.data, .data, .data, .data], laidTests := true, laidLooks := .later }
def RowKeepsCardSaid : Prop := Claim7.holds Tryd.pinned (.plain (OpenSpec.ofChange rowKeepsSpec)) rowKeepsCard

/-- THE TIED CARD OF 'mailsacklaw7.RowOrder'. -/
def rowOrderCard : Claim7 := { stood := { row := rowOrderRow, standIns := [], harness := (true, "0109f90136035ac5bc5e91a7f5ceb05a55d5f30f8f41c2cad10aee0d0972ef63"), looks := false }, kinds := [], alts := [], laidByText := true, laidKinds := [.data, .data, .data, .data], laidTests := true, laidLooks := .later }
def RowOrderCardSaid : Prop := Claim7.holds Tryd.pinned (.plain (OpenSpec.ofChange rowOrderSpec)) rowOrderCard

/-- THE SECOND FORM's CARD OF 'mailsacklaw7.RowMakes'. -/
def rowMakesUptoCard : Claim7 := { stood := { row := rowMakesUptoRow, standIns := [], harness := (true, "0109f90136035ac5bc5e91a7f5ceb05a55d5f30f8f41c2cad10aee0d0972ef63"), looks := false }, kinds := [], alts := [], laidByText := true, laidKinds := [.data, .data, .data, .data], laidTests := true, laidLooks := .later }
def RowMakesUptoCardSaid : Prop := Claim7.holds Tryd.pinned (.plain (OpenSpec.upto rowMakesSpec)) rowMakesUptoCard

/-- THE SECOND FORM's CARD OF 'mailsacklaw7.RowParts'. -/
def rowPartsUptoCard : Claim7 := { stood := { row := rowPartsUptoRow, standIns := [], harness := (true, "0109f90136035ac5bc5e91a7f5ceb05a55d5f30f8f41c2cad10aee0d0972ef63"), looks := false }, kinds := [], alts := [], laidByText := true, laidKinds := [.data, .data, .data, .data], laidTests := true, laidLooks := .later }
def RowPartsUptoCardSaid : Prop := Claim7.holds Tryd.pinned (.plain (OpenSpec.upto rowPartsSpec)) rowPartsUptoCard

/-- THE SECOND FORM's CARD OF 'mailsacklaw7.RowRises'. -/
def rowRisesUptoCard : Claim7 := { stood := { row := rowRisesUptoRow, standIns := [], harness := (true, "0109f90136035ac5bc5e91a7f5ceb05a55d5f30f8f41c2cad10aee0d0972ef63"), looks := false }, kinds := [], alts := [], laidByText := true, laidKinds := [.data, .data, .data, .data], laidTests := true, laidLooks := .later }
def RowRisesUptoCardSaid : Prop := Claim7.holds Tryd.pinned (.plain (OpenSpec.upto rowRisesSpec)) rowRisesUptoCard

/-- THE SECOND FORM's CARD OF 'mailsacklaw7.RowKeeps'. -/
def rowKeepsUptoCard : Claim7 := { stood := { row := rowKeepsUptoRow, standIns := [], harness := (true, "0109f90136035ac5bc5e91a7f5ceb05a55d5f30f8f41c2cad10aee0d0972ef63"), looks := false }, kinds := [], alts := [], laidByText := true, laidKinds := [.data, .data, .data, .data], laidTests := true, laidLooks := .later }
def RowKeepsUptoCardSaid : Prop := Claim7.holds Tryd.pinned (.plain (OpenSpec.upto rowKeepsSpec)) rowKeepsUptoCard

/-- THE SECOND FORM's CARD OF 'mailsacklaw7.RowOrder'. -/
def rowOrderUptoCard : Claim7 := { stood := { row := rowOrderUptoRow, standIns := [], harness := (true, "0109f90136035ac5bc5e91a7f5ceb05a55d5f30f8f41c2cad10aee0d0972ef63"), looks := false }, kinds := [], alts := [], laidByText := true, laidKinds := [.data, .data, .data, .data], laidTests := true, laidLooks := .later }
def RowOrderUptoCardSaid : Prop := Claim7.holds Tryd.pinned (.plain (OpenSpec.upto rowOrderSpec)) rowOrderUptoCard
end Rows
end Go.Proofs.YtmkbmdoglcimbaaDoor
