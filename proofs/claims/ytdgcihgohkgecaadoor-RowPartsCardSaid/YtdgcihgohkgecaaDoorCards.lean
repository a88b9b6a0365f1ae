/-
  DERIVED. GIVEN WITH THE SEED: THE CARDS: each row of YtdgcihgohkgecaaDoorRows.lean that lists a variable, with what it lists TIED to the program's text (the seventh form; the later family's looks); each row that meets fmt, with fmt's text TOLD by the authors' own Lean function (tested against real Go, not proved from fmt's source: count such statements apart). THE CARD IS WHAT COUNTS. Prove the row's statement (the work); the ties are given (YtdgcihgohkgecaaDoorTie.lean); close each card by the builder's one call (the guide's Derived/Test/ToyasCard.lean, 'card_holds'). Laid BY PROGRAM, IN A SANDBOX (cutbox-door.mjs). By AI agents, Wed Nov 11 2026. No macro, syntax, notation, axiom, sorry.
-/
import Derived.Test.YtdgcihgohkgecaaDoorRows
import GoSem.ClaimSeven
namespace Go.Proofs.YtdgcihgohkgecaaDoor
namespace Rows

/-- THE TIED CARD OF 'mailsacklaw7.RowMakes'. -/
def rowMakesCard : Claim7 := { stood := { row := rowMakesRow, standIns := [], harness := (true, "4413bcee3defe6b14cf3ba624406a2cd1c01998acf3125117f925848cbcaafda"), looks := false }, kinds := [], alts := [], laidByText := true, laidKinds := [.data, .data, .data, .data], laidTests := true, laidLooks := .later }
def RowMakesCardSaid : Prop := Claim7.holds Tryd.pinned (.plain (OpenSpec.ofChange rowMakesSpec)) rowMakesCard

/-- THE TIED CARD OF 'mailsacklaw7.RowParts'. -/
def rowPartsCard : Claim7 := { stood := { row := rowPartsRow, standIns := [], harness := (true, "4413bcee3defe6b14cf3ba624406a2cd1c01998acf3125117f925848cbcaafda"), looks := false }, kinds := [], alts := [], laidByText := true, laidKinds := [.data, .data, .data, .data], laidTests := true, laidLooks := .later }
def RowPartsCardSaid : Prop := Claim7.holds Tryd.pinned (.plain (OpenSpec.ofChange rowPartsSpec)) rowPartsCard

/-- THE TIED CARD OF 'mailsacklaw10.Form3Apart'. -/
def form3ApartCard : Claim7 := { stood := { row := form3ApartRow, standIns := [], harness := (true, "4413bcee3defe6b14cf3ba624406a2cd1c01998acf3125117f925848cbcaafda"), looks := false }, kinds := [], alts := [], laidByText := true, laidKinds := [.data, .data, .data], laidTests := true, laidLooks := .later }
def Form3ApartCardSaid : Prop := Claim7.holds Tryd.pinned (.plain (OpenSpec.ofChange form3ApartSpec)) form3ApartCard

/-- THE SECOND FORM's CARD OF 'mailsacklaw7.RowMakes'. -/
def rowMakesUptoCard : Claim7 := { stood := { row := rowMakesUptoRow, standIns := [], harness := (true, "4413bcee3defe6b14cf3ba624406a2cd1c01998acf3125117f925848cbcaafda"), looks := false }, kinds := [], alts := [], laidByText := true, laidKinds := [.data, .data, .data, .data], laidTests := true, laidLooks := .later }
def RowMakesUptoCardSaid : Prop := Claim7.holds Tryd.pinned (.plain (OpenSpec.upto rowMakesSpec)) rowMakesUptoCard

/-- THE SECOND FORM's CARD OF 'mailsacklaw7.RowParts'. -/
def rowPartsUptoCard : Claim7 := { stood := { row := rowPartsUptoRow, standIns := [], harness := (true, "4413bcee3defe6b14cf3ba624406a2cd1c01998acf3125117f925848cbcaafda"), looks := false }, kinds := [], alts := [], laidByText := true, laidKinds := [.data, .data, .data, .data], laidTests := true, laidLooks := .later }
def RowPartsUptoCardSaid : Prop := Claim7.holds Tryd.pinned (.plain (OpenSpec.upto rowPartsSpec)) rowPartsUptoCard

/-- THE SECOND FORM's CARD OF 'mailsacklaw10.Form3Apart'. -/
def form3ApartUptoCard : Claim7 := { stood := { row := form3ApartUptoRow, standIns := [], harness := (true, "4413bcee3defe6b14cf3ba624406a2cd1c01998acf3125117f925848cbcaafda"), looks := false }, kinds := [], alts := [], laidByText := true, laidKinds := [.data, .data, .data], laidTests := true, laidLooks := .later }
def Form3ApartUptoCardSaid : Prop := Claim7.holds Tryd.pinned (.plain (OpenSpec.upto form3ApartSpec)) form3ApartUptoCard
end Rows
end Go.Proofs.YtdgcihgohkgecaaDoor
