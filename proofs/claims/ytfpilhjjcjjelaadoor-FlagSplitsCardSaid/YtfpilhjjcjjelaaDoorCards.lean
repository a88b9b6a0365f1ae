/-
  DERIVED. GIVEN WITH THE SEED: THE CARDS: each row of YtfpilhjjcjjelaaDoorRows.lean that lists a variable, with what it lists TIED to the program's text (the seventh form; the later family's looks); each row that meets fmt, with fmt's text TOLD by the authors' own Lean function (tested against real Go, not proved from fmt's source: count such statements apart). THE CARD IS WHAT COUNTS. Prove the row's statement (the work); the ties are given (YtfpilhjjcjjelaaDoorTie.lean); close each card by the builder's one call (the guide's Derived/Test/ToyasCard.lean, 'card_holds'). Laid BY PROGRAM, IN A SANDBOX (cutbox-door.mjs). By AI agents, Wed Nov 11 2026. No macro, syntax, notation, axiom, sorry.
-/
import Derived.Test.YtfpilhjjcjjelaaDoorRows
import GoSem.ClaimSeven
namespace Go.Proofs.YtfpilhjjcjjelaaDoor
namespace Rows

/-- THE TIED CARD OF 'mailsacklaw3.FlagSplits'. -/
def flagSplitsCard : Claim7 := { stood := { row := flagSplitsRow, standIns := [], harness := (true, "e5c4a08cd1abbb996b20bd576a78fddebf62b24e0d547308f3512db663ed023d"), looks := false }, kinds := [], alts := [], laidByText := true, laidKinds := [.data], laidTests := true, laidLooks := .later }
def FlagSplitsCardSaid : Prop := Claim7.holds Tryd.pinned (.plain (OpenSpec.ofChange flagSplitsSpec)) flagSplitsCard

/-- THE TIED CARD OF 'mailsacklaw3.FlagBits'. -/
def flagBitsCard : Claim7 := { stood := { row := flagBitsRow, standIns := [], harness := (true, "e5c4a08cd1abbb996b20bd576a78fddebf62b24e0d547308f3512db663ed023d"), looks := false }, kinds := [], alts := [], laidByText := true, laidKinds := [.data], laidTests := true, laidLooks := .later }
def FlagBitsCardSaid : Prop := Claim7.holds Tryd.pinned (.plain (OpenSpec.ofChange flagBitsSpec)) flagBitsCard

/-- THE TIED CARD OF 'mailsacklaw3.FlagTexts'. -/
def flagTextsCard : Claim7 := { stood := { row := flagTextsRow, standIns := [], harness := (true, "e5c4a08cd1abbb996b20bd576a78fddebf62b24e0d547308f3512db663ed023d"), looks := false }, kinds := [], alts := [], laidByText := true, laidKinds := [.data], laidTests := true, laidLooks := .later }
def FlagTextsCardSaid : Prop := Claim7.holds Tryd.pinned (.plain (OpenSpec.ofChange flagTextsSpec)) flagTextsCard

/-- THE TIED CARD OF 'mailsacklaw3.FlagAtoms'. -/
def flagAtomsCard : Claim7 := { stood := { row := flagAtomsRow, standIns := [], harness := (true, "e5c4a08cd1abbb996b20bd576a78fddebf62b24e0d547308f3512db663ed023d"), looks := false }, kinds := [], alts := [], laidByText := true, laidKinds := [.data], laidTests := true, laidLooks := .later }
def FlagAtomsCardSaid : Prop := Claim7.holds Tryd.pinned (.plain (OpenSpec.ofChange flagAtomsSpec)) flagAtomsCard

/-- THE SECOND FORM's CARD OF 'mailsacklaw3.FlagSplits'. -/
def flagSplitsUptoCard : Claim7 := { stood := { row := flagSplitsUptoRow, standIns := [], harness := (true, "e5c4a08cd1abbb996b20bd576a78fddebf62b24e0d547308f3512db663ed023d"), looks := false }, kinds := [], alts := [], laidByText := true, laidKinds := [.data], laidTests := true, laidLooks := .later }
def FlagSplitsUptoCardSaid : Prop := Claim7.holds Tryd.pinned (.plain (OpenSpec.upto flagSplitsSpec)) flagSplitsUptoCard

/-- THE SECOND FORM's CARD OF 'mailsacklaw3.FlagBits'. -/
def flagBitsUptoCard : Claim7 := { stood := { row := flagBitsUptoRow, standIns := [], harness := (true, "e5c4a08cd1abbb996b20bd576a78fddebf62b24e0d547308f3512db663ed023d"), looks := false }, kinds := [], alts := [], laidByText := true, laidKinds := [.data], laidTests := true, laidLooks := .later }
def FlagBitsUptoCardSaid : Prop := Claim7.holds Tryd.pinned (.plain (OpenSpec.upto flagBitsSpec)) flagBitsUptoCard

/-- THE SECOND FORM's CARD OF 'mailsacklaw3.FlagTexts'. -/
def flagTextsUptoCard : Claim7 := { stood := { row := flagTextsUptoRow, standIns := [], harness := (true, "e5c4a08cd1abbb996b20bd576a78fddebf62b24e0d547308f3512db663ed023d"), looks := false }, kinds := [], alts := [], laidByText := true, laidKinds := [.data], laidTests := true, laidLooks := .later }
def FlagTextsUptoCardSaid : Prop := Claim7.holds Tryd.pinned (.plain (OpenSpec.upto flagTextsSpec)) flagTextsUptoCard

/-- THE SECOND FORM's CARD OF 'mailsacklaw3.FlagAtoms'. -/
def flagAtomsUptoCard : Claim7 := { stood := { row := flagAtomsUptoRow, standIns := [], harness := (true, "e5c4a08cd1abbb996b20bd576a78fddebf62b24e0d547308f3512db663ed023d"), looks := false }, kinds := [], alts := [], laidByText := true, laidKinds := [.data], laidTests := true, laidLooks := .later }
def FlagAtomsUptoCardSaid : Prop := Claim7.holds Tryd.pinned (.plain (OpenSpec.upto flagAtomsSpec)) flagAtomsUptoCard
end Rows
end Go.Proofs.YtfpilhjjcjjelaaDoor
