/-
  DERIVED. GIVEN WITH THE SEED: THE CARDS: each row of YtinkodkmbecamaaDoorRows.lean that lists a variable, with what it lists TIED to the program's text (the seventh form; the later family's looks); each row that meets fmt, with fmt's text TOLD by the authors' own Lean function (tested against real Go, not proved from fmt's source: count such statements apart). THE CARD IS WHAT COUNTS. Prove the row's statement (the work); the ties are given (YtinkodkmbecamaaDoorTie.lean); close each card by the builder's one call (the guide's Derived/Test/ToyasCard.lean, 'card_holds'). Laid BY PROGRAM, IN A SANDBOX (cutbox-door.mjs). By AI agents, Wed Nov 11 2026. No macro, syntax, notation, axiom, sorry.
-/
import Derived.Test.YtinkodkmbecamaaDoorRows
import GoSem.ClaimSeven
namespace Go.Proofs.YtinkodkmbecamaaDoor
namespace Rows

/-- THE TIED CARD OF 'mailsacklaw8.Form1Forms'. -/
def form1FormsCard : Claim7 := { stood := { row := form1FormsRow, standIns := [], harness := (true, "3ff976941e8e95e2f663974b36e142ba5875788f5302d84112ff4ba862208ff7"), looks := false }, kinds := [], alts := [], laidByText := true, laidKinds := [.data, .data, .data], laidTests := true, laidLooks := .later }
def Form1FormsCardSaid : Prop := Claim7.holds Tryd.pinned (.plain (OpenSpec.ofChange form1FormsSpec)) form1FormsCard

/-- THE TIED CARD OF 'mailsacklaw8.Form1Back'. -/
def form1BackCard : Claim7 := { stood := { row := form1BackRow, standIns := [], harness := (true, "3ff976941e8e95e2f663974b36e142ba5875788f5302d84112ff4ba862208ff7"), looks := false }, kinds := [], alts := [], laidByText := true, laidKinds := [.data, .data, .data], laidTests := true, laidLooks := .later }
def Form1BackCardSaid : Prop := Claim7.holds Tryd.pinned (.plain (OpenSpec.ofChange form1BackSpec)) form1BackCard

/-- THE TIED CARD OF 'mailsacklaw8.Form1Cut'. -/
def form1CutCard : Claim7 := { stood := { row := form1CutRow, standIns := [], harness := (true, "3ff976941e8e95e2f663974b36e142ba5875788f5302d84112ff4ba862208ff7"), looks := false }, kinds := [], alts := [], laidByText := true, laidKinds := [.data, .data, .data], laidTests := true, laidLooks := .later }
def Form1CutCardSaid : Prop := Claim7.holds Tryd.pinned (.plain (OpenSpec.ofChange form1CutSpec)) form1CutCard

/-- THE TIED CARD OF 'mailsacklaw8.Form1Apart'. -/
def form1ApartCard : Claim7 := { stood := { row := form1ApartRow, standIns := [], harness := (true, "3ff976941e8e95e2f663974b36e142ba5875788f5302d84112ff4ba862208ff7"), looks := false }, kinds := [], alts := [], laidByText := true, laidKinds := [.data, .data, .data], laidTests := true, laidLooks := .later }
def Form1ApartCardSaid : Prop := Claim7.holds Tryd.pinned (.plain (OpenSpec.ofChange form1ApartSpec)) form1ApartCard

/-- THE SECOND FORM's CARD OF 'mailsacklaw8.Form1Forms'. -/
def form1FormsUptoCard : Claim7 := { stood := { row := form1FormsUptoRow, standIns := [], harness := (true, "3ff976941e8e95e2f663974b36e142ba5875788f5302d84112ff4ba862208ff7"), looks := false }, kinds := [], alts := [], laidByText := true, laidKinds := [.data, .data, .data], laidTests := true, laidLooks := .later }
def Form1FormsUptoCardSaid : Prop := Claim7.holds Tryd.pinned (.plain (OpenSpec.upto form1FormsSpec)) form1FormsUptoCard

/-- THE SECOND FORM's CARD OF 'mailsacklaw8.Form1Back'. -/
def form1BackUptoCard : Claim7 := { stood := { row := form1BackUptoRow, standIns := [], harness := (true, "3ff976941e8e95e2f663974b36e142ba5875788f5302d84112ff4ba862208ff7"), looks := false }, kinds := [], alts := [], laidByText := true, laidKinds := [.data, .data, .data], laidTests := true, laidLooks := .later }
def Form1BackUptoCardSaid : Prop := Claim7.holds Tryd.pinned (.plain (OpenSpec.upto form1BackSpec)) form1BackUptoCard

/-- THE SECOND FORM's CARD OF 'mailsacklaw8.Form1Cut'. -/
def form1CutUptoCard : Claim7 := { stood := { row := form1CutUptoRow, standIns := [], harness := (true, "3ff976941e8e95e2f663974b36e142ba5875788f5302d84112ff4ba862208ff7"), looks := false }, kinds := [], alts := [], laidByText := true, laidKinds := [.data, .data, .data], laidTests := true, laidLooks := .later }
def Form1CutUptoCardSaid : Prop := Claim7.holds Tryd.pinned (.plain (OpenSpec.upto form1CutSpec)) form1CutUptoCard

/-- THE SECOND FORM's CARD OF 'mailsacklaw8.Form1Apart'. -/
def form1ApartUptoCard : Claim7 := { stood := { row := form1ApartUptoRow, standIns := [], harness := (true, "3ff976941e8e95e2f663974b36e142ba5875788f5302d84112ff4ba862208ff7"), looks := false }, kinds := [], alts := [], laidByText := true, laidKinds := [.data, .data, .data], laidTests := true, laidLooks := .later }
def Form1ApartUptoCardSaid : Prop := Claim7.holds Tryd.pinned (.plain (OpenSpec.upto form1ApartSpec)) form1ApartUptoCard
end Rows
end Go.Proofs.YtinkodkmbecamaaDoor
