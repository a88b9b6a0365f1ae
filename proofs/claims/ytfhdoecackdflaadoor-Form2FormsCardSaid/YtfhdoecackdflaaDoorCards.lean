/-
  DERIVED. GIVEN WITH THE SEED: THE CARDS: each row of YtfhdoecackdflaaDoorRows.lean that lists a variable, with what it lists TIED to the program's text (the seventh form; the later family's looks); each row that meets fmt, with fmt's text TOLD by the authors' own Lean function (tested against real Go, not proved from fmt's source: count such statements apart). THE CARD IS WHAT COUNTS. Prove the row's statement (the work); the ties are given (YtfhdoecackdflaaDoorTie.lean); close each card by the builder's one call (the guide's Derived/Test/ToyasCard.lean, 'card_holds'). Laid BY PROGRAM, IN A SANDBOX (cutbox-door.mjs). By AI agents, Wed Nov 11 2026. No macro, syntax, notation, axiom, sorry.
-/
import Derived.Test.YtfhdoecackdflaaDoorRows
import GoSem.ClaimSeven
namespace Go.Proofs.YtfhdoecackdflaaDoor
namespace Rows

/-- THE TIED CARD OF 'mailsacklaw8.Form1Forms'. -/
def form1FormsCard : Claim7 := { stood := { row := form1FormsRow, standIns := [], harness := (true, "c833effeedb4c8781c0df90f6efe161a75047a779fe6fed04e8603a7e1987c26"), looks := false }, kinds := [], alts := [], laidByText := true, laidKinds := [.data, .data, .data], laidTests := true, laidLooks := .later }
def Form1FormsCardSaid : Prop := Claim7.holds Tryd.pinned (.plain (OpenSpec.ofChange form1FormsSpec)) form1FormsCard

/-- THE TIED CARD OF 'mailsacklaw8.Form1Back'. -/
def form1BackCard : Claim7 := { stood := { row := form1BackRow, standIns := [], harness := (true, "c833effeedb4c8781c0df90f6efe161a75047a779fe6fed04e8603a7e1987c26"), looks := false }, kinds := [], alts := [], laidByText := true, laidKinds := [.data, .data, .data], laidTests := true, laidLooks := .later }
def Form1BackCardSaid : Prop := Claim7.holds Tryd.pinned (.plain (OpenSpec.ofChange form1BackSpec)) form1BackCard

/-- THE TIED CARD OF 'mailsacklaw8.Form1Cut'. -/
def form1CutCard : Claim7 := { stood := { row := form1CutRow, standIns := [], harness := (true, "c833effeedb4c8781c0df90f6efe161a75047a779fe6fed04e8603a7e1987c26"), looks := false }, kinds := [], alts := [], laidByText := true, laidKinds := [.data, .data, .data], laidTests := true, laidLooks := .later }
def Form1CutCardSaid : Prop := Claim7.holds Tryd.pinned (.plain (OpenSpec.ofChange form1CutSpec)) form1CutCard

/-- THE TIED CARD OF 'mailsacklaw8.Form1Apart'. -/
def form1ApartCard : Claim7 := { stood := { row := form1ApartRow, standIns := [], harness := (true, "c833effeedb4c8781c0df90f6efe161a75047a779fe6fed04e8603a7e1987c26"), looks := false }, kinds := [], alts := [], laidByText := true, laidKinds := [.data, .data, .data], laidTests := true, laidLooks := .later }
def Form1ApartCardSaid : Prop := Claim7.holds Tryd.pinned (.plain (OpenSpec.ofChange form1ApartSpec)) form1ApartCard

/-- THE TIED CARD OF 'mailsacklaw9.Form2Forms'. -/
def form2FormsCard : Claim7 := { stood := { row := form2FormsRow, standIns := [], harness := (true, "c833effeedb4c8781c0df90f6efe161a75047a779fe6fed04e8603a7e1987c26"), looks := false }, kinds := [], alts := [], laidByText := true, laidKinds := [.data, .data, .data], laidTests := true, laidLooks := .later }
def Form2FormsCardSaid : Prop := Claim7.holds Tryd.pinned (.plain (OpenSpec.ofChange form2FormsSpec)) form2FormsCard

/-- THE TIED CARD OF 'mailsacklaw9.Form2Back'. -/
def form2BackCard : Claim7 := { stood := { row := form2BackRow, standIns := [], harness := (true, "c833effeedb4c8781c0df90f6efe161a75047a779fe6fed04e8603a7e1987c26"), looks := false }, kinds := [], alts := [], laidByText := true, laidKinds := [.data, .data, .data], laidTests := true, laidLooks := .later }
def Form2BackCardSaid : Prop := Claim7.holds Tryd.pinned (.plain (OpenSpec.ofChange form2BackSpec)) form2BackCard

/-- THE TIED CARD OF 'mailsacklaw9.Form2Cut'. -/
def form2CutCard : Claim7 := { stood := { row := form2CutRow, standIns := [], harness := (true, "c833effeedb4c8781c0df90f6efe161a75047a779fe6fed04e8603a7e1987c26"), looks := false }, kinds := [], alts := [], laidByText := true, laidKinds := [.data, .data, .data], laidTests := true, laidLooks := .later }
def Form2CutCardSaid : Prop := Claim7.holds Tryd.pinned (.plain (OpenSpec.ofChange form2CutSpec)) form2CutCard

/-- THE TIED CARD OF 'mailsacklaw9.Form2Apart'. -/
def form2ApartCard : Claim7 := { stood := { row := form2ApartRow, standIns := [], harness := (true, "c833effeedb4c8781c0df90f6efe161a75047a779fe6fed04e8603a7e1987c26"), looks := false }, kinds := [], alts := [], laidByText := true, laidKinds := [.data, .data, .data], laidTests := true, laidLooks := .later }
def Form2ApartCardSaid : Prop := Claim7.holds Tryd.pinned (.plain (OpenSpec.ofChange form2ApartSpec)) form2ApartCard

/-- THE SECOND FORM's CARD OF 'mailsacklaw8.Form1Forms'. -/
def form1FormsUptoCard : Claim7 := { stood := { row := form1FormsUptoRow, standIns := [], harness := (true, "c833effeedb4c8781c0df90f6efe161a75047a779fe6fed04e8603a7e1987c26"), looks := false }, kinds := [], alts := [], laidByText := true, laidKinds := [.data, .data, .data], laidTests := true, laidLooks := .later }
def Form1FormsUptoCardSaid : Prop := Claim7.holds Tryd.pinned (.plain (OpenSpec.upto form1FormsSpec)) form1FormsUptoCard

/-- THE SECOND FORM's CARD OF 'mailsacklaw8.Form1Back'. -/
def form1BackUptoCard : Claim7 := { stood := { row := form1BackUptoRow, standIns := [], harness := (true, "c833effeedb4c8781c0df90f6efe161a75047a779fe6fed04e8603a7e1987c26"), looks := false }, kinds := [], alts := [], laidByText := true, laidKinds := [.data, .data, .data], laidTests := true, laidLooks := .later }
def Form1BackUptoCardSaid : Prop := Claim7.holds Tryd.pinned (.plain (OpenSpec.upto form1BackSpec)) form1BackUptoCard

/-- THE SECOND FORM's CARD OF 'mailsacklaw8.Form1Cut'. -/
def form1CutUptoCard : Claim7 := { stood := { row := form1CutUptoRow, standIns := [], harness := (true, "c833effeedb4c8781c0df90f6efe161a75047a779fe6fed04e8603a7e1987c26"), looks := false }, kinds := [], alts := [], laidByText := true, laidKinds := [.data, .data, .data], laidTests := true, laidLooks := .later }
def Form1CutUptoCardSaid : Prop := Claim7.holds Tryd.pinned (.plain (OpenSpec.upto form1CutSpec)) form1CutUptoCard

/-- THE SECOND FORM's CARD OF 'mailsacklaw8.Form1Apart'. -/
def form1ApartUptoCard : Claim7 := { stood := { row := form1ApartUptoRow, standIns := [], harness := (true, "c833effeedb4c8781c0df90f6efe161a75047a779fe6fed04e8603a7e1987c26"), looks := false }, kinds := [], alts := [], laidByText := true, laidKinds := [.data, .data, .data], laidTests := true, laidLooks := .later }
def Form1ApartUptoCardSaid : Prop := Claim7.holds Tryd.pinned (.plain (OpenSpec.upto form1ApartSpec)) form1ApartUptoCard

/-- THE SECOND FORM's CARD OF 'mailsacklaw9.Form2Forms'. -/
def form2FormsUptoCard : Claim7 := { stood := { row := form2FormsUptoRow, standIns := [], harness := (true, "c833effeedb4c8781c0df90f6efe161a75047a779fe6fed04e8603a7e1987c26"), looks := false }, kinds := [], alts := [], laidByText := true, laidKinds := [.data, .data, .data], laidTests := true, laidLooks := .later }
def Form2FormsUptoCardSaid : Prop := Claim7.holds Tryd.pinned (.plain (OpenSpec.upto form2FormsSpec)) form2FormsUptoCard

/-- THE SECOND FORM's CARD OF 'mailsacklaw9.Form2Back'. -/
def form2BackUptoCard : Claim7 := { stood := { row := form2BackUptoRow, standIns := [], harness := (true, "c833effeedb4c8781c0df90f6efe161a75047a779fe6fed04e8603a7e1987c26"), looks := false }, kinds := [], alts := [], laidByText := true, laidKinds := [.data, .data, .data], laidTests := true, laidLooks := .later }
def Form2BackUptoCardSaid : Prop := Claim7.holds Tryd.pinned (.plain (OpenSpec.upto form2BackSpec)) form2BackUptoCard

/-- THE SECOND FORM's CARD OF 'mailsacklaw9.Form2Cut'. -/
def form2CutUptoCard : Claim7 := { stood := { row := form2CutUptoRow, standIns := [], harness := (true, "c833effeedb4c8781c0df90f6efe161a75047a779fe6fed04e8603a7e1987c26"), looks := false }, kinds := [], alts := [], laidByText := true, laidKinds := [.data, .data, .data], laidTests := true, laidLooks := .later }
def Form2CutUptoCardSaid : Prop := Claim7.holds Tryd.pinned (.plain (OpenSpec.upto form2CutSpec)) form2CutUptoCard

/-- THE SECOND FORM's CARD OF 'mailsacklaw9.Form2Apart'. -/
def form2ApartUptoCard : Claim7 := { stood := { row := form2ApartUptoRow, standIns := [], harness := (true, "c833effeedb4c8781c0df90f6efe161a75047a779fe6fed04e8603a7e1987c26"), looks := false }, kinds := [], alts := [], laidByText := true, laidKinds := [.data, .data, .data], laidTests := true, laidLooks := .later }
def Form2ApartUptoCardSaid : Prop := Claim7.holds Tryd.pinned (.plain (OpenSpec.upto form2ApartSpec)) form2ApartUptoCard
end Rows
end Go.Proofs.YtfhdoecackdflaaDoor
