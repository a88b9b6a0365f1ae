/-
  NARROWER THAN 'FOR EVERY INPUT', by the rows' own cells (each row's printed sentence says how): FlagSplits: laid · FlagBits: laid · FlagTexts: laid · FlagAtoms: laid.
  DERIVED. THE GIVEN ROWS OF THIS SEAT. 4 by the template 'for every input the law returns true; each argument reads behind the call as it read before'; 0 by the template 'total and deterministic' (their statements: YtfpilhjjcjjelaaDoorTotals.lean).
  GIVEN WITH THE SEED: the statements are not yours to turn. If you find one false, say at which input.
  Laid BY PROGRAM, IN A SANDBOX (cutbox-rows.mjs): the forced cells as the released guide's own fill.sh prints them over the translation 52147615fcfed283… (all of the seat's roots in one cut). By AI agents, Wed Nov 11 2026. No macro, syntax, notation, axiom, sorry.
-/
import Derived.Test.YtfpilhjjcjjelaaDoorChecked
import GoSem.Claim
import GoSem.ClaimJoined
import GoSem.ClaimMapViews
import Derived.JoinedTies
import Derived.KernelRfl
namespace Go.Proofs.YtfpilhjjcjjelaaDoor
/- THE CELL 'sum', in the pinned program and in every row, IS THE sha256 OF THE DUMP (.gsa) THAT YtfpilhjjcjjelaaDoorProg.lean LOADS. Nothing in Lean hashes anything: it is a label: what it is worth is what the hold of that sum in a sandbox is worth. -/
noncomputable def Tryd.pinned : Pinned := { name := "ytfpilhjjcjjelaadoor", sum := "52147615fcfed283b4e045aa4cdd19a56b50c637bd42b9f02e1da29b7f18ae70", checked := Tryd.checked }
namespace Rows
def none {H : Type} : Left H := { results := [], args := [] }

/- WHAT THE LISTED PACKAGE-LEVEL VARIABLES READ AS WHEN THE CALL BEGINS. Each datum BY PROGRAM (the guide's laid-datum.mjs) off the statement by which the dump's own 'gosem.cut.vars' lays the variable. In a bare row this is a premise. The card (YtfpilhjjcjjelaaDoorCards.lean) ties it to the program's text. -/
def laid_mailsack_flag_flagNames {H : Type} : DataW H := .agg [.agg [.lit (.int .i64 1), .lit (.string [92, 65, 110, 115, 119, 101, 114, 101, 100])], .agg [.lit (.int .i64 2), .lit (.string [92, 70, 108, 97, 103, 103, 101, 100])], .agg [.lit (.int .i64 4), .lit (.string [92, 68, 101, 108, 101, 116, 101, 100])], .agg [.lit (.int .i64 8), .lit (.string [92, 83, 101, 101, 110])], .agg [.lit (.int .i64 16), .lit (.string [92, 68, 114, 97, 102, 116])]]

/-- 'mailsacklaw3.FlagSplits': WHATEVER THE INPUT: true; the input reads as it did. -/
def flagSplitsSpec : ChangeSpec := { name := "flagSplits", fn := fun _ => fun
  | [d1, d2, d3] => { results := [.lit (.bool true)], args := [d1, d2, d3] }
  | _ => none }
def flagSplitsRow : OpenClaim := { program := "ytfpilhjjcjjelaadoor", sum := "52147615fcfed283b4e045aa4cdd19a56b50c637bd42b9f02e1da29b7f18ae70", func := "mailsack/mailsacklaw3.FlagSplits", spec := "flagSplits", inPlace := ["internal/bytealg.IndexByteString", "internal/abi.NoEscape", "internal/bytealg.MakeNoZero"], named := ["mailsack/flag.flagNames"], apart := false, laid := [("mailsack/flag.flagNames", laid_mailsack_flag_flagNames)] }
def FlagSplitsSaid : Prop := flagSplitsRow.holds Tryd.pinned (OpenSpec.ofChange flagSplitsSpec)

/-- ITS FALSE NEIGHBOUR: 'it returns false'. Refute it at one input. -/
def flagSplitsWrong : ChangeSpec := { name := "flagSplits", fn := fun _ => fun
  | [d1, d2, d3] => { results := [.lit (.bool false)], args := [d1, d2, d3] }
  | _ => none }
def FlagSplitsWrongFalsely : Prop := flagSplitsRow.holds Tryd.pinned (OpenSpec.ofChange flagSplitsWrong)

/-- 'mailsacklaw3.FlagBits': WHATEVER THE INPUT: true; the input reads as it did. -/
def flagBitsSpec : ChangeSpec := { name := "flagBits", fn := fun _ => fun
  | [d1, d2] => { results := [.lit (.bool true)], args := [d1, d2] }
  | _ => none }
def flagBitsRow : OpenClaim := { program := "ytfpilhjjcjjelaadoor", sum := "52147615fcfed283b4e045aa4cdd19a56b50c637bd42b9f02e1da29b7f18ae70", func := "mailsack/mailsacklaw3.FlagBits", spec := "flagBits", inPlace := ["internal/bytealg.IndexByteString", "internal/abi.NoEscape", "internal/bytealg.MakeNoZero"], named := ["mailsack/flag.flagNames"], apart := false, laid := [("mailsack/flag.flagNames", laid_mailsack_flag_flagNames)] }
def FlagBitsSaid : Prop := flagBitsRow.holds Tryd.pinned (OpenSpec.ofChange flagBitsSpec)

/-- ITS FALSE NEIGHBOUR: 'it returns false'. Refute it at one input. -/
def flagBitsWrong : ChangeSpec := { name := "flagBits", fn := fun _ => fun
  | [d1, d2] => { results := [.lit (.bool false)], args := [d1, d2] }
  | _ => none }
def FlagBitsWrongFalsely : Prop := flagBitsRow.holds Tryd.pinned (OpenSpec.ofChange flagBitsWrong)

/-- 'mailsacklaw3.FlagTexts': WHATEVER THE INPUT: true; the input reads as it did. -/
def flagTextsSpec : ChangeSpec := { name := "flagTexts", fn := fun _ => fun
  | [d1, d2, d3] => { results := [.lit (.bool true)], args := [d1, d2, d3] }
  | _ => none }
def flagTextsRow : OpenClaim := { program := "ytfpilhjjcjjelaadoor", sum := "52147615fcfed283b4e045aa4cdd19a56b50c637bd42b9f02e1da29b7f18ae70", func := "mailsack/mailsacklaw3.FlagTexts", spec := "flagTexts", inPlace := ["internal/bytealg.IndexByteString", "internal/abi.NoEscape", "internal/bytealg.MakeNoZero"], named := ["mailsack/flag.flagNames"], apart := false, laid := [("mailsack/flag.flagNames", laid_mailsack_flag_flagNames)] }
def FlagTextsSaid : Prop := flagTextsRow.holds Tryd.pinned (OpenSpec.ofChange flagTextsSpec)

/-- ITS FALSE NEIGHBOUR: 'it returns false'. Refute it at one input. -/
def flagTextsWrong : ChangeSpec := { name := "flagTexts", fn := fun _ => fun
  | [d1, d2, d3] => { results := [.lit (.bool false)], args := [d1, d2, d3] }
  | _ => none }
def FlagTextsWrongFalsely : Prop := flagTextsRow.holds Tryd.pinned (OpenSpec.ofChange flagTextsWrong)

/-- 'mailsacklaw3.FlagAtoms': WHATEVER THE INPUT: true; the input reads as it did. -/
def flagAtomsSpec : ChangeSpec := { name := "flagAtoms", fn := fun _ => fun
  | [d1, d2, d3] => { results := [.lit (.bool true)], args := [d1, d2, d3] }
  | _ => none }
def flagAtomsRow : OpenClaim := { program := "ytfpilhjjcjjelaadoor", sum := "52147615fcfed283b4e045aa4cdd19a56b50c637bd42b9f02e1da29b7f18ae70", func := "mailsack/mailsacklaw3.FlagAtoms", spec := "flagAtoms", inPlace := ["internal/bytealg.IndexByteString", "internal/abi.NoEscape", "internal/bytealg.MakeNoZero"], named := ["mailsack/flag.flagNames"], apart := false, laid := [("mailsack/flag.flagNames", laid_mailsack_flag_flagNames)] }
def FlagAtomsSaid : Prop := flagAtomsRow.holds Tryd.pinned (OpenSpec.ofChange flagAtomsSpec)

/-- ITS FALSE NEIGHBOUR: 'it returns false'. Refute it at one input. -/
def flagAtomsWrong : ChangeSpec := { name := "flagAtoms", fn := fun _ => fun
  | [d1, d2, d3] => { results := [.lit (.bool false)], args := [d1, d2, d3] }
  | _ => none }
def FlagAtomsWrongFalsely : Prop := flagAtomsRow.holds Tryd.pinned (OpenSpec.ofChange flagAtomsWrong)

/- THE SECOND FORM. 'bulk': how many values and letters a reading holds, each counted each time it is reached (what is shared counts as often as it is met; a slice's spare places count too). A statement '..UptoSaid' is the law's where the arguments, and the package variables that the reading takes, are together of bulk at most 1048576: NARROWER than '..Said'. Prove '..Said' where nothing that the law and all that it calls make is longer than what came in: it says more and counts as full. Else prove '..UptoSaid'. A law counts once. -/
mutual
def uptoBulk {H : Type} : DataW H → Nat
  | .lit (.string bytes) => bytes.length + 1
  | .lit _ => 1
  | .nil => 1
  | .ptr d => uptoBulk d + 1
  | .slice elems spare => uptoBulkAll elems + uptoBulkAll spare + 1
  | .agg parts => uptoBulkAll parts + 1
  | .iface _ d => uptoBulk d + 1
  | .map entries => uptoBulkEntries entries + 1
  | .held _ => 1
def uptoBulkAll {H : Type} : List (DataW H) → Nat
  | [] => 0
  | d :: r => uptoBulk d + uptoBulkAll r
def uptoBulkEntries {H : Type} : List (Lit × DataW H) → Nat
  | [] => 0
  | x :: r => uptoBulkEntry x + uptoBulkEntries r
def uptoBulkEntry {H : Type} : Lit × DataW H → Nat
  | (.string bytes, d) => bytes.length + uptoBulk d + 1
  | (_, d) => uptoBulk d + 1
 end
def uptoSmall : (H : Type) → List (DataW H) → Bool := fun _ ds => decide (uptoBulkAll ds ≤ 1048576)
def OpenSpec.upto (s : _root_.Go.ChangeSpec) : _root_.Go.OpenSpec := { _root_.Go.OpenSpec.ofChange s with cond := some uptoSmall }

/-- 'mailsacklaw3.FlagSplits', WHERE WHAT IT READS IS OF BULK AT MOST 1048576: true; the input reads as it did. -/
def flagSplitsUptoRow : OpenClaim := { program := "ytfpilhjjcjjelaadoor", sum := "52147615fcfed283b4e045aa4cdd19a56b50c637bd42b9f02e1da29b7f18ae70", func := "mailsack/mailsacklaw3.FlagSplits", spec := "flagSplits", inPlace := ["internal/bytealg.IndexByteString", "internal/abi.NoEscape", "internal/bytealg.MakeNoZero"], named := ["mailsack/flag.flagNames"], apart := false, laid := [("mailsack/flag.flagNames", laid_mailsack_flag_flagNames)], narrowed := true }
def FlagSplitsUptoSaid : Prop := flagSplitsUptoRow.holds Tryd.pinned (OpenSpec.upto flagSplitsSpec)

/-- 'mailsacklaw3.FlagBits', WHERE WHAT IT READS IS OF BULK AT MOST 1048576: true; the input reads as it did. -/
def flagBitsUptoRow : OpenClaim := { program := "ytfpilhjjcjjelaadoor", sum := "52147615fcfed283b4e045aa4cdd19a56b50c637bd42b9f02e1da29b7f18ae70", func := "mailsack/mailsacklaw3.FlagBits", spec := "flagBits", inPlace := ["internal/bytealg.IndexByteString", "internal/abi.NoEscape", "internal/bytealg.MakeNoZero"], named := ["mailsack/flag.flagNames"], apart := false, laid := [("mailsack/flag.flagNames", laid_mailsack_flag_flagNames)], narrowed := true }
def FlagBitsUptoSaid : Prop := flagBitsUptoRow.holds Tryd.pinned (OpenSpec.upto flagBitsSpec)

/-- 'mailsacklaw3.FlagTexts', WHERE WHAT IT READS IS OF BULK AT MOST 1048576: true; the input reads as it did. -/
def flagTextsUptoRow : OpenClaim := { program := "ytfpilhjjcjjelaadoor", sum := "52147615fcfed283b4e045aa4cdd19a56b50c637bd42b9f02e1da29b7f18ae70", func := "mailsack/mailsacklaw3.FlagTexts", spec := "flagTexts", inPlace := ["internal/bytealg.IndexByteString", "internal/abi.NoEscape", "internal/bytealg.MakeNoZero"], named := ["mailsack/flag.flagNames"], apart := false, laid := [("mailsack/flag.flagNames", laid_mailsack_flag_flagNames)], narrowed := true }
def FlagTextsUptoSaid : Prop := flagTextsUptoRow.holds Tryd.pinned (OpenSpec.upto flagTextsSpec)

/-- 'mailsacklaw3.FlagAtoms', WHERE WHAT IT READS IS OF BULK AT MOST 1048576: true; the input reads as it did. -/
def flagAtomsUptoRow : OpenClaim := { program := "ytfpilhjjcjjelaadoor", sum := "52147615fcfed283b4e045aa4cdd19a56b50c637bd42b9f02e1da29b7f18ae70", func := "mailsack/mailsacklaw3.FlagAtoms", spec := "flagAtoms", inPlace := ["internal/bytealg.IndexByteString", "internal/abi.NoEscape", "internal/bytealg.MakeNoZero"], named := ["mailsack/flag.flagNames"], apart := false, laid := [("mailsack/flag.flagNames", laid_mailsack_flag_flagNames)], narrowed := true }
def FlagAtomsUptoSaid : Prop := flagAtomsUptoRow.holds Tryd.pinned (OpenSpec.upto flagAtomsSpec)

end Rows
end Go.Proofs.YtfpilhjjcjjelaaDoor
