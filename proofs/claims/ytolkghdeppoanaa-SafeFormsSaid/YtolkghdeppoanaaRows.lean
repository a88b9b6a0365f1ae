/-
  No cell of these rows narrows 'for every input' (looked for: loops, veiled, ifaces, maps, wideKeys, modest, calm, conditions, laid).
  DERIVED. THE GIVEN ROWS OF THIS SEAT. 6 by the template 'for every input the law returns true; each argument reads behind the call as it read before'; 0 by the template 'total and deterministic' (their statements: YtolkghdeppoanaaTotals.lean).
  GIVEN WITH THE SEED: the statements are not yours to turn. If you find one false, say at which input.
  Laid BY PROGRAM, IN A SANDBOX (cutbox-rows.mjs): the forced cells as the released guide's own fill.sh prints them over the translation a3ef82ae96f2d88f… (all of the seat's roots in one cut). By AI agents, Wed Nov 11 2026. No macro, syntax, notation, axiom, sorry.
-/
import Derived.Test.YtolkghdeppoanaaChecked
import GoSem.Claim
import GoSem.ClaimJoined
import GoSem.ClaimMapViews
import Derived.JoinedTies
import Derived.KernelRfl
namespace Go.Proofs.Ytolkghdeppoanaa
/- THE CELL 'sum', in the pinned program and in every row, IS THE sha256 OF THE DUMP (.gsa) THAT YtolkghdeppoanaaProg.lean LOADS. Nothing in Lean hashes anything: it is a label: what it is worth is what the hold of that sum in a sandbox is worth. -/
noncomputable def Try.pinned : Pinned := { name := "ytolkghdeppoanaa", sum := "a3ef82ae96f2d88f45fdc4f1db57c7f927b65884c29b01c6aa02baa22cb8e23d", checked := Try.checked }
namespace Rows
def none {H : Type} : Left H := { results := [], args := [] }

/-- 'mailsacklaw14.SafeForms': WHATEVER THE INPUT: true; the input reads as it did. -/
def safeFormsSpec : ChangeSpec := { name := "safeForms", fn := fun _ => fun
  | [d1, d2] => { results := [.lit (.bool true)], args := [d1, d2] }
  | _ => none }
def safeFormsRow : OpenClaim := { program := "ytolkghdeppoanaa", sum := "a3ef82ae96f2d88f45fdc4f1db57c7f927b65884c29b01c6aa02baa22cb8e23d", func := "mailsack/mailsacklaw14.SafeForms", spec := "safeForms", inPlace := ["internal/bytealg.abigen_runtime_cmpstring"], unfollowed := true, recurses := true, apart := false }
def SafeFormsSaid : Prop := safeFormsRow.holds Try.pinned (OpenSpec.ofChange safeFormsSpec)

/-- ITS FALSE NEIGHBOUR: 'it returns false'. Refute it at one input. -/
def safeFormsWrong : ChangeSpec := { name := "safeForms", fn := fun _ => fun
  | [d1, d2] => { results := [.lit (.bool false)], args := [d1, d2] }
  | _ => none }
def SafeFormsWrongFalsely : Prop := safeFormsRow.holds Try.pinned (OpenSpec.ofChange safeFormsWrong)

/-- 'mailsacklaw14.SafeAll': WHATEVER THE INPUT: true; the input reads as it did. -/
def safeAllSpec : ChangeSpec := { name := "safeAll", fn := fun _ => fun
  | [d1, d2, d3, d4, d5, d6] => { results := [.lit (.bool true)], args := [d1, d2, d3, d4, d5, d6] }
  | _ => none }
def safeAllRow : OpenClaim := { program := "ytolkghdeppoanaa", sum := "a3ef82ae96f2d88f45fdc4f1db57c7f927b65884c29b01c6aa02baa22cb8e23d", func := "mailsack/mailsacklaw14.SafeAll", spec := "safeAll", inPlace := ["internal/bytealg.abigen_runtime_cmpstring"], unfollowed := true, recurses := true, apart := false }
def SafeAllSaid : Prop := safeAllRow.holds Try.pinned (OpenSpec.ofChange safeAllSpec)

/-- ITS FALSE NEIGHBOUR: 'it returns false'. Refute it at one input. -/
def safeAllWrong : ChangeSpec := { name := "safeAll", fn := fun _ => fun
  | [d1, d2, d3, d4, d5, d6] => { results := [.lit (.bool false)], args := [d1, d2, d3, d4, d5, d6] }
  | _ => none }
def SafeAllWrongFalsely : Prop := safeAllRow.holds Try.pinned (OpenSpec.ofChange safeAllWrong)

/-- 'mailsacklaw14.SafeNil': WHATEVER THE INPUT: true; the input reads as it did. -/
def safeNilSpec : ChangeSpec := { name := "safeNil", fn := fun _ => fun
  | [d] => { results := [.lit (.bool true)], args := [d] }
  | _ => none }
def safeNilRow : OpenClaim := { program := "ytolkghdeppoanaa", sum := "a3ef82ae96f2d88f45fdc4f1db57c7f927b65884c29b01c6aa02baa22cb8e23d", func := "mailsack/mailsacklaw14.SafeNil", spec := "safeNil", inPlace := ["internal/bytealg.abigen_runtime_cmpstring"], unfollowed := true, recurses := true, apart := false }
def SafeNilSaid : Prop := safeNilRow.holds Try.pinned (OpenSpec.ofChange safeNilSpec)

/-- ITS FALSE NEIGHBOUR: 'it returns false'. Refute it at one input. -/
def safeNilWrong : ChangeSpec := { name := "safeNil", fn := fun _ => fun
  | [d] => { results := [.lit (.bool false)], args := [d] }
  | _ => none }
def SafeNilWrongFalsely : Prop := safeNilRow.holds Try.pinned (OpenSpec.ofChange safeNilWrong)

/-- 'mailsacklaw14.SafeFits': WHATEVER THE INPUT: true; the input reads as it did. -/
def safeFitsSpec : ChangeSpec := { name := "safeFits", fn := fun _ => fun
  | [d1, d2] => { results := [.lit (.bool true)], args := [d1, d2] }
  | _ => none }
def safeFitsRow : OpenClaim := { program := "ytolkghdeppoanaa", sum := "a3ef82ae96f2d88f45fdc4f1db57c7f927b65884c29b01c6aa02baa22cb8e23d", func := "mailsack/mailsacklaw14.SafeFits", spec := "safeFits", inPlace := ["internal/bytealg.abigen_runtime_cmpstring"], unfollowed := true, recurses := true, apart := false }
def SafeFitsSaid : Prop := safeFitsRow.holds Try.pinned (OpenSpec.ofChange safeFitsSpec)

/-- ITS FALSE NEIGHBOUR: 'it returns false'. Refute it at one input. -/
def safeFitsWrong : ChangeSpec := { name := "safeFits", fn := fun _ => fun
  | [d1, d2] => { results := [.lit (.bool false)], args := [d1, d2] }
  | _ => none }
def SafeFitsWrongFalsely : Prop := safeFitsRow.holds Try.pinned (OpenSpec.ofChange safeFitsWrong)

/-- 'mailsacklaw14.SafeBytes': WHATEVER THE INPUT: true; the input reads as it did. -/
def safeBytesSpec : ChangeSpec := { name := "safeBytes", fn := fun _ => fun
  | [d1, d2] => { results := [.lit (.bool true)], args := [d1, d2] }
  | _ => none }
def safeBytesRow : OpenClaim := { program := "ytolkghdeppoanaa", sum := "a3ef82ae96f2d88f45fdc4f1db57c7f927b65884c29b01c6aa02baa22cb8e23d", func := "mailsack/mailsacklaw14.SafeBytes", spec := "safeBytes", inPlace := ["internal/bytealg.abigen_runtime_cmpstring"], unfollowed := true, recurses := true, apart := false }
def SafeBytesSaid : Prop := safeBytesRow.holds Try.pinned (OpenSpec.ofChange safeBytesSpec)

/-- ITS FALSE NEIGHBOUR: 'it returns false'. Refute it at one input. -/
def safeBytesWrong : ChangeSpec := { name := "safeBytes", fn := fun _ => fun
  | [d1, d2] => { results := [.lit (.bool false)], args := [d1, d2] }
  | _ => none }
def SafeBytesWrongFalsely : Prop := safeBytesRow.holds Try.pinned (OpenSpec.ofChange safeBytesWrong)

/-- 'mailsacklaw14.SafeTwice': WHATEVER THE INPUT: true; the input reads as it did. -/
def safeTwiceSpec : ChangeSpec := { name := "safeTwice", fn := fun _ => fun
  | [d1, d2, d3] => { results := [.lit (.bool true)], args := [d1, d2, d3] }
  | _ => none }
def safeTwiceRow : OpenClaim := { program := "ytolkghdeppoanaa", sum := "a3ef82ae96f2d88f45fdc4f1db57c7f927b65884c29b01c6aa02baa22cb8e23d", func := "mailsack/mailsacklaw14.SafeTwice", spec := "safeTwice", inPlace := ["internal/bytealg.abigen_runtime_cmpstring"], unfollowed := true, recurses := true, apart := false }
def SafeTwiceSaid : Prop := safeTwiceRow.holds Try.pinned (OpenSpec.ofChange safeTwiceSpec)

/-- ITS FALSE NEIGHBOUR: 'it returns false'. Refute it at one input. -/
def safeTwiceWrong : ChangeSpec := { name := "safeTwice", fn := fun _ => fun
  | [d1, d2, d3] => { results := [.lit (.bool false)], args := [d1, d2, d3] }
  | _ => none }
def SafeTwiceWrongFalsely : Prop := safeTwiceRow.holds Try.pinned (OpenSpec.ofChange safeTwiceWrong)

/- THE SECOND FORM. 'bulk': how many values and letters a reading holds, each counted each time it is reached (what is shared counts as often as it is met; a slice's spare places count too). A statement '..UptoSaid' is the law's where the arguments, and the package variables that the reading takes, are together of bulk at most 1048576: NARROWER than '..Said'. Prove '..Said' where nothing that the law and all that it calls make is longer than what came in: it says more and counts as full. Else prove '..UptoSaid'. A law counts once. -/
mutual
def uptoBulk {H : Type} : DataW H → Nat
  | .lit (.string bytes) => bytes.length + 1
  | .lit _ => 1
  | .nil => 1
  | .ptr d => uptoBulk d + 1
  | .slice elems spare => uptoBulkAll elems + uptoBulkAll spare + 1
  | .agg parts => uptoBulkAll parts + 1
  | .iface _ d => uptoBulk d + 1
  | .map entries => uptoBulkEntries entries + 1
  | .held _ => 1
def uptoBulkAll {H : Type} : List (DataW H) → Nat
  | [] => 0
  | d :: r => uptoBulk d + uptoBulkAll r
def uptoBulkEntries {H : Type} : List (Lit × DataW H) → Nat
  | [] => 0
  | x :: r => uptoBulkEntry x + uptoBulkEntries r
def uptoBulkEntry {H : Type} : Lit × DataW H → Nat
  | (.string bytes, d) => bytes.length + uptoBulk d + 1
  | (_, d) => uptoBulk d + 1
 end
def uptoSmall : (H : Type) → List (DataW H) → Bool := fun _ ds => decide (uptoBulkAll ds ≤ 1048576)
def OpenSpec.upto (s : _root_.Go.ChangeSpec) : _root_.Go.OpenSpec := { _root_.Go.OpenSpec.ofChange s with cond := some uptoSmall }

/-- 'mailsacklaw14.SafeForms', WHERE WHAT IT READS IS OF BULK AT MOST 1048576: true; the input reads as it did. -/
def safeFormsUptoRow : OpenClaim := { program := "ytolkghdeppoanaa", sum := "a3ef82ae96f2d88f45fdc4f1db57c7f927b65884c29b01c6aa02baa22cb8e23d", func := "mailsack/mailsacklaw14.SafeForms", spec := "safeForms", inPlace := ["internal/bytealg.abigen_runtime_cmpstring"], unfollowed := true, recurses := true, apart := false, narrowed := true }
def SafeFormsUptoSaid : Prop := safeFormsUptoRow.holds Try.pinned (OpenSpec.upto safeFormsSpec)

/-- 'mailsacklaw14.SafeAll', WHERE WHAT IT READS IS OF BULK AT MOST 1048576: true; the input reads as it did. -/
def safeAllUptoRow : OpenClaim := { program := "ytolkghdeppoanaa", sum := "a3ef82ae96f2d88f45fdc4f1db57c7f927b65884c29b01c6aa02baa22cb8e23d", func := "mailsack/mailsacklaw14.SafeAll", spec := "safeAll", inPlace := ["internal/bytealg.abigen_runtime_cmpstring"], unfollowed := true, recurses := true, apart := false, narrowed := true }
def SafeAllUptoSaid : Prop := safeAllUptoRow.holds Try.pinned (OpenSpec.upto safeAllSpec)

/-- 'mailsacklaw14.SafeNil', WHERE WHAT IT READS IS OF BULK AT MOST 1048576: true; the input reads as it did. -/
def safeNilUptoRow : OpenClaim := { program := "ytolkghdeppoanaa", sum := "a3ef82ae96f2d88f45fdc4f1db57c7f927b65884c29b01c6aa02baa22cb8e23d", func := "mailsack/mailsacklaw14.SafeNil", spec := "safeNil", inPlace := ["internal/bytealg.abigen_runtime_cmpstring"], unfollowed := true, recurses := true, apart := false, narrowed := true }
def SafeNilUptoSaid : Prop := safeNilUptoRow.holds Try.pinned (OpenSpec.upto safeNilSpec)

/-- 'mailsacklaw14.SafeFits', WHERE WHAT IT READS IS OF BULK AT MOST 1048576: true; the input reads as it did. -/
def safeFitsUptoRow : OpenClaim := { program := "ytolkghdeppoanaa", sum := "a3ef82ae96f2d88f45fdc4f1db57c7f927b65884c29b01c6aa02baa22cb8e23d", func := "mailsack/mailsacklaw14.SafeFits", spec := "safeFits", inPlace := ["internal/bytealg.abigen_runtime_cmpstring"], unfollowed := true, recurses := true, apart := false, narrowed := true }
def SafeFitsUptoSaid : Prop := safeFitsUptoRow.holds Try.pinned (OpenSpec.upto safeFitsSpec)

/-- 'mailsacklaw14.SafeBytes', WHERE WHAT IT READS IS OF BULK AT MOST 1048576: true; the input reads as it did. -/
def safeBytesUptoRow : OpenClaim := { program := "ytolkghdeppoanaa", sum := "a3ef82ae96f2d88f45fdc4f1db57c7f927b65884c29b01c6aa02baa22cb8e23d", func := "mailsack/mailsacklaw14.SafeBytes", spec := "safeBytes", inPlace := ["internal/bytealg.abigen_runtime_cmpstring"], unfollowed := true, recurses := true, apart := false, narrowed := true }
def SafeBytesUptoSaid : Prop := safeBytesUptoRow.holds Try.pinned (OpenSpec.upto safeBytesSpec)

/-- 'mailsacklaw14.SafeTwice', WHERE WHAT IT READS IS OF BULK AT MOST 1048576: true; the input reads as it did. -/
def safeTwiceUptoRow : OpenClaim := { program := "ytolkghdeppoanaa", sum := "a3ef82ae96f2d88f45fdc4f1db57c7f927b65884c29b01c6aa02baa22cb8e23d", func := "mailsack/mailsacklaw14.SafeTwice", spec := "safeTwice", inPlace := ["internal/bytealg.abigen_runtime_cmpstring"], unfollowed := true, recurses := true, apart := false, narrowed := true }
def SafeTwiceUptoSaid : Prop := safeTwiceUptoRow.holds Try.pinned (OpenSpec.upto safeTwiceSpec)

end Rows
end Go.Proofs.Ytolkghdeppoanaa
