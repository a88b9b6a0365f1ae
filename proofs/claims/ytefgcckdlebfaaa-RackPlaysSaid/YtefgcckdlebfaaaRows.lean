/-
  No cell of these rows narrows 'for every input' (looked for: loops, veiled, ifaces, maps, wideKeys, modest, calm, conditions, laid).
  DERIVED. THE GIVEN ROWS OF THIS SEAT. 5 by the template 'for every input the law returns true; each argument reads behind the call as it read before'; 0 by the template 'total and deterministic' (their statements: YtefgcckdlebfaaaTotals.lean).
  GIVEN WITH THE SEED: the statements are not yours to turn. If you find one false, say at which input.
  Laid BY PROGRAM, IN A SANDBOX (cutbox-rows.mjs): the forced cells as the released guide's own fill.sh prints them over the translation 80c46e53ae7071cd… (all of the seat's roots in one cut). By AI agents, Wed Nov 11 2026. No macro, syntax, notation, axiom, sorry.
-/
import Derived.Test.YtefgcckdlebfaaaChecked
import GoSem.Claim
import GoSem.ClaimJoined
import GoSem.ClaimMapViews
import Derived.JoinedTies
import Derived.KernelRfl
namespace Go.Proofs.Ytefgcckdlebfaaa
/- THE CELL 'sum', in the pinned program and in every row, IS THE sha256 OF THE DUMP (.gsa) THAT YtefgcckdlebfaaaProg.lean LOADS. Nothing in Lean hashes anything: it is a label: what it is worth is what the hold of that sum in a sandbox is worth. -/
noncomputable def Try.pinned : Pinned := { name := "ytefgcckdlebfaaa", sum := "80c46e53ae7071cd9cc7a8467f98d0bc235714b0d8f1aaf236c641046a59fcc3", checked := Try.checked }
namespace Rows
def none {H : Type} : Left H := { results := [], args := [] }

/-- 'mailsacklaw13.RackPlays': WHATEVER THE INPUT: true; the input reads as it did. -/
def rackPlaysSpec : ChangeSpec := { name := "rackPlays", fn := fun _ => fun
  | [d1, d2] => { results := [.lit (.bool true)], args := [d1, d2] }
  | _ => none }
def rackPlaysRow : OpenClaim := { program := "ytefgcckdlebfaaa", sum := "80c46e53ae7071cd9cc7a8467f98d0bc235714b0d8f1aaf236c641046a59fcc3", func := "mailsack/mailsacklaw13.RackPlays", spec := "rackPlays", inPlace := ["internal/bytealg.abigen_runtime_cmpstring"], unfollowed := true, recurses := true, apart := false }
def RackPlaysSaid : Prop := rackPlaysRow.holds Try.pinned (OpenSpec.ofChange rackPlaysSpec)

/-- ITS FALSE NEIGHBOUR: 'it returns false'. Refute it at one input. -/
def rackPlaysWrong : ChangeSpec := { name := "rackPlays", fn := fun _ => fun
  | [d1, d2] => { results := [.lit (.bool false)], args := [d1, d2] }
  | _ => none }
def RackPlaysWrongFalsely : Prop := rackPlaysRow.holds Try.pinned (OpenSpec.ofChange rackPlaysWrong)

/-- 'mailsacklaw13.RackNil': WHATEVER THE INPUT: true; the input reads as it did. -/
def rackNilSpec : ChangeSpec := { name := "rackNil", fn := fun _ => fun
  | [d] => { results := [.lit (.bool true)], args := [d] }
  | _ => none }
def rackNilRow : OpenClaim := { program := "ytefgcckdlebfaaa", sum := "80c46e53ae7071cd9cc7a8467f98d0bc235714b0d8f1aaf236c641046a59fcc3", func := "mailsack/mailsacklaw13.RackNil", spec := "rackNil", inPlace := ["internal/bytealg.abigen_runtime_cmpstring"], unfollowed := true, recurses := true, apart := false }
def RackNilSaid : Prop := rackNilRow.holds Try.pinned (OpenSpec.ofChange rackNilSpec)

/-- ITS FALSE NEIGHBOUR: 'it returns false'. Refute it at one input. -/
def rackNilWrong : ChangeSpec := { name := "rackNil", fn := fun _ => fun
  | [d] => { results := [.lit (.bool false)], args := [d] }
  | _ => none }
def RackNilWrongFalsely : Prop := rackNilRow.holds Try.pinned (OpenSpec.ofChange rackNilWrong)

/-- 'mailsacklaw13.RackKeeps': WHATEVER THE INPUT: true; the input reads as it did. -/
def rackKeepsSpec : ChangeSpec := { name := "rackKeeps", fn := fun _ => fun
  | [d1, d2] => { results := [.lit (.bool true)], args := [d1, d2] }
  | _ => none }
def rackKeepsRow : OpenClaim := { program := "ytefgcckdlebfaaa", sum := "80c46e53ae7071cd9cc7a8467f98d0bc235714b0d8f1aaf236c641046a59fcc3", func := "mailsack/mailsacklaw13.RackKeeps", spec := "rackKeeps", inPlace := ["internal/bytealg.abigen_runtime_cmpstring"], unfollowed := true, recurses := true, apart := false }
def RackKeepsSaid : Prop := rackKeepsRow.holds Try.pinned (OpenSpec.ofChange rackKeepsSpec)

/-- ITS FALSE NEIGHBOUR: 'it returns false'. Refute it at one input. -/
def rackKeepsWrong : ChangeSpec := { name := "rackKeeps", fn := fun _ => fun
  | [d1, d2] => { results := [.lit (.bool false)], args := [d1, d2] }
  | _ => none }
def RackKeepsWrongFalsely : Prop := rackKeepsRow.holds Try.pinned (OpenSpec.ofChange rackKeepsWrong)

/-- 'mailsacklaw13.RackSubset': WHATEVER THE INPUT: true; the input reads as it did. -/
def rackSubsetSpec : ChangeSpec := { name := "rackSubset", fn := fun _ => fun
  | [d1, d2] => { results := [.lit (.bool true)], args := [d1, d2] }
  | _ => none }
def rackSubsetRow : OpenClaim := { program := "ytefgcckdlebfaaa", sum := "80c46e53ae7071cd9cc7a8467f98d0bc235714b0d8f1aaf236c641046a59fcc3", func := "mailsack/mailsacklaw13.RackSubset", spec := "rackSubset", inPlace := ["internal/bytealg.abigen_runtime_cmpstring"], unfollowed := true, recurses := true, apart := false }
def RackSubsetSaid : Prop := rackSubsetRow.holds Try.pinned (OpenSpec.ofChange rackSubsetSpec)

/-- ITS FALSE NEIGHBOUR: 'it returns false'. Refute it at one input. -/
def rackSubsetWrong : ChangeSpec := { name := "rackSubset", fn := fun _ => fun
  | [d1, d2] => { results := [.lit (.bool false)], args := [d1, d2] }
  | _ => none }
def RackSubsetWrongFalsely : Prop := rackSubsetRow.holds Try.pinned (OpenSpec.ofChange rackSubsetWrong)

/-- 'mailsacklaw13.RackFuse': WHATEVER THE INPUT: true; the input reads as it did. -/
def rackFuseSpec : ChangeSpec := { name := "rackFuse", fn := fun _ => fun
  | [d1, d2] => { results := [.lit (.bool true)], args := [d1, d2] }
  | _ => none }
def rackFuseRow : OpenClaim := { program := "ytefgcckdlebfaaa", sum := "80c46e53ae7071cd9cc7a8467f98d0bc235714b0d8f1aaf236c641046a59fcc3", func := "mailsack/mailsacklaw13.RackFuse", spec := "rackFuse", inPlace := ["internal/bytealg.abigen_runtime_cmpstring"], unfollowed := true, recurses := true, apart := false }
def RackFuseSaid : Prop := rackFuseRow.holds Try.pinned (OpenSpec.ofChange rackFuseSpec)

/-- ITS FALSE NEIGHBOUR: 'it returns false'. Refute it at one input. -/
def rackFuseWrong : ChangeSpec := { name := "rackFuse", fn := fun _ => fun
  | [d1, d2] => { results := [.lit (.bool false)], args := [d1, d2] }
  | _ => none }
def RackFuseWrongFalsely : Prop := rackFuseRow.holds Try.pinned (OpenSpec.ofChange rackFuseWrong)

/- THE SECOND FORM. 'bulk': how many values and letters a reading holds, each counted each time it is reached (what is shared counts as often as it is met; a slice's spare places count too). A statement '..UptoSaid' is the law's where the arguments, and the package variables that the reading takes, are together of bulk at most 1048576: NARROWER than '..Said'. Prove '..Said' where nothing that the law and all that it calls make is longer than what came in: it says more and counts as full. Else prove '..UptoSaid'. A law counts once. -/
mutual
def uptoBulk {H : Type} : DataW H → Nat
  | .lit (.string bytes) => bytes.length + 1
  | .lit _ => 1
  | .nil => 1
  | .ptr d => uptoBulk d + 1
  | .slice elems spare => uptoBulkAll elems + uptoBulkAll spare + 1
  | .agg parts => uptoBulkAll parts + 1
  | .iface _ d => uptoBulk d + 1
  | .map entries => uptoBulkEntries entries + 1
  | .held _ => 1
def uptoBulkAll {H : Type} : List (DataW H) → Nat
  | [] => 0
  | d :: r => uptoBulk d + uptoBulkAll r
def uptoBulkEntries {H : Type} : List (Lit × DataW H) → Nat
  | [] => 0
  | x :: r => uptoBulkEntry x + uptoBulkEntries r
def uptoBulkEntry {H : Type} : Lit × DataW H → Nat
  | (.string bytes, d) => bytes.length + uptoBulk d + 1
  | (_, d) => uptoBulk d + 1
 end
def uptoSmall : (H : Type) → List (DataW H) → Bool := fun _ ds => decide (uptoBulkAll ds ≤ 1048576)
def OpenSpec.upto (s : _root_.Go.ChangeSpec) : _root_.Go.OpenSpec := { _root_.Go.OpenSpec.ofChange s with cond := some uptoSmall }

/-- 'mailsacklaw13.RackPlays', WHERE WHAT IT READS IS OF BULK AT MOST 1048576: true; the input reads as it did. -/
def rackPlaysUptoRow : OpenClaim := { program := "ytefgcckdlebfaaa", sum := "80c46e53ae7071cd9cc7a8467f98d0bc235714b0d8f1aaf236c641046a59fcc3", func := "mailsack/mailsacklaw13.RackPlays", spec := "rackPlays", inPlace := ["internal/bytealg.abigen_runtime_cmpstring"], unfollowed := true, recurses := true, apart := false, narrowed := true }
def RackPlaysUptoSaid : Prop := rackPlaysUptoRow.holds Try.pinned (OpenSpec.upto rackPlaysSpec)

/-- 'mailsacklaw13.RackNil', WHERE WHAT IT READS IS OF BULK AT MOST 1048576: true; the input reads as it did. -/
def rackNilUptoRow : OpenClaim := { program := "ytefgcckdlebfaaa", sum := "80c46e53ae7071cd9cc7a8467f98d0bc235714b0d8f1aaf236c641046a59fcc3", func := "mailsack/mailsacklaw13.RackNil", spec := "rackNil", inPlace := ["internal/bytealg.abigen_runtime_cmpstring"], unfollowed := true, recurses := true, apart := false, narrowed := true }
def RackNilUptoSaid : Prop := rackNilUptoRow.holds Try.pinned (OpenSpec.upto rackNilSpec)

/-- 'mailsacklaw13.RackKeeps', WHERE WHAT IT READS IS OF BULK AT MOST 1048576: true; the input reads as it did. -/
def rackKeepsUptoRow : OpenClaim := { program := "ytefgcckdlebfaaa", sum := "80c46e53ae7071cd9cc7a8467f98d0bc235714b0d8f1aaf236c641046a59fcc3", func := "mailsack/mailsacklaw13.RackKeeps", spec := "rackKeeps", inPlace := ["internal/bytealg.abigen_runtime_cmpstring"], unfollowed := true, recurses := true, apart := false, narrowed := true }
def RackKeepsUptoSaid : Prop := rackKeepsUptoRow.holds Try.pinned (OpenSpec.upto rackKeepsSpec)

/-- 'mailsacklaw13.RackSubset', WHERE WHAT IT READS IS OF BULK AT MOST 1048576: true; the input reads as it did. -/
def rackSubsetUptoRow : OpenClaim := { program := "ytefgcckdlebfaaa", sum := "80c46e53ae7071cd9cc7a8467f98d0bc235714b0d8f1aaf236c641046a59fcc3", func := "mailsack/mailsacklaw13.RackSubset", spec := "rackSubset", inPlace := ["internal/bytealg.abigen_runtime_cmpstring"], unfollowed := true, recurses := true, apart := false, narrowed := true }
def RackSubsetUptoSaid : Prop := rackSubsetUptoRow.holds Try.pinned (OpenSpec.upto rackSubsetSpec)

/-- 'mailsacklaw13.RackFuse', WHERE WHAT IT READS IS OF BULK AT MOST 1048576: true; the input reads as it did. -/
def rackFuseUptoRow : OpenClaim := { program := "ytefgcckdlebfaaa", sum := "80c46e53ae7071cd9cc7a8467f98d0bc235714b0d8f1aaf236c641046a59fcc3", func := "mailsack/mailsacklaw13.RackFuse", spec := "rackFuse", inPlace := ["internal/bytealg.abigen_runtime_cmpstring"], unfollowed := true, recurses := true, apart := false, narrowed := true }
def RackFuseUptoSaid : Prop := rackFuseUptoRow.holds Try.pinned (OpenSpec.upto rackFuseSpec)

end Rows
end Go.Proofs.Ytefgcckdlebfaaa
