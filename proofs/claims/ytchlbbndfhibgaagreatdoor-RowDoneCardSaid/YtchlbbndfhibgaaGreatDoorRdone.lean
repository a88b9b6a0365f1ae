/-
  RowDone: rows that were made of a box are done to it: the walk.
-/
import Derived.Test.YtchlbbndfhibgaaGreatDoorRdP
import Derived.Deep.RegionHeld3
import Derived.Deep.DeepCutAuto
set_option linter.unusedVariables false
set_option linter.unusedSimpArgs false
namespace Go.Proofs.YtchlbbndfhibgaaGreatDoor.Rdone
open Go.RowKit Go.Proofs.YtchlbbndfhibgaaGreatDoor.BxD Go.Proofs.YtchlbbndfhibgaaGreatDoor.BxKit Go.Proofs.YtchlbbndfhibgaaGreatDoor.BxA Go.Proofs.YtchlbbndfhibgaaGreatDoor.BxB Go.Proofs.YtchlbbndfhibgaaGreatDoor.BxR Go.Proofs.YtchlbbndfhibgaaGreatDoor.BxH Go.Proofs.YtchlbbndfhibgaaGreatDoor.BxF Go.Proofs.YtchlbbndfhibgaaGreatDoor.BxV Go.Proofs.YtchlbbndfhibgaaGreatDoor.RwD Go.Proofs.YtchlbbndfhibgaaGreatDoor.RwM Go.Proofs.YtchlbbndfhibgaaGreatDoor.RwF Go.Proofs.YtchlbbndfhibgaaGreatDoor.RwKit Go.Proofs.YtchlbbndfhibgaaGreatDoor.RdF Go.Proofs.YtchlbbndfhibgaaGreatDoor.RdD Go.Proofs.YtchlbbndfhibgaaGreatDoor.RpD Go.Proofs.YtchlbbndfhibgaaGreatDoor.RdS

set_option maxHeartbeats 8000000 in
set_option maxRecDepth 100000 in
theorem walk {b : Box} {u md d fl k how : Int} {id tx : ByteArray} {WA MA KA A : Option Addr} {wn wcp mn mcp kn kc n cp : Nat} {ks : List Int} {words : List ByteArray} {w : World} (ht : RwW15.Tab w) (h1 : StrsAt w w.heap.size WA wn b.words) (h2 : MsgsAt w w.heap.size MA mn b.msgs) (h3 : IntsAt w w.heap.size KA kn ks) (h4 : StrsAt w w.heap.size A n words)
    (hwc : wn ≤ wcp) (hmc : mn ≤ mcp) (hkc : kn ≤ kc) (hcp : n ≤ cp) (hn : n ≤ 8796093022208) (z1 : b.id.size ≤ 140737488355328) (z2 : id.size ≤ 140737488355328) (z3 : tx.size ≤ 140737488355328) :
    Calls Tryz.prog 3 #[.agg #[.string b.id, .int .i64 b.valid, .int .i64 b.next, .int .i64 b.high, .slice WA wn wcp, .slice MA mn mcp], .agg #[.int .i64 u, .int .i64 md, .int .i64 d, .string id, .int .i64 fl, .slice KA kn kc, .string tx], .slice A n cp, .int .i64 k, .int .i64 how] w fun e w' => e = .returned (.bool true) ∧ Below w.heap.size w w' := by
  have HS := Lib.hid (St.start w #[.string b.id, .int .i64 b.valid, .int .i64 b.next, .int .i64 b.high, .slice WA wn wcp, .slice MA mn mcp] #[.int .i64 u, .int .i64 md, .int .i64 d, .string id, .int .i64 fl, .slice KA kn kc, .string tx])
  go_enter Tryz.func3, Tryz.ntmps3
  iterate 15 go_step
  exact RdP.part ht h1 h2 h3 h4 hwc hmc hkc hcp hn z1 z2 z3 HS.out
end Go.Proofs.YtchlbbndfhibgaaGreatDoor.Rdone
