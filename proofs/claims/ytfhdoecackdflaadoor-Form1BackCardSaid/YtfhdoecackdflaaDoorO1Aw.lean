/-
  An empty box that every program must know to write: awake of layer 8 answers true.
-/
import Derived.Test.YtfhdoecackdflaaDoorOlW
set_option linter.unusedVariables false
set_option linter.unusedSimpArgs false
namespace Go.Proofs.YtfhdoecackdflaaDoor.O1Aw
open Go.Proofs.YtfhdoecackdflaaDoor.PtK
open Go.RowKit Go.Proofs.YtfhdoecackdflaaDoor.BxD Go.Proofs.YtfhdoecackdflaaDoor.PkKit Go.Proofs.YtfhdoecackdflaaDoor.OlD Go.Proofs.YtfhdoecackdflaaDoor.OlE
open Go.Proofs.YtfhdoecackdflaaDoor.BxKit (RowAt IntsAt StrsAt MsgsAt RowAt.nil)

def b1 : ByteArray := ⟨#[98, 49]⟩
def bx : Box := ⟨b1, 5, 1, 1, [], []⟩
def raw : List UInt8 := [77, 66, 49, 0, 0, 0, 5, 0, 0, 0, 1, 0, 0, 0, 0, 0, 0, 0, 0]
theorem eb_bx : eb false bx = raw := by decide +kernel
theorem bx_may : mbE bx = 0 := by decide +kernel
set_option maxHeartbeats 1000000 in
set_option maxRecDepth 100000 in
theorem awake (w : World) : Calls Tryd.prog 12 #[] w fun e w' => e = .returned (.bool true) ∧ Below w.heap.size w w' := by
  have K := OlW.bytes1_ok (b := bx) (WA := none) (MA := none) (wn := 0) (wc := 0) (mn := 0) (mc := 0) (B := w.heap.size) (w := w) (RowAt.nil _ _ _ _ _) (RowAt.nil _ _ _ _ _) (Nat.le_refl _) (Nat.le_refl _) (Nat.le_refl _) bx_may
  rw [eb_bx] at K
  have HK := Lib.hid K
  clear K
  go_enter Tryd.func12, Tryd.ntmps12
  go_upto_region 2 with (go_at_call 13; go_loud (
     refine HK.out.mono ?_
     rintro e w1 ⟨A, n, c, rfl, hc, hb, hbel⟩
     have hcv := hb.conv c
     have HB := Lib.hid hbel
     clear hb hbel))
  unfold raw at hcv
  go_wp2_with fail
  go_ret
  exact ⟨rfl, HB.out⟩
end Go.Proofs.YtfhdoecackdflaaDoor.O1Aw
