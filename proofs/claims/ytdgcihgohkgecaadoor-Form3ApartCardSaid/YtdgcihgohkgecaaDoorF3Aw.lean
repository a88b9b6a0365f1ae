/-
  An empty box and a message that every program must know to write: awake of layer 10 answers true.
-/
import Derived.Test.YtdgcihgohkgecaaDoorF3C
import Derived.Test.YtdgcihgohkgecaaDoorF3B
namespace Go.Proofs.YtdgcihgohkgecaaDoor.F3Aw
open Go.RowKit Go.Proofs.YtdgcihgohkgecaaDoor.BxD Go.Proofs.YtdgcihgohkgecaaDoor.PkKit Go.Proofs.YtdgcihgohkgecaaDoor.OlD Go.Proofs.YtdgcihgohkgecaaDoor.PtK Go.Proofs.YtdgcihgohkgecaaDoor.F3D
open Go.Proofs.YtdgcihgohkgecaaDoor.BxKit (RowAt IntsAt StrsAt MsgsAt RowAt.nil)

def b1 : ByteArray := ⟨#[98, 49]⟩
def bx : Box := ⟨b1, 5, 1, 1, [], []⟩
def raw : List UInt8 := [77, 66, 51, 5, 1, 1, 2, 98, 49, 0, 0]
theorem e3_bx : e3 bx = raw := by decide +kernel
theorem bx_may : mbE bx = 0 := by decide +kernel
theorem m3_len : (m3 1 ⟨3, 0, 0, ⟨#[]⟩, 0, [], ⟨#[]⟩⟩).length = 7 := by decide +kernel
set_option maxHeartbeats 1000000 in
set_option maxRecDepth 100000 in
theorem awake (w : World) : Calls Tryd.prog 21 #[] w fun e w' => e = .returned (.bool true) ∧ Below w.heap.size w w' := by
  have K := F3C.bytes_ok (b := bx) (WA := none) (MA := none) (wn := 0) (wc := 0) (mn := 0) (mc := 0) (B := w.heap.size) (w := w) (RowAt.nil _ _ _ _ _) (RowAt.nil _ _ _ _ _) (Nat.le_refl _) (Nat.le_refl _) (Nat.le_refl _) bx_may
  rw [e3_bx] at K
  have HK := Lib.hid K
  have KM := Lib.hid (fun wr : World => F3B.msg_any (m := 0) (cp := 0) (B := wr.heap.size) (w := wr) (A := none) (lb := []) (u := 3) (md := 0) (d := 0) (fl := 0) (last := 1) (id := ⟨#[]⟩) (tx' := ⟨#[]⟩) (K := none) (kn := 0) (kc := 0) (ks := []) (nil_bytes wr _) (RowAt.nil _ _ _ _ _) (Nat.le_refl _) (by decide) (fun k hk => by simp at hk) (by decide) (by decide) (by decide) (by decide) (by decide))
  simp only [m3_len] at KM
  clear K
  go_enter Tryd.func21, Tryd.ntmps21
  go_upto_region 2 with (go_at_call 22; go_loud (
     refine HK.out.mono ?_
     rintro e w1 ⟨A, n, c, rfl, hc, hb, hbel⟩
     have hcv := hb.conv c
     have HB := Lib.hid hbel
     clear hb hbel))
  unfold raw at hcv
  go_wp2_with (go_at_call 55; go_loud (
     refine (KM.out _).mono ?_
     rintro e w2 ⟨v2, rfl, g2⟩
     obtain ⟨A2, k2, rfl, hk2⟩ := g2.own.slice
     have G2 := Lib.hid g2.bel
     clear g2))
  go_ret
  exact ⟨rfl, HB.out.trans (G2.out.mono HB.out.size)⟩
end Go.Proofs.YtdgcihgohkgecaaDoor.F3Aw
