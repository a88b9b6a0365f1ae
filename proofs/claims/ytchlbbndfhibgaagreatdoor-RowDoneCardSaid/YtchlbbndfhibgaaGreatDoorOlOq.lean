/-
  What '[]byte(s)' leaves is a row of the call's own.
-/
import Derived.Test.YtchlbbndfhibgaaGreatDoorOlOm
import Derived.Lib.AtoiErrMem
set_option linter.unusedVariables false
set_option linter.unusedSimpArgs false
namespace Go.Proofs.YtchlbbndfhibgaaGreatDoor.OlOq
open Go.RowKit Go.Proofs.YtchlbbndfhibgaaGreatDoor.BxD Go.Proofs.YtchlbbndfhibgaaGreatDoor.PkKit Go.Proofs.YtchlbbndfhibgaaGreatDoor.PkA Go.Proofs.YtchlbbndfhibgaaGreatDoor.PkB Go.Proofs.YtchlbbndfhibgaaGreatDoor.PkC Go.Proofs.YtchlbbndfhibgaaGreatDoor.PkR Go.Proofs.YtchlbbndfhibgaaGreatDoor.OlD  Go.Proofs.YtchlbbndfhibgaaGreatDoor.OlOm

theorem conv_oo (w : World) (s : ByteArray) (hs : s.size ≤ 1000000) : OO w.heap.size w (Lib.bytesWorld w 5 s) s.size (.slice (some ⟨w.heap.size, 0, none⟩) s.size (grownCap w s.size 0 5)) s.data.toList := by
  have hge := grownCap_ge w s.size 0 5
  have hle := grownCap_le_maxLen w s.size 0 5 (by unfold maxLen; omega)
  have hsz : (Lib.bytesCells w 5 s).size = grownCap w s.size 0 5 := by
    have : s.data.size = s.size := rfl
    simp [Lib.bytesCells]
    omega
  refine ⟨.inr ⟨by rw [by_length, Array.length_toList]; rfl, w.heap.size, _, _, by rw [hsz], Nat.le_refl _, Lib.bytesWorld_at_new w 5 s, Nat.le_refl _, by rw [hsz]; exact hge, by rw [hsz]; exact hle, ?_⟩, Lib.bytesWorld_below w _ s, Nat.le_refl _⟩
  unfold Lib.bytesCells
  rw [Array.toList_append, List.take_left' (by simp)]
  simp [by_, Lib.byteCells]
end Go.Proofs.YtchlbbndfhibgaaGreatDoor.OlOq
