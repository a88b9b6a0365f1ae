/-
  An image that every program must know to make: awake of layer 11 answers true.
-/
import Derived.Test.YtchlbbndfhibgaaGreatDoorK6
import Derived.Test.YtchlbbndfhibgaaGreatDoorK7
set_option linter.unusedVariables false
set_option linter.unusedSimpArgs false
namespace Go.Proofs.YtchlbbndfhibgaaGreatDoor.ImAw
open Go.RowKit Go.Proofs.YtchlbbndfhibgaaGreatDoor.BxD Go.Proofs.YtchlbbndfhibgaaGreatDoor.BxKit Go.Proofs.YtchlbbndfhibgaaGreatDoor.BxR Go.Proofs.YtchlbbndfhibgaaGreatDoor.BxS Go.Proofs.YtchlbbndfhibgaaGreatDoor.BxX Go.Proofs.YtchlbbndfhibgaaGreatDoor.OlD Go.Proofs.YtchlbbndfhibgaaGreatDoor.PtK Go.Proofs.YtchlbbndfhibgaaGreatDoor.RwD Go.Proofs.YtchlbbndfhibgaaGreatDoor.RwKit Go.Proofs.YtchlbbndfhibgaaGreatDoor.ImD Go.Proofs.YtchlbbndfhibgaaGreatDoor.ImA Go.Proofs.YtchlbbndfhibgaaGreatDoor.ImB Go.Proofs.YtchlbbndfhibgaaGreatDoor.ImP Go.Proofs.YtchlbbndfhibgaaGreatDoor.ImN Go.Proofs.YtchlbbndfhibgaaGreatDoor.ImL
open Go.Proofs.YtchlbbndfhibgaaGreatDoor.PkKit (BytesAt)

def m1 : Msg := ⟨1, 7, 0, ⟨#[120]⟩, 0, [], ⟨#[]⟩⟩
def b1 : ByteArray := ⟨#[98, 49]⟩
def bx : Box := ⟨b1, 5, 2, 7, [], [m1]⟩
theorem bx_may : mbE bx = 0 := by decide +kernel
theorem bx_rows : ∃ r1 r2, re fm1 bx = [r7 7, r1, r2] := ⟨r5 m1, r6 m1, by decide +kernel⟩
/-- What the document's Same tells of a box and itself. -/
theorem eqX_self (b : Box) : eqX b b = true := eqX_eq rfl
theorem msgs_one (w : World) : MsgsAt (w.alloc (.cells #[.int .i64 1, .int .i64 7, .int .i64 0, .string ⟨#[120]⟩, .int .i64 0, .slice none 0 0, .string ⟨#[]⟩] 28)) (w.heap.size + 1) (some ⟨w.heap.size, 0, none⟩) 1 [m1] := by
  refine ⟨rfl, by decide, fun _ => ⟨_, rfl, Nat.lt_succ_self _, fun j x hj => ?_⟩⟩
  match j, hj with
  | 0, hj =>
    have hx : m1 = x := by simpa using hj
    subst hx
    have c : ∀ o, (w.alloc (.cells #[.int .i64 1, .int .i64 7, .int .i64 0, .string ⟨#[120]⟩, .int .i64 0, .slice none 0 0, .string ⟨#[]⟩] 28)).cell? ⟨w.heap.size, o, none⟩ = (#[.int .i64 1, .int .i64 7, .int .i64 0, .string ⟨#[120]⟩, .int .i64 0, .slice none 0 0, .string ⟨#[]⟩] : Array Value)[o]? := fun o => cell_of_row _ w.heap.size o _ _ _ (heap_alloc_new w _)
    refine ⟨(c 0).trans rfl, (c 1).trans rfl, (c 2).trans rfl, (c 3).trans rfl, (c 4).trans rfl, ⟨none, 0, (c 5).trans rfl, Nat.le_refl _, RowAt.nil _ _ _ _ _⟩, (c 6).trans rfl, by decide, by decide⟩
  | j + 1, hj => simp at hj
end Go.Proofs.YtchlbbndfhibgaaGreatDoor.ImAw
