/-
  ImT
-/
import Derived.Test.YtchlbbndfhibgaaGreatDoorK6
set_option linter.unusedVariables false
set_option linter.unusedSimpArgs false
namespace Go.Proofs.YtchlbbndfhibgaaGreatDoor.ImT
open Go.RowKit Go.Proofs.YtchlbbndfhibgaaGreatDoor.BxD Go.Proofs.YtchlbbndfhibgaaGreatDoor.BxKit Go.Proofs.YtchlbbndfhibgaaGreatDoor.OlD Go.Proofs.YtchlbbndfhibgaaGreatDoor.RwD Go.Proofs.YtchlbbndfhibgaaGreatDoor.RwKit Go.Proofs.YtchlbbndfhibgaaGreatDoor.ImD Go.Proofs.YtchlbbndfhibgaaGreatDoor.ImP Go.Proofs.YtchlbbndfhibgaaGreatDoor.ImN Go.Proofs.YtchlbbndfhibgaaGreatDoor.ImL
open Go.Proofs.YtchlbbndfhibgaaGreatDoor.PkKit (BytesAt)

/-- What Make tells of b in the form k, in memory. -/
structure Mk (wr : World) (k : Nat) (b : Box) (A : Option Addr) (n c : Nat) (A2 : Option Addr) (n2 c2 : Nat) : Prop where
  le1 : n ≤ c
  le2 : n2 ≤ c2
  by_ : BytesAt wr wr.heap.size A n (rawI k b)
  rw_ : RowsAt wr wr.heap.size A2 n2 (re (fmI k) b)
theorem Mk.go {wr w2 : World} {k n c n2 c2 : Nat} {b : Box} {A A2 : Option Addr} (h : Mk wr k b A n c A2 n2 c2) (hb : Below wr.heap.size wr w2) : Mk w2 k b A n c A2 n2 c2 :=
  ⟨h.le1, h.le2, (h.by_.below hb (Nat.le_refl _)).more hb.size, RowsAt.more (RowsAt.below h.rw_ hb (Nat.le_refl _)) hb.size⟩
theorem make_sb {k : Nat} (hk : k = 1 ∨ k = 2 ∨ k = 3) {w wr : World} {P wn wc mn mc : Nat} {WA MA : Option Addr} {b : Box} (ht : BxO.Tab wr) (h : Sb w wr P b WA wn wc MA mn mc) (h0 : mbE b = 0) :
    Calls Tryz.prog 31 #[.int .i64 (k : Nat), .agg #[.string b.id, .int .i64 b.valid, .int .i64 b.next, .int .i64 b.high, .slice WA wn wc, .slice MA mn mc]] wr fun e w' =>
      ∃ A n c A2 n2 c2, e = .returned (.tuple #[.slice A n c, .slice A2 n2 c2, .int .i64 0]) ∧ Mk w' k b A n c A2 n2 c2 ∧ Below wr.heap.size wr w' := by
  refine (make_any hk ht h.ws h.ms (Nat.le_refl _) h.hwc h.hmc h0).mono ?_
  rintro e w' ⟨A, n, c, A2, n2, c2, rfl, h1, h2, _, h3, h4, h5⟩
  exact ⟨A, n, c, A2, n2, c2, rfl, ⟨h1, h2, h3, h4⟩, h5⟩
end Go.Proofs.YtchlbbndfhibgaaGreatDoor.ImT
