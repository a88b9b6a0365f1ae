/-
  What Make told, kept through calls; Make and Whole of a box that lies in a block.
-/
import Derived.Test.YtfhdoecackdflaaGreatDoorK6
set_option linter.unusedVariables false
set_option linter.unusedSimpArgs false
namespace Go.Proofs.YtfhdoecackdflaaGreatDoor.ImT
open Go.RowKit Go.Proofs.YtfhdoecackdflaaGreatDoor.BxD Go.Proofs.YtfhdoecackdflaaGreatDoor.BxKit Go.Proofs.YtfhdoecackdflaaGreatDoor.OlD Go.Proofs.YtfhdoecackdflaaGreatDoor.RwD Go.Proofs.YtfhdoecackdflaaGreatDoor.RwKit Go.Proofs.YtfhdoecackdflaaGreatDoor.ImD Go.Proofs.YtfhdoecackdflaaGreatDoor.ImP Go.Proofs.YtfhdoecackdflaaGreatDoor.ImN Go.Proofs.YtfhdoecackdflaaGreatDoor.ImL
open Go.Proofs.YtfhdoecackdflaaGreatDoor.PkKit (BytesAt)

/-- What Make tells of b in the form k, in memory. -/
structure Mk (wr : World) (k : Nat) (b : Box) (A : Option Addr) (n c : Nat) (A2 : Option Addr) (n2 c2 : Nat) : Prop where
  le1 : n ≤ c
  le2 : n2 ≤ c2
  by_ : BytesAt wr wr.heap.size A n (rawI k b)
  rw_ : RowsAt wr wr.heap.size A2 n2 (re (fmI k) b)
theorem Mk.go {wr w2 : World} {k n c n2 c2 : Nat} {b : Box} {A A2 : Option Addr} (h : Mk wr k b A n c A2 n2 c2) (hb : Below wr.heap.size wr w2) : Mk w2 k b A n c A2 n2 c2 :=
  ⟨h.le1, h.le2, (h.by_.below hb (Nat.le_refl _)).more hb.size, RowsAt.more (RowsAt.below h.rw_ hb (Nat.le_refl _)) hb.size⟩
theorem make_sb {k : Nat} (hk : k = 1 ∨ k = 2 ∨ k = 3) {w wr : World} {P wn wc mn mc : Nat} {WA MA : Option Addr} {b : Box} (ht : BxO.Tab wr) (h : Sb w wr P b WA wn wc MA mn mc) (h0 : mbE b = 0) :
    Calls Tryz.prog 10 #[.int .i64 (k : Nat), .agg #[.string b.id, .int .i64 b.valid, .int .i64 b.next, .int .i64 b.high, .slice WA wn wc, .slice MA mn mc]] wr fun e w' =>
      ∃ A n c A2 n2 c2, e = .returned (.tuple #[.slice A n c, .slice A2 n2 c2, .int .i64 0]) ∧ Mk w' k b A n c A2 n2 c2 ∧ Below wr.heap.size wr w' := by
  refine (make_any hk ht h.ws h.ms (Nat.le_refl _) h.hwc h.hmc h0).mono ?_
  rintro e w' ⟨A, n, c, A2, n2, c2, rfl, h1, h2, _, h3, h4, h5⟩
  exact ⟨A, n, c, A2, n2, c2, rfl, ⟨h1, h2, h3, h4⟩, h5⟩
theorem whole_mk {k : Nat} (hk : k = 1 ∨ k = 2 ∨ k = 3) {wr : World} {n c n2 c2 : Nat} {A A2 : Option Addr} {b : Box} (ht : BxO.Tab wr) (h0 : mbE b = 0) (h : Mk wr k b A n c A2 n2 c2) :
    Calls Tryz.prog 11 #[.slice A n c, .string b.id, .slice A2 n2 c2] wr (BoxOut b 0 wr) := by
  have kw := whole_made hk ht h0 h.by_ (Nat.le_refl _) h.le1 h.rw_ h.le2 (fun r hr => by have := re_keys h0 r hr; omega)
  rw [whole_re (fmI_is k) h0] at kw
  exact kw
end Go.Proofs.YtfhdoecackdflaaGreatDoor.ImT
