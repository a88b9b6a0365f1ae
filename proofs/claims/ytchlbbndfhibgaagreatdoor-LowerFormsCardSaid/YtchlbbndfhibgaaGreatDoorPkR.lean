/-
  The document's own answers, with the frame that they keep; the operations of a region that draws its order, one by one, over a frame that is not written out.
-/
import Derived.Test.YtchlbbndfhibgaaGreatDoorJ1
set_option linter.unusedVariables false
set_option linter.unusedSimpArgs false
namespace Go.Proofs.YtchlbbndfhibgaaGreatDoor.PkR
open Go.RowKit Go.Proofs.YtchlbbndfhibgaaGreatDoor.PkKit Go.Proofs.YtchlbbndfhibgaaGreatDoor.PkA Go.Proofs.YtchlbbndfhibgaaGreatDoor.PkB Go.Proofs.YtchlbbndfhibgaaGreatDoor.PkC

/-- A row of the call's own that began as v0 at w0: nothing has turned but v0's own block, and what is new. -/
structure OG (w0 : World) (v0 : Value) (wr : World) (n : Nat) (v : Value) (l : List UInt8) : Prop where
  own : wr.ownsRow 0 5 1 v n (by_ l)
  fr : w0.grownBy wr v0.ownBlock
  at_ : ∀ k, v.ownBlock = some k → v0.ownBlock = some k ∨ w0.heap.size ≤ k
set_option maxRecDepth 100000 in
theorem OG.start {w : World} {base n : Nat} {v : Value} {l : List UInt8} (h : w.ownsRow base 5 1 v n (by_ l)) : OG w v w n v l := by
  refine ⟨⟨h.1, ?_⟩, World.grownBy.refl _ _, fun k hk => .inl hk⟩
  rcases h.2 with hn | ⟨g, cap, cur, hv, hbg, r⟩
  · exact .inl hn
  · exact .inr ⟨g, cap, cur, hv, Nat.zero_le _, r⟩
set_option maxRecDepth 100000 in
theorem OG.len {w0 wr : World} {v0 v : Value} {n : Nat} {l : List UInt8} (h : OG w0 v0 wr n v l) : l.length = n := by
  have := h.own.1
  rw [by_length] at this
  omega
set_option maxRecDepth 100000 in
theorem OG.alloc {w0 wr : World} {v0 v : Value} {n : Nat} {l : List UInt8} (h : OG w0 v0 wr n v l) (o : Obj) : OG w0 v0 (wr.alloc o) n v l :=
  ⟨h.own.alloc o, ⟨h.fr.os, h.fr.tape, h.fr.output, by simp; have := h.fr.size; omega, fun k hk hr => (Below.heap_alloc wr o k (Nat.lt_of_lt_of_le hk h.fr.size)).trans (h.fr.block k hk hr)⟩, h.at_⟩
set_option maxRecDepth 100000 in
theorem OG.app {w0 wr w2 : World} {v0 v v' : Value} {n m : Nat} {l l' : List UInt8} (h : OG w0 v0 wr n v l) (hown : w2.ownsRow 0 5 1 v' m (by_ l')) (hg : wr.grownBy w2 v.ownBlock) (hat : v'.ownBlock = v.ownBlock ∨ v'.ownBlock = some wr.heap.size) : OG w0 v0 w2 m v' l' := by
  refine ⟨hown, ⟨hg.os.trans h.fr.os, hg.tape.trans h.fr.tape, hg.output.trans h.fr.output, Nat.le_trans h.fr.size hg.size, fun k hk hr => ?_⟩, fun k hk => ?_⟩
  · refine (hg.block k (Nat.lt_of_lt_of_le hk h.fr.size) (fun e => ?_)).trans (h.fr.block k hk hr)
    rcases h.at_ k e.symm with h1 | h1
    · exact hr h1.symm
    · omega
  · rcases hat with h1 | h1
    · exact h.at_ k (h1.symm.trans hk)
    · rw [h1] at hk
      injection hk with hk
      exact .inr (by rw [← hk]; exact h.fr.size)
set_option maxRecDepth 100000 in
theorem OG.last {w0 wr w2 : World} {v0 v : Value} {n : Nat} {l : List UInt8} (h : OG w0 v0 wr n v l) (hg : wr.grownBy w2 v.ownBlock) : w0.grownBy w2 v0.ownBlock :=
  ⟨hg.os.trans h.fr.os, hg.tape.trans h.fr.tape, hg.output.trans h.fr.output, Nat.le_trans h.fr.size hg.size, fun k hk hr => by
    refine (hg.block k (Nat.lt_of_lt_of_le hk h.fr.size) (fun e => ?_)).trans (h.fr.block k hk hr)
    rcases h.at_ k e.symm with h1 | h1
    · exact hr h1.symm
    · omega⟩
/-- What comes back: a row with these bytes; nothing has turned but the old row's own block. -/
def Puts (w : World) (v : Value) (l : List UInt8) (e : Ending) (w' : World) : Prop := ∃ v', e = .returned v' ∧ w'.ownsRow 0 5 1 v' l.length (by_ l) ∧ w.grownBy w' v.ownBlock
set_option maxRecDepth 100000 in
theorem OG.puts {w w' : World} {v v' : Value} {n : Nat} {l : List UInt8} (h : OG w v w' n v' l) : Puts w v l (.returned v') w' := ⟨v', rfl, by rw [h.len]; exact h.own, h.fr⟩
end Go.Proofs.YtchlbbndfhibgaaGreatDoor.PkR
