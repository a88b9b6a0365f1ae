/-
  A message, and a row, each in a block of its own beside a box of the call's own.
-/
import Derived.Test.YtmkbmdoglcimbaaDoorRwW1
namespace Go.Proofs.YtmkbmdoglcimbaaDoor.RwMb
open Go.RowKit Go.Proofs.YtmkbmdoglcimbaaDoor.BxD Go.Proofs.YtmkbmdoglcimbaaDoor.BxKit Go.Proofs.YtmkbmdoglcimbaaDoor.BxA Go.Proofs.YtmkbmdoglcimbaaDoor.BxR Go.Proofs.YtmkbmdoglcimbaaDoor.BxC Go.Proofs.YtmkbmdoglcimbaaDoor.RwD Go.Proofs.YtmkbmdoglcimbaaDoor.RwKit Go.Proofs.YtmkbmdoglcimbaaDoor.RwOwn Go.Proofs.YtmkbmdoglcimbaaDoor.RwW1

/-- A message in its block. -/
def MB (w : World) (Q : Nat) (m : Msg) (K : Option Addr) (c : Nat) : Prop :=
  w.heap[Q]? = some (.cells #[.int .i64 m.uid, .int .i64 m.mod, .int .i64 m.date, .string m.id, .int .i64 m.flags, .slice K m.keys.length c, .string m.text] 28 (0, 0))
/-- A row in its block. -/
def LB (w : World) (Q : Nat) (r : Row) (K : Option Addr) (c : Nat) : Prop :=
  w.heap[Q]? = some (.cells #[.int .i64 r.kind, .int .i64 r.uid, .int .i64 r.mod, .int .i64 r.msg.uid, .int .i64 r.msg.mod, .int .i64 r.msg.date, .string r.msg.id, .int .i64 r.msg.flags, .slice K r.msg.keys.length c, .string r.msg.text, .string r.text] 50 (0, 0))
section
variable {w w2 : World} {Q c : Nat} {m : Msg} {r : Row} {K : Option Addr}
theorem MB.lt (h : MB w Q m K c) : Q < w.heap.size := (Array.getElem?_eq_some_iff.1 h).1
theorem LB.lt (h : LB w Q r K c) : Q < w.heap.size := (Array.getElem?_eq_some_iff.1 h).1
theorem MB.go (h : MB w Q m K c) (hb : Below w.heap.size w w2) : MB w2 Q m K c := (hb.block Q h.lt).trans h
theorem LB.go (h : LB w Q r K c) (hb : Below w.heap.size w w2) : LB w2 Q r K c := (hb.block Q h.lt).trans h
theorem MB.alloc (h : MB w Q m K c) (o : Obj) : MB (w.alloc o) Q m K c := h.go ((Below.refl _ _).alloc (Nat.le_refl _) o)
theorem MB.drew (h : MB w Q m K c) : MB w.drew Q m K c := h
theorem LB.alloc (h : LB w Q r K c) (o : Obj) : LB (w.alloc o) Q r K c := h.go ((Below.refl _ _).alloc (Nat.le_refl _) o)
theorem MB.facts (h : MB w Q m K c) : w.cell? { block := Q, off := 0 } = some (.int .i64 m.uid) ∧ w.cell? { block := Q, off := 1 } = some (.int .i64 m.mod) ∧ w.cell? { block := Q, off := 2 } = some (.int .i64 m.date) ∧ w.cell? { block := Q, off := 3 } = some (.string m.id) ∧ w.cell? { block := Q, off := 4 } = some (.int .i64 m.flags) ∧
    w.cell? { block := Q, off := 5 } = some (.slice K m.keys.length c) ∧ w.cell? { block := Q, off := 6 } = some (.string m.text) := by
  have c := fun o => cell_of_row w Q o _ _ _ h
  exact ⟨(c 0).trans rfl, (c 1).trans rfl, (c 2).trans rfl, (c 3).trans rfl, (c 4).trans rfl, (c 5).trans rfl, (c 6).trans rfl⟩
theorem MB.free (h : MB w Q m K c) (i : Nat) : w.frozen? { block := Q, off := i } = false := by unfold MB at h; simp [World.frozen?, h]
theorem LB.facts (h : LB w Q r K c) : w.cell? { block := Q, off := 0 } = some (.int .i64 r.kind) ∧ w.cell? { block := Q, off := 1 } = some (.int .i64 r.uid) ∧ w.cell? { block := Q, off := 2 } = some (.int .i64 r.mod) ∧ w.cell? { block := Q, off := 3 } = some (.int .i64 r.msg.uid) ∧ w.cell? { block := Q, off := 4 } = some (.int .i64 r.msg.mod) ∧
    w.cell? { block := Q, off := 5 } = some (.int .i64 r.msg.date) ∧ w.cell? { block := Q, off := 6 } = some (.string r.msg.id) ∧ w.cell? { block := Q, off := 7 } = some (.int .i64 r.msg.flags) ∧ w.cell? { block := Q, off := 8 } = some (.slice K r.msg.keys.length c) ∧ w.cell? { block := Q, off := 9 } = some (.string r.msg.text) ∧ w.cell? { block := Q, off := 10 } = some (.string r.text) := by
  have c := fun o => cell_of_row w Q o _ _ _ h
  exact ⟨(c 0).trans rfl, (c 1).trans rfl, (c 2).trans rfl, (c 3).trans rfl, (c 4).trans rfl, (c 5).trans rfl, (c 6).trans rfl, (c 7).trans rfl, (c 8).trans rfl, (c 9).trans rfl, (c 10).trans rfl⟩
theorem MB.set5 (h : MB w Q m K c) (K' : Option Addr) (c' : Nat) : MB (w.setCell ⟨Q, 5, none⟩ (.slice K' m.keys.length c')) Q m K' c' := by
  unfold MB at *
  simp [World.setCell, Array.getElem?_modify, h]
theorem MB.oth (h : MB w Q m K c) {P i : Nat} (hne : Q ≠ P) (u : Value) : MB (w.setCell ⟨P, i, none⟩ u) Q m K c := (Below.heap_setCell _ _ _ _ (by show Q ≠ P; exact hne)).trans h
theorem MB.grown (h : MB w Q m K c) {row : Option Nat} (hg : w.grownBy w2 row) (hne : some Q ≠ row) : MB w2 Q m K c := (hg.block Q h.lt hne).trans h
theorem LB.grown (h : LB w Q r K c) {row : Option Nat} (hg : w.grownBy w2 row) (hne : some Q ≠ row) : LB w2 Q r K c := (hg.block Q h.lt hne).trans h
theorem LB.oth (h : LB w Q r K c) {P i : Nat} (hne : Q ≠ P) (u : Value) : LB (w.setCell ⟨P, i, none⟩ u) Q r K c := (Below.heap_setCell _ _ _ _ (by show Q ≠ P; exact hne)).trans h
end
section
variable {w wr w2 : World} {base P R : Nat} {b : Box} {vw vm : Value} {rs : List Raw}
theorem SB.start3 (h : OB w base b vw vm rs) (hb : base ≤ w.heap.size) (o : Obj) :
    SB w (((w.alloc (.cells #[.string b.id, .int .i64 b.valid, .int .i64 b.next, .int .i64 b.high, vw, vm] 25)).alloc o).alloc (.cells #[.string ⟨#[]⟩, .int .i64 0, .int .i64 0, .int .i64 0, .slice none 0 0, .slice none 0 0] 25)) base w.heap.size (w.heap.size + 2) b vw vm rs ∧
    (((w.alloc (.cells #[.string b.id, .int .i64 b.valid, .int .i64 b.next, .int .i64 b.high, vw, vm] 25)).alloc o).alloc (.cells #[.string ⟨#[]⟩, .int .i64 0, .int .i64 0, .int .i64 0, .slice none 0 0, .slice none 0 0] 25)).heap[w.heap.size + 1]? = some o ∧ vm.ownBlock ≠ some (w.heap.size + 1) := by
  generalize hb1 : Obj.cells #[.string b.id, .int .i64 b.valid, .int .i64 b.next, .int .i64 b.high, vw, vm] 25 = b1
  generalize hz : Obj.cells #[.string ⟨#[]⟩, .int .i64 0, .int .i64 0, .int .i64 0, .slice none 0 0, .slice none 0 0] 25 = z
  have hB : Below w.heap.size w (((w.alloc b1).alloc o).alloc z) := (((Below.refl _ _).alloc (Nat.le_refl _) _).alloc (by simp) _).alloc (by simp; omega) _
  have e0 : (((w.alloc b1).alloc o).alloc z).heap[w.heap.size]? = some b1 := (heap_alloc_old _ _ (by simp; omega)).trans ((heap_alloc_old _ _ (by simp)).trans (heap_alloc_new w _))
  have e1 : (((w.alloc b1).alloc o).alloc z).heap[w.heap.size + 1]? = some o := by
    have := heap_alloc_new (w.alloc b1) o
    rw [show (w.alloc b1).heap.size = w.heap.size + 1 by simp] at this
    exact (heap_alloc_old _ _ (by simp)).trans this
  have e2 : (((w.alloc b1).alloc o).alloc z).heap[w.heap.size + 2]? = some z := by
    have := heap_alloc_new ((w.alloc b1).alloc o) z
    rwa [show ((w.alloc b1).alloc o).heap.size = w.heap.size + 2 by simp] at this
  refine ⟨⟨hB.mono hb, hb, Nat.le_refl _, by omega, by omega, e0.trans (by rw [← hb1]), e2.trans (by rw [← hz]), h.go hB, fun k cs t fr hk _ _ => hB.block k (Array.getElem?_eq_some_iff.1 hk).1⟩, e1, fun e => by have := (h.om.lt _ e).2; omega⟩
/-- A store into a message's own block. -/
theorem SB.setM (h : SB w wr base P R b vw vm rs) {Q i : Nat} {cs : Array Value} (hq : wr.heap[Q]? = some (.cells cs 28 (0, 0))) (h1 : vm.ownBlock ≠ some Q) (hb : base ≤ Q) (u : Value) : SB w (wr.setCell ⟨Q, i, none⟩ u) base P R b vw vm rs := by
  have hP : P ≠ Q := fun e => by subst e; have := h.blk; rw [hq] at this; injection this with this; injection this with _ h2; exact absurd h2 (by decide)
  have hR : R ≠ Q := fun e => by subst e; have := h.res; rw [hq] at this; injection this with this; injection this with _ h2; exact absurd h2 (by decide)
  exact ⟨h.bel.setCell hb _, h.hb, h.hP, h.hR, h.ne, (Below.heap_setCell _ _ _ _ (by show P ≠ Q; exact hP)).trans h.blk, (Below.heap_setCell _ _ _ _ (by show R ≠ Q; exact hR)).trans h.res,
    ⟨own_other h.own.ow (own_ne_blk h.own.ow hq (by decide)) _ _, own_other h.own.om h1 _ _, h.own.rm, fun r hr => own_other (h.own.ko r hr) (own_ne_blk (h.own.ko r hr) hq (by decide)) _ _⟩, fun k cs' t fr hk k1 k2 => (Below.heap_setCell _ _ _ _ (by
      show k ≠ Q
      intro e
      subst e
      have := (h.ty k cs' t fr hk k1 k2).trans hk
      rw [hq] at this
      injection this with this
      injection this with _ h2
      exact k2 h2.symm)).trans (h.ty k cs' t fr hk k1 k2)⟩
end
end Go.Proofs.YtmkbmdoglcimbaaDoor.RwMb
