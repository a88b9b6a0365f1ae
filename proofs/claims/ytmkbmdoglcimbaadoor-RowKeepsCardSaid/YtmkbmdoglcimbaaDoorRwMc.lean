/-
  A message of a row stored over; the box, the row and the rows of the call's own.
-/
import Derived.Test.YtmkbmdoglcimbaaDoorRwMb
import Derived.Test.YtmkbmdoglcimbaaDoorRwDel
import Derived.Test.YtmkbmdoglcimbaaDoorBxM
namespace Go.Proofs.YtmkbmdoglcimbaaDoor.RwMc
open Go.RowKit Go.Proofs.YtmkbmdoglcimbaaDoor.BxD Go.Proofs.YtmkbmdoglcimbaaDoor.BxKit Go.Proofs.YtmkbmdoglcimbaaDoor.BxA Go.Proofs.YtmkbmdoglcimbaaDoor.BxR Go.Proofs.YtmkbmdoglcimbaaDoor.BxC Go.Proofs.YtmkbmdoglcimbaaDoor.RwD Go.Proofs.YtmkbmdoglcimbaaDoor.RwKit Go.Proofs.YtmkbmdoglcimbaaDoor.RwOwn Go.Proofs.YtmkbmdoglcimbaaDoor.RwDel Go.Proofs.YtmkbmdoglcimbaaDoor.RwW1 Go.Proofs.YtmkbmdoglcimbaaDoor.RwMb

theorem mc_set7 : ∀ (l : List Raw) (i : Nat) (r : Raw), i < l.length →
    (((((((mc l).set (i * 7) (.int .i64 r.m.uid)).set (i * 7 + 1) (.int .i64 r.m.mod)).set (i * 7 + 2) (.int .i64 r.m.date)).set (i * 7 + 3) (.string r.m.id)).set (i * 7 + 4) (.int .i64 r.m.flags)).set (i * 7 + 5) (.slice r.K r.m.keys.length r.c)).set (i * 7 + 6) (.string r.m.text) = mc (l.set i r)
  | r0 :: l, 0, r, _ => by
    unfold mc
    rw [List.flatMap_cons, List.set_cons_zero, List.flatMap_cons]
    simp [cell7]
  | r0 :: l, i + 1, r, h => by
    have := mc_set7 l i r (by simpa using h)
    unfold mc at this ⊢
    rw [List.set_cons_succ, List.flatMap_cons, List.flatMap_cons, ← this]
    have e : ∀ (ys : List Value) (f : Nat) (u : Value), (cell7 r0 ++ ys).set ((i + 1) * 7 + f) u = cell7 r0 ++ ys.set (i * 7 + f) u := fun ys f u => by
      rw [List.set_append_right _ _ (by simp [cell7]; omega)]
      congr 2
      simp [cell7]; omega
    have e0 : ∀ (ys : List Value) (u : Value), (cell7 r0 ++ ys).set ((i + 1) * 7) u = cell7 r0 ++ ys.set (i * 7) u := fun ys u => by
      have := e ys 0 u
      simpa using this
    rw [e0, e, e, e, e, e, e]
theorem mc_at {w : World} {base n g : Nat} {v : Value} {rs : List Raw} {k : Nat} {r : Raw} (h : w.ownsRow base 28 7 v n (mc rs)) (hv : v.ownBlock = some g) (hr : rs[k]? = some r) :
    w.cell? { block := g, off := k * 7 } = some (.int .i64 r.m.uid) ∧ w.cell? { block := g, off := k * 7 + 1 } = some (.int .i64 r.m.mod) ∧ w.cell? { block := g, off := k * 7 + 2 } = some (.int .i64 r.m.date) ∧ w.cell? { block := g, off := k * 7 + 3 } = some (.string r.m.id) ∧
      w.cell? { block := g, off := k * 7 + 4 } = some (.int .i64 r.m.flags) ∧ w.cell? { block := g, off := k * 7 + 5 } = some (.slice r.K r.m.keys.length r.c) ∧ w.cell? { block := g, off := k * 7 + 6 } = some (.string r.m.text) := by
  have c : ∀ f, f < 7 → ∀ u, (cell7 r)[f]? = some u → w.cell? ⟨g, k * 7 + f, none⟩ = some u := fun f hf u hu => own_cell h hv ((mc_get rs k f r hr hf).trans hu)
  exact ⟨c 0 (by decide) _ rfl, c 1 (by decide) _ rfl, c 2 (by decide) _ rfl, c 3 (by decide) _ rfl, c 4 (by decide) _ rfl, c 5 (by decide) _ rfl, c 6 (by decide) _ rfl⟩
/-- The seven cells of a message stored over one of a row's. -/
def put7 (w : World) (g o : Nat) (r : Raw) : World :=
  ((((((w.setCell { block := g, off := o } (.int .i64 r.m.uid)).setCell { block := g, off := o + 1 } (.int .i64 r.m.mod)).setCell { block := g, off := o + 2 } (.int .i64 r.m.date)).setCell { block := g, off := o + 3 } (.string r.m.id)).setCell { block := g, off := o + 4 } (.int .i64 r.m.flags)).setCell { block := g, off := o + 5 } (.slice r.K r.m.keys.length r.c)).setCell { block := g, off := o + 6 } (.string r.m.text)
theorem put7_own {w : World} {base n g : Nat} {v : Value} {rs : List Raw} {k : Nat} {r : Raw} (h : w.ownsRow base 28 7 v n (mc rs)) (hv : v.ownBlock = some g) (hk : k < rs.length) : (put7 w g (k * 7) r).ownsRow base 28 7 v n (mc (rs.set k r)) := by
  rw [← mc_set7 rs k r hk]
  unfold put7
  exact own_set (own_set (own_set (own_set (own_set (own_set (own_set h hv _ _) hv _ _) hv _ _) hv _ _) hv _ _) hv _ _) hv _ _
theorem put7_grown (w : World) (g o : Nat) (r : Raw) : w.grownBy (put7 w g o r) (some g) := by
  unfold put7
  exact grown_trans (grown_trans (grown_trans (grown_trans (grown_trans (grown_trans (setCell_grown w _ _) (setCell_grown _ _ _)) (setCell_grown _ _ _)) (setCell_grown _ _ _)) (setCell_grown _ _ _)) (setCell_grown _ _ _)) (setCell_grown _ _ _)
/-- The box, the row, the room for the answer, as long as no row is turned. -/
structure XB (w wr : World) (base : Nat) (b : Box) (vw vm : Value) (rs : List Raw) (r : Row) (J : Option Addr) (jc : Nat) : Prop where
  low : Below w.heap.size w wr
  sb : SB w wr base w.heap.size (w.heap.size + 2) b vw vm rs
  lb : LB wr (w.heap.size + 1) r J jc
section
variable {w wr w2 : World} {base : Nat} {b : Box} {vw vm : Value} {rs : List Raw} {r : Row} {J : Option Addr} {jc : Nat}
theorem XB.size (h : XB w wr base b vw vm rs r J jc) : w.heap.size + 3 ≤ wr.heap.size := h.sb.ltR
theorem XB.go (h : XB w wr base b vw vm rs r J jc) (hb : Below wr.heap.size wr w2) : XB w w2 base b vw vm rs r J jc := ⟨h.low.trans (hb.mono (by have := h.size; omega)), h.sb.go hb, h.lb.go hb⟩
theorem XB.drew (h : XB w wr base b vw vm rs r J jc) : XB w wr.drew base b vw vm rs r J jc := h.go (Below.drew (Below.refl _ _))
theorem XB.alloc (h : XB w wr base b vw vm rs r J jc) (o : Obj) : XB w (wr.alloc o) base b vw vm rs r J jc := h.go ((Below.refl _ _).alloc (Nat.le_refl _) o)
theorem XB.start (h : OB w base b vw vm rs) (hb : base ≤ w.heap.size) (r : Row) (J : Option Addr) (jc : Nat) :
    XB w (((w.alloc (.cells #[.string b.id, .int .i64 b.valid, .int .i64 b.next, .int .i64 b.high, vw, vm] 25)).alloc (.cells #[.int .i64 r.kind, .int .i64 r.uid, .int .i64 r.mod, .int .i64 r.msg.uid, .int .i64 r.msg.mod, .int .i64 r.msg.date, .string r.msg.id, .int .i64 r.msg.flags, .slice J r.msg.keys.length jc, .string r.msg.text, .string r.text] 50)).alloc (.cells #[.string ⟨#[]⟩, .int .i64 0, .int .i64 0, .int .i64 0, .slice none 0 0, .slice none 0 0] 25)) base b vw vm rs r J jc := by
  obtain ⟨p0, p1, _⟩ := SB.start3 h hb (.cells #[.int .i64 r.kind, .int .i64 r.uid, .int .i64 r.mod, .int .i64 r.msg.uid, .int .i64 r.msg.mod, .int .i64 r.msg.date, .string r.msg.id, .int .i64 r.msg.flags, .slice J r.msg.keys.length jc, .string r.msg.text, .string r.text] 50)
  exact ⟨(((Below.refl _ _).alloc (Nat.le_refl _) _).alloc (by simp) _).alloc (by simp; omega) _, p0, p1⟩
/-- All that a region reads of them. -/
def XS (w : World) (b : Box) (vm : Value) (g k : Nat) (q : Raw) (r : Row) (J : Option Addr) (jc : Nat) (wr : World) : Prop :=
  wr.cell? { block := w.heap.size, off := 5 } = some vm ∧ wr.cell? { block := g, off := k * 7 } = some (.int .i64 q.m.uid) ∧ wr.cell? { block := g, off := k * 7 + 1 } = some (.int .i64 q.m.mod) ∧ wr.cell? { block := g, off := k * 7 + 2 } = some (.int .i64 q.m.date) ∧ wr.cell? { block := g, off := k * 7 + 3 } = some (.string q.m.id) ∧
      wr.cell? { block := g, off := k * 7 + 4 } = some (.int .i64 q.m.flags) ∧ wr.cell? { block := g, off := k * 7 + 5 } = some (.slice q.K q.m.keys.length q.c) ∧ wr.cell? { block := g, off := k * 7 + 6 } = some (.string q.m.text) ∧
  wr.cell? { block := w.heap.size + 1, off := 0 } = some (.int .i64 r.kind) ∧ wr.cell? { block := w.heap.size + 1, off := 1 } = some (.int .i64 r.uid) ∧ wr.cell? { block := w.heap.size + 1, off := 2 } = some (.int .i64 r.mod) ∧ wr.cell? { block := w.heap.size + 1, off := 3 } = some (.int .i64 r.msg.uid) ∧ wr.cell? { block := w.heap.size + 1, off := 4 } = some (.int .i64 r.msg.mod) ∧
    wr.cell? { block := w.heap.size + 1, off := 5 } = some (.int .i64 r.msg.date) ∧ wr.cell? { block := w.heap.size + 1, off := 6 } = some (.string r.msg.id) ∧ wr.cell? { block := w.heap.size + 1, off := 7 } = some (.int .i64 r.msg.flags) ∧ wr.cell? { block := w.heap.size + 1, off := 8 } = some (.slice J r.msg.keys.length jc) ∧ wr.cell? { block := w.heap.size + 1, off := 9 } = some (.string r.msg.text) ∧ wr.cell? { block := w.heap.size + 1, off := 10 } = some (.string r.text)
theorem XB.xs (h : XB w wr base b vw vm rs r J jc) {g k : Nat} {q : Raw} (hv : vm.ownBlock = some g) (hr : rs[k]? = some q) : XS w b vm g k q r J jc wr := by
  obtain ⟨a0, a1, a2, a3, a4, a5, a6⟩ := mc_at h.sb.own.om hv hr
  exact ⟨h.sb.facts.2.2.2.2.2, a0, a1, a2, a3, a4, a5, a6, h.lb.facts⟩
/-- A message's own block filled. -/
def fill7 (w : World) (Q : Nat) (r : Raw) : World :=
  ((((((w.setCell { block := Q, off := 0 } (.int .i64 r.m.uid)).setCell { block := Q, off := 1 } (.int .i64 r.m.mod)).setCell { block := Q, off := 2 } (.int .i64 r.m.date)).setCell { block := Q, off := 3 } (.string r.m.id)).setCell { block := Q, off := 4 } (.int .i64 r.m.flags)).setCell { block := Q, off := 5 } (.slice r.K r.m.keys.length r.c)).setCell { block := Q, off := 6 } (.string r.m.text)
theorem fill7_other {w : World} {Q k : Nat} (h : k ≠ Q) (r : Raw) : (fill7 w Q r).heap[k]? = w.heap[k]? := by
  unfold fill7
  iterate 7 rw [Below.heap_setCell _ _ _ _ (by show k ≠ Q; exact h)]
theorem fill7_mb {w : World} {Q c0 : Nat} {m0 : Msg} {K0 : Option Addr} (h : MB w Q m0 K0 c0) (r : Raw) : MB (fill7 w Q r) Q r.m r.K r.c := by
  unfold MB at *
  unfold fill7
  simp [World.setCell, Array.getElem?_modify, h]
theorem XB.fill (h : XB w wr base b vw vm rs r J jc) {Q c0 : Nat} {m0 : Msg} {K0 : Option Addr} (hq : MB wr Q m0 K0 c0) (hQ : w.heap.size + 3 ≤ Q) (hg : vm.ownBlock ≠ some Q) (q : Raw) : XB w (fill7 wr Q q) base b vw vm rs r J jc := by
  have hB : w.heap.size ≤ Q := by omega
  have low : Below w.heap.size w (fill7 wr Q q) := by
    unfold fill7
    exact ((((((h.low.setCell hB _).setCell hB _).setCell hB _).setCell hB _).setCell hB _).setCell hB _).setCell hB _
  have hbQ : base ≤ Q := Nat.le_trans h.sb.hb hB
  have bel : Below base w (fill7 wr Q q) := by
    unfold fill7
    exact ((((((h.sb.bel.setCell hbQ _).setCell hbQ _).setCell hbQ _).setCell hbQ _).setCell hbQ _).setCell hbQ _).setCell hbQ _
  have ob := h.sb.own
  refine ⟨low, ⟨bel, h.sb.hb, h.sb.hP, h.sb.hR, h.sb.ne, (fill7_other (by omega) _).trans h.sb.blk, (fill7_other (by omega) _).trans h.sb.res, ?_, fun k cs t fr hk h1 h2 => (fill7_other (by have := (Array.getElem?_eq_some_iff.1 hk).1; omega) _).trans (h.sb.ty k cs t fr hk h1 h2)⟩, (fill7_other (by omega) _).trans h.lb⟩
  exact ⟨own_block ob.ow fun g e => fill7_other (fun e2 => own_ne_blk ob.ow hq (by decide) (by rw [← e2]; exact e)) _, own_block ob.om fun g e => fill7_other (fun e2 => hg (by rw [← e2]; exact e)) _, ob.rm,
    fun r hr => own_block (ob.ko r hr) fun g e => fill7_other (fun e2 => own_ne_blk (ob.ko r hr) hq (by decide) (by rw [← e2]; exact e)) _⟩
end
end Go.Proofs.YtmkbmdoglcimbaaDoor.RwMc
