/-
  While the document reads a box: its reader, the answer's block, the box's, the message's.
-/
import Derived.Test.YtfhdoecackdflaaDoorOlQb
import Derived.Test.YtfhdoecackdflaaDoorK3
import Derived.Test.YtfhdoecackdflaaDoorRrA
import Derived.Test.YtfhdoecackdflaaDoorOlY
import Derived.Test.YtfhdoecackdflaaDoorO1Pj
set_option linter.unusedVariables false
set_option linter.unusedSimpArgs false
namespace Go.Proofs.YtfhdoecackdflaaDoor.OlQs
open Go.Proofs.YtfhdoecackdflaaDoor.PtK
open Go.RowKit Go.Proofs.YtfhdoecackdflaaDoor.BxD Go.Proofs.YtfhdoecackdflaaDoor.BxKit Go.Proofs.YtfhdoecackdflaaDoor.BxR Go.Proofs.YtfhdoecackdflaaDoor.BxC Go.Proofs.YtfhdoecackdflaaDoor.OlD Go.Proofs.YtfhdoecackdflaaDoor.OlU
open Go.Proofs.YtfhdoecackdflaaDoor.RrA (RR RR.below RR.lt RR.of_rest RP)
open Go.Proofs.YtfhdoecackdflaaDoor.PkKit (BytesAt)
open Go.Proofs.YtfhdoecackdflaaDoor.PtK (MBk MBk.cells)
open Go.Proofs.YtfhdoecackdflaaDoor.PkF (ptr)

structure QS (w wr : World) (T X : Nat) (s : St) (id : ByteArray) (v n hg : Int) (WA : Option Addr) (wn wc : Nat) (MA : Option Addr) (mn mc' : Nat) (ws : List ByteArray) (rs : List Raw) : Prop where
  low : Below w.heap.size w wr
  rd : RR wr T s.1 s.2.1
  res : wr.heap[w.heap.size]? = some (.cells zbox 25 (0, 0))
  blk : wr.heap[X]? = some (.cells #[.string id, .int .i64 v, .int .i64 n, .int .i64 hg, .slice WA wn wc, .slice MA mn mc'] 25 (0, 0))
  hT : w.heap.size < T
  hX : T < X
  ow : wr.ownsRow (X + 1) 9 1 (.slice WA wn wc) wn (ws.map Value.string)
  om : wr.ownsRow (X + 1) 41 7 (.slice MA mn mc') mn (mc rs)
  ko : ∀ r ∈ rs, wr.ownsRow (X + 1) 3 1 (.slice r.K r.m.keys.length r.c) r.m.keys.length (r.m.keys.map (Value.int .i64))
section
variable {w wr w2 w3 : World} {T X : Nat} {s s' : St} {id : ByteArray} {v n hg : Int} {WA MA WA' MA' : Option Addr} {wn wc mn mc' wc2 mc2 : Nat} {ws : List ByteArray} {rs : List Raw}
theorem QS.size (h : QS w wr T X s id v n hg WA wn wc MA mn mc' ws rs) : X < wr.heap.size := (Array.getElem?_eq_some_iff.1 h.blk).1
theorem QS.keep (h : QS w wr T X s id v n hg WA wn wc MA mn mc' ws rs) (hgr : wr.grownBy w2 (some T)) (hr : RR w2 T s'.1 s'.2.1) : QS w w2 T X s' id v n hg WA wn wc MA mn mc' ws rs := by
  have h1 := h.size
  have h2 := h.hT
  have h3 := h.hX
  have hb : ∀ g, g ≠ T → g < wr.heap.size → w2.heap[g]? = wr.heap[g]? := fun g k1 k2 => hgr.block g k2 (fun e => k1 (Option.some.inj e))
  exact ⟨h.low.grown hgr h.low.size (fun k e => by have := Option.some.inj e; omega), hr, (hb _ (by omega) (by omega)).trans h.res, (hb _ (by omega) (by omega)).trans h.blk, h2, h3, own_block h.ow fun g e => hb g (by have := (h.ow.lt g e).1; omega) (h.ow.lt g e).2,
    own_block h.om fun g e => hb g (by have := (h.om.lt g e).1; omega) (h.om.lt g e).2, fun r hr => own_block (h.ko r hr) fun g e => hb g (by have := ((h.ko r hr).lt g e).1; omega) ((h.ko r hr).lt g e).2⟩
theorem QS.go (h : QS w wr T X s id v n hg WA wn wc MA mn mc' ws rs) (hb : Below wr.heap.size wr w2) : QS w w2 T X s id v n hg WA wn wc MA mn mc' ws rs := by
  have h1 := h.size
  have h2 := h.hT
  have h3 := h.hX
  exact ⟨h.low.trans (hb.mono h.low.size), h.rd.below hb (by omega), (hb.block _ (by omega)).trans h.res, (hb.block _ (by omega)).trans h.blk, h2, h3, own_block h.ow fun g e => hb.block g (h.ow.lt g e).2,
    own_block h.om fun g e => hb.block g (h.om.lt g e).2, fun r hr => own_block (h.ko r hr) fun g e => hb.block g ((h.ko r hr).lt g e).2⟩
theorem QS.cells (h : QS w wr T X s id v n hg WA wn wc MA mn mc' ws rs) : wr.cell? { block := X, off := 0 } = some (.string id) ∧ wr.cell? { block := X, off := 1 } = some (.int .i64 v) ∧ wr.cell? { block := X, off := 2 } = some (.int .i64 n) ∧
    wr.cell? { block := X, off := 3 } = some (.int .i64 hg) ∧ wr.cell? { block := X, off := 4 } = some (.slice WA wn wc) ∧ wr.cell? { block := X, off := 5 } = some (.slice MA mn mc') ∧ ∀ i, wr.frozen? { block := X, off := i } = false := by
  have c := fun o => cell_of_row wr X o _ _ _ h.blk
  exact ⟨(c 0).trans rfl, (c 1).trans rfl, (c 2).trans rfl, (c 3).trans rfl, (c 4).trans rfl, (c 5).trans rfl, fun i => by simp [World.frozen?, h.blk]⟩
/-- A number is stored in the box. -/
theorem QS.set (h : QS w wr T X s id v n hg WA wn wc MA mn mc' ws rs) (i : Nat) (x : Value) {v' n' hg' : Int}
    (hv : (#[.string id, .int .i64 v, .int .i64 n, .int .i64 hg, .slice WA wn wc, .slice MA mn mc'] : Array Value).setIfInBounds i x = #[.string id, .int .i64 v', .int .i64 n', .int .i64 hg', .slice WA wn wc, .slice MA mn mc']) :
    QS w (wr.setCell { block := X, off := i } x) T X s id v' n' hg' WA wn wc MA mn mc' ws rs := by
  have h2 := h.hT
  have h3 := h.hX
  refine ⟨h.low.setCell (p := ⟨X, i, none⟩) (by show w.heap.size ≤ X; omega) x, h.rd.below (B := T + 1) ((Below.refl _ _).setCell (by show T + 1 ≤ X; omega) _) (Nat.lt_succ_self _), (Below.heap_setCell _ _ _ _ (by show w.heap.size ≠ X; omega)).trans h.res, ?_, h2, h3, ownsRow_setCell_below h.ow (by show X < X + 1; omega) _, ownsRow_setCell_below h.om (by show X < X + 1; omega) _, fun r hr => ownsRow_setCell_below (h.ko r hr) (by show X < X + 1; omega) _⟩
  rw [← hv]
  simp [World.setCell, Array.getElem?_modify, h.blk]
/-- A store beside: in a message's block, behind the box's. -/
theorem QS.aside (h : QS w wr T X s id v n hg WA wn wc MA mn mc' ws rs) {L i : Nat} (hL : X < L) {cur : Array Value} (hb : wr.heap[L]? = some (.cells cur 41 (0, 0))) (hn : (Value.slice MA mn mc').ownBlock ≠ some L) (x : Value) :
    QS w (wr.setCell { block := L, off := i } x) T X s id v n hg WA wn wc MA mn mc' ws rs := by
  have h2 := h.hT
  have h3 := h.hX
  have hk : ∀ g, g ≠ L → (wr.setCell { block := L, off := i } x).heap[g]? = wr.heap[g]? := fun g hg => Below.heap_setCell _ _ _ _ (by show g ≠ L; exact hg)
  refine ⟨h.low.setCell (p := ⟨L, i, none⟩) (by show w.heap.size ≤ L; omega) x, h.rd.below (B := T + 1) ((Below.refl _ _).setCell (by show T + 1 ≤ L; omega) _) (Nat.lt_succ_self _), (hk _ (by omega)).trans h.res, (hk _ (by omega)).trans h.blk, h2, h3,
    own_block h.ow fun g e => hk g (fun e2 => ?_), own_block h.om fun g e => hk g (fun e2 => hn (by rw [e, e2])), fun r hr => own_block (h.ko r hr) fun g e => hk g (fun e2 => ?_)⟩
  · exact O1Pj.own_ne_blk h.ow hb (by decide) (by rw [e, e2])
  · exact O1Pj.own_ne_blk (h.ko r hr) hb (by decide) (by rw [e, e2])
/-- A word more: behind the append, and its store. -/
theorem QS.word (h : QS w wr T X s id v n hg WA wn wc MA mn mc' ws rs) {t : ByteArray} (ho : w3.ownsRow (X + 1) 9 1 (.slice WA' (wn + 1) wc2) (wn + 1) ((ws ++ [t]).map Value.string)) (hgr : wr.grownBy w3 (Value.slice WA wn wc).ownBlock) :
    QS w (w3.setCell { block := X, off := 4 } (.slice WA' (wn + 1) wc2)) T X s id v n hg WA' (wn + 1) wc2 MA mn mc' (ws ++ [t]) rs := by
  have h2 := h.hT
  have h3 := h.hX
  have h1 := h.size
  have hlo : ∀ g, g < X + 1 → w3.heap[g]? = wr.heap[g]? := fun g k => hgr.block g (by omega) (fun e => by have := (h.ow.lt g e.symm).1; omega)
  have hlow : Below w.heap.size w w3 := h.low.grown hgr h.low.size (fun k e => by have := (h.ow.lt k e).1; omega)
  refine ⟨hlow.setCell (p := ⟨X, 4, none⟩) (by show w.heap.size ≤ X; omega) _, (h.rd.below (B := X + 1) ⟨hgr.os, hgr.tape, hgr.output, hgr.size, hlo⟩ (by omega)).below (B := T + 1) ((Below.refl _ _).setCell (by show T + 1 ≤ X; omega) _) (Nat.lt_succ_self _), (Below.heap_setCell _ _ _ _ (by show w.heap.size ≠ X; omega)).trans ((hlo _ (by omega)).trans h.res), ?_, h2, h3, ownsRow_setCell_below ho (by show X < X + 1; omega) _, ownsRow_setCell_below (own_block h.om fun g e => hgr.block g (h.om.lt g e).2 fun e2 => own_ne h.om h.ow e2.symm (by decide) e) (by show X < X + 1; omega) _,
    fun r hr => ownsRow_setCell_below (own_block (h.ko r hr) fun g e => hgr.block g ((h.ko r hr).lt g e).2 fun e2 => own_ne (h.ko r hr) h.ow e2.symm (by decide) e) (by show X < X + 1; omega) _⟩
  have := (hlo X (by omega)).trans h.blk
  simp [World.setCell, Array.getElem?_modify, this]
/-- A row of ints of a message that is being made grows. -/
theorem QS.grow (h : QS w wr T X s id v n hg WA wn wc MA mn mc' ws rs) {L nk : Nat} {vk : Value} {xs : List Value} (hL : X < L) (ho : wr.ownsRow (L + 1) 3 1 vk nk xs) (hgr : wr.grownBy w3 vk.ownBlock) (hkl : ∀ r ∈ rs, ∀ g, (Value.slice r.K r.m.keys.length r.c).ownBlock = some g → g < L) :
    QS w w3 T X s id v n hg WA wn wc MA mn mc' ws rs := by
  have h2 := h.hT
  have h3 := h.hX
  have h1 := h.size
  have hlo : ∀ g, g < L + 1 → g < wr.heap.size → w3.heap[g]? = wr.heap[g]? := fun g k k2 => hgr.block g k2 (fun e => by have := (ho.lt g e.symm).1; omega)
  have hlow : Below w.heap.size w w3 := h.low.grown hgr h.low.size (fun k e => by have := (ho.lt k e).1; omega)
  refine ⟨hlow, h.rd.below (B := X + 1) ⟨hgr.os, hgr.tape, hgr.output, hgr.size, fun g hg => hlo g (by omega) (by omega)⟩ (by omega), (hlo _ (by omega) (by omega)).trans h.res, (hlo _ (by omega) h1).trans h.blk, h2, h3, own_block h.ow fun g e => hgr.block g (h.ow.lt g e).2 fun e2 => own_ne h.ow ho e2.symm (by decide) e, own_block h.om fun g e => hgr.block g (h.om.lt g e).2 fun e2 => own_ne h.om ho e2.symm (by decide) e,
    fun r hr => own_block (h.ko r hr) fun g e => hlo g (by have := hkl r hr g e; omega) ((h.ko r hr).lt g e).2⟩
/-- What is left is stored. -/
theorem QS.rest (h : QS w wr T X s id v n hg WA wn wc MA mn mc' ws rs) {A : Option Addr} {nn cp : Nat} {l : List UInt8} (hs : s' = (l, s.2)) (hz : BytesAt wr T A nn l) (hc : nn ≤ cp) (hb : nn ≤ 140737488355328) :
    QS w (wr.setCell { block := T, off := 0 } (.slice A nn cp)) T X s' id v n hg WA wn wc MA mn mc' ws rs := by
  subst hs
  exact h.keep (s' := (l, s.2)) (PkF.grown_set _) (RR.of_rest h.rd hz hc hb)
/-- A message more. -/
theorem QS.msg (h : QS w wr T X s id v n hg WA wn wc MA mn mc' ws rs) {r : Raw} (hk : wr.ownsRow (X + 1) 3 1 (.slice r.K r.m.keys.length r.c) r.m.keys.length (r.m.keys.map (Value.int .i64))) (ho : w3.ownsRow (X + 1) 41 7 (.slice MA' (mn + 1) mc2) (mn + 1) (mc (rs ++ [r]))) (hgr : wr.grownBy w3 (Value.slice MA mn mc').ownBlock) :
    QS w (w3.setCell { block := X, off := 5 } (.slice MA' (mn + 1) mc2)) T X s id v n hg WA wn wc MA' (mn + 1) mc2 ws (rs ++ [r]) := by
  have h2 := h.hT
  have h3 := h.hX
  have h1 := h.size
  have hlo : ∀ g, g < X + 1 → w3.heap[g]? = wr.heap[g]? := fun g k => hgr.block g (by omega) (fun e => by have := (h.om.lt g e.symm).1; omega)
  have hlow : Below w.heap.size w w3 := h.low.grown hgr h.low.size (fun k e => by have := (h.om.lt k e).1; omega)
  refine ⟨hlow.setCell (p := ⟨X, 5, none⟩) (by show w.heap.size ≤ X; omega) _, (h.rd.below (B := X + 1) ⟨hgr.os, hgr.tape, hgr.output, hgr.size, hlo⟩ (by omega)).below (B := T + 1) ((Below.refl _ _).setCell (by show T + 1 ≤ X; omega) _) (Nat.lt_succ_self _), (Below.heap_setCell _ _ _ _ (by show w.heap.size ≠ X; omega)).trans ((hlo _ (by omega)).trans h.res), ?_, h2, h3, ownsRow_setCell_below (own_block h.ow fun g e => hgr.block g (h.ow.lt g e).2 fun e2 => own_ne h.ow h.om e2.symm (by decide) e) (by show X < X + 1; omega) _, ownsRow_setCell_below ho (by show X < X + 1; omega) _, fun q hq => ?_⟩
  · have := (hlo X (by omega)).trans h.blk
    simp [World.setCell, Array.getElem?_modify, this]
  · have hq2 : wr.ownsRow (X + 1) 3 1 (.slice q.K q.m.keys.length q.c) q.m.keys.length (q.m.keys.map (Value.int .i64)) := by
      rcases List.mem_append.1 hq with hq | hq
      · exact h.ko q hq
      · obtain rfl := List.mem_singleton.1 hq
        exact hk
    exact ownsRow_setCell_below (own_block hq2 fun g e => hgr.block g (hq2.lt g e).2 fun e2 => own_ne hq2 h.om e2.symm (by decide) e) (by show X < X + 1; omega) _
theorem six_cell {wr : World} {P : Nat} {p : Addr} (hp : p.block ≠ P) (c0 c1 c2 c3 c4 c5 : Value) : ((((((wr.setCell { block := P, off := 0 } c0).setCell { block := P, off := 1 } c1).setCell { block := P, off := 2 } c2).setCell { block := P, off := 3 } c3).setCell { block := P, off := 4 } c4).setCell { block := P, off := 5 } c5).cell? p = wr.cell? p := by
  refine World.cell?_of_block ?_
  iterate 6 rw [Below.heap_setCell _ _ _ _ (by show p.block ≠ P; exact hp)]
theorem cell_drew (W : World) (p : Addr) : W.drew.cell? p = W.cell? p := rfl
theorem out_drew {b : Box} {er : Int} {w w' : World} {e : Ending} (h : PtK.ParseOut b er w e w') : PtK.ParseOut b er w e w'.drew := by
  obtain ⟨WA, wn, wc, MA, mn, mc', he, h1, h2, h3, h4, h5⟩ := h
  have hb := Below.drew (Below.refl w'.heap.size w')
  exact ⟨WA, wn, wc, MA, mn, mc', he, h1, h2, StrsAt.below h3 hb (Nat.le_refl _), MsgsAt.below h4 hb (Nat.le_refl _), Below.drew h5⟩
/-- Nothing is told but why. -/
theorem QS.tell (h : QS w wr T X s id v n hg WA wn wc MA mn mc' ws rs) (er : Int) : ∃ W, W = (((((wr.setCell { block := w.heap.size, off := 0 } (.string ⟨#[]⟩)).setCell { block := w.heap.size, off := 1 } (.int .i64 0)).setCell { block := w.heap.size, off := 2 } (.int .i64 0)).setCell { block := w.heap.size, off := 3 } (.int .i64 0)).setCell { block := w.heap.size, off := 4 } (.slice none 0 0)).setCell { block := w.heap.size, off := 5 } (.slice none 0 0) ∧
    W.cell? { block := w.heap.size, off := 0 } = some (.string ⟨#[]⟩) ∧ W.cell? { block := w.heap.size, off := 1 } = some (.int .i64 0) ∧ W.cell? { block := w.heap.size, off := 2 } = some (.int .i64 0) ∧ W.cell? { block := w.heap.size, off := 3 } = some (.int .i64 0) ∧ W.cell? { block := w.heap.size, off := 4 } = some (.slice none 0 0) ∧ W.cell? { block := w.heap.size, off := 5 } = some (.slice none 0 0) ∧
    PtK.ParseOut nB er w (.returned (.tuple #[.agg #[.string ⟨#[]⟩, .int .i64 0, .int .i64 0, .int .i64 0, .slice none 0 0, .slice none 0 0], .int .i64 er])) W := by
  obtain ⟨W, hW, a0, a1, a2, a3, a4, a5, hgr⟩ := ret6 h.res (.string ⟨#[]⟩) (.int .i64 0) (.int .i64 0) (.int .i64 0) (.slice none 0 0) (.slice none 0 0)
  exact ⟨W, hW, a0, a1, a2, a3, a4, a5, _, 0, 0, _, 0, 0, rfl, Nat.le_refl _, Nat.le_refl _, RowAt.nil _ _ _ _ _, RowAt.nil _ _ _ _ _, h.low.grown hgr h.low.size (fun k e => by have : w.heap.size = k := Option.some.inj e; omega)⟩
end
end Go.Proofs.YtfhdoecackdflaaDoor.OlQs
