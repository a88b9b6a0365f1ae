/-
  A box that the third form's reader reads.
-/
import Derived.Test.YtdgcihgohkgecaaF3M
import Derived.Deep.RegionHeld3
import Derived.Deep.RegionLaw
namespace Go.Proofs.Ytdgcihgohkgecaa.F3U
open Go.RowKit Go.Proofs.Ytdgcihgohkgecaa.BxD Go.Proofs.Ytdgcihgohkgecaa.BxKit Go.Proofs.Ytdgcihgohkgecaa.BxR Go.Proofs.Ytdgcihgohkgecaa.BxC Go.Proofs.Ytdgcihgohkgecaa.OlD Go.Proofs.Ytdgcihgohkgecaa.PtD Go.Proofs.Ytdgcihgohkgecaa.PtK Go.Proofs.Ytdgcihgohkgecaa.PtR Go.Proofs.Ytdgcihgohkgecaa.F3D Go.Proofs.Ytdgcihgohkgecaa.F3R Go.Proofs.Ytdgcihgohkgecaa.F3M
open Go.Proofs.Ytdgcihgohkgecaa.PkF (ptr RD)
open Go.Proofs.Ytdgcihgohkgecaa.PtK (own_ne_blk)

/-- A box being read: the readers, the answer's block, the box's, its rows in memory of the call's own. -/
structure BS (w wr : World) (R T : Nat) (s : St) (id : ByteArray) (v n hg : Int) (WA : Option Addr) (wn wc : Nat) (MA : Option Addr) (mn mc' : Nat) (ws : List ByteArray) (rs : List Raw) : Prop where
  fr : Fr2 R T w wr
  rd : PRd wr R T s
  rb : RBk wr w.heap.size R
  res : wr.heap[w.heap.size + 1]? = some (.cells zbox 25 (0, 0))
  blk : wr.heap[w.heap.size + 2]? = some (.cells #[.string id, .int .i64 v, .int .i64 n, .int .i64 hg, .slice WA wn wc, .slice MA mn mc'] 25 (0, 0))
  hR : R < w.heap.size
  hT : T < w.heap.size
  ow : wr.ownsRow (w.heap.size + 3) 9 1 (.slice WA wn wc) wn (ws.map Value.string)
  om : wr.ownsRow (w.heap.size + 3) 39 7 (.slice MA mn mc') mn (mc rs)
  ko : ∀ r ∈ rs, wr.ownsRow (w.heap.size + 3) 3 1 (.slice r.K r.m.keys.length r.c) r.m.keys.length (r.m.keys.map (Value.int .i64))
section
variable {w wr w2 w3 : World} {R T : Nat} {s s' : St} {id : ByteArray} {v n hg : Int} {WA MA WA' MA' : Option Addr} {wn wc mn mc' wc2 mc2 : Nat} {ws : List ByteArray} {rs : List Raw}
theorem BS.size (h : BS w wr R T s id v n hg WA wn wc MA mn mc' ws rs) : w.heap.size + 3 ≤ wr.heap.size := (Array.getElem?_eq_some_iff.1 h.blk).1
theorem BS.keep (h : BS w wr R T s id v n hg WA wn wc MA mn mc' ws rs) (hgr : Fr2 R T wr w2) (hr : PRd w2 R T s') : BS w w2 R T s' id v n hg WA wn wc MA mn mc' ws rs := by
  have h1 := h.size
  have h2 := h.hR
  have h3 := h.hT
  have hb : ∀ g, w.heap.size ≤ g → g < wr.heap.size → w2.heap[g]? = wr.heap[g]? := fun g k1 k2 => hgr.block g k2 (by omega) (by omega)
  exact ⟨h.fr.trans hgr, hr, (hb _ (by omega) (by omega)).trans h.rb, (hb _ (by omega) (by omega)).trans h.res, (hb _ (by omega) (by omega)).trans h.blk, h2, h3, own_block h.ow fun g e => hb g (by have := (h.ow.lt g e).1; omega) (h.ow.lt g e).2,
    own_block h.om fun g e => hb g (by have := (h.om.lt g e).1; omega) (h.om.lt g e).2, fun r hr => own_block (h.ko r hr) fun g e => hb g (by have := ((h.ko r hr).lt g e).1; omega) ((h.ko r hr).lt g e).2⟩
theorem BS.go (h : BS w wr R T s id v n hg WA wn wc MA mn mc' ws rs) (hb : Below wr.heap.size wr w2) : BS w w2 R T s id v n hg WA wn wc MA mn mc' ws rs := h.keep (Fr2.below hb R T) (h.rd.go hb)
theorem BS.cells (h : BS w wr R T s id v n hg WA wn wc MA mn mc' ws rs) : wr.cell? { block := w.heap.size + 2, off := 0 } = some (.string id) ∧ wr.cell? { block := w.heap.size + 2, off := 1 } = some (.int .i64 v) ∧ wr.cell? { block := w.heap.size + 2, off := 2 } = some (.int .i64 n) ∧
    wr.cell? { block := w.heap.size + 2, off := 3 } = some (.int .i64 hg) ∧ wr.cell? { block := w.heap.size + 2, off := 4 } = some (.slice WA wn wc) ∧ wr.cell? { block := w.heap.size + 2, off := 5 } = some (.slice MA mn mc') ∧ ∀ i, wr.frozen? { block := w.heap.size + 2, off := i } = false := by
  have c := fun o => cell_of_row wr (w.heap.size + 2) o _ _ _ h.blk
  exact ⟨(c 0).trans rfl, (c 1).trans rfl, (c 2).trans rfl, (c 3).trans rfl, (c 4).trans rfl, (c 5).trans rfl, fun i => by simp [World.frozen?, h.blk]⟩
/-- A number, or the ID, is stored. -/
theorem BS.set (h : BS w wr R T s id v n hg WA wn wc MA mn mc' ws rs) (i : Nat) (x : Value) {id' : ByteArray} {v' n' hg' : Int}
    (hv : (#[.string id, .int .i64 v, .int .i64 n, .int .i64 hg, .slice WA wn wc, .slice MA mn mc'] : Array Value).setIfInBounds i x = #[.string id', .int .i64 v', .int .i64 n', .int .i64 hg', .slice WA wn wc, .slice MA mn mc']) :
    BS w (wr.setCell { block := w.heap.size + 2, off := i } x) R T s id' v' n' hg' WA wn wc MA mn mc' ws rs := by
  have h2 := h.hR
  have h3 := h.hT
  refine ⟨h.fr.set (by omega) _, h.rd.set (by omega) (by omega) _, (Below.heap_setCell _ _ _ _ (by show w.heap.size ≠ w.heap.size + 2; omega)).trans h.rb, (Below.heap_setCell _ _ _ _ (by show w.heap.size + 1 ≠ w.heap.size + 2; omega)).trans h.res, ?_, h2, h3, ownsRow_setCell_below h.ow (by show w.heap.size + 2 < w.heap.size + 3; omega) _, ownsRow_setCell_below h.om (by show w.heap.size + 2 < w.heap.size + 3; omega) _, fun r hr => ownsRow_setCell_below (h.ko r hr) (by show w.heap.size + 2 < w.heap.size + 3; omega) _⟩
  rw [← hv]
  simp [World.setCell, Array.getElem?_modify, h.blk]
/-- Behind an append: what lies below, and the readers. -/
theorem BS.lo (h : BS w wr R T s id v n hg WA wn wc MA mn mc' ws rs) {x : Value} (hx : ∀ g, x.ownBlock = some g → w.heap.size + 3 ≤ g) (hgr : wr.grownBy w3 x.ownBlock) : (∀ g, g < w.heap.size + 3 → w3.heap[g]? = wr.heap[g]?) ∧ PRd w3 R T s ∧ Fr2 R T w w3 := by
  have h2 := h.hR
  have h3 := h.hT
  have h1 := h.size
  have hlo : ∀ g, g < w.heap.size + 3 → w3.heap[g]? = wr.heap[g]? := fun g k => hgr.block g (by omega) (fun e => by have := hx g e.symm; omega)
  exact ⟨hlo, ⟨(hlo R (by omega)).trans h.rd.blk, h.rd.rd.below (B := w.heap.size + 3) ⟨hgr.os, hgr.tape, hgr.output, hgr.size, hlo⟩ (by omega), h.rd.ne⟩,
    ⟨hgr.os.trans h.fr.os, hgr.tape.trans h.fr.tape, hgr.output.trans h.fr.output, Nat.le_trans h.fr.size hgr.size, fun k k1 k2 k3 => (hlo k (by omega)).trans (h.fr.block k k1 k2 k3)⟩⟩
/-- A word more: behind the append, and its store. -/
theorem BS.word (h : BS w wr R T s id v n hg WA wn wc MA mn mc' ws rs) {t : ByteArray} (ho : w3.ownsRow (w.heap.size + 3) 9 1 (.slice WA' (wn + 1) wc2) (wn + 1) ((ws ++ [t]).map Value.string)) (hgr : wr.grownBy w3 (Value.slice WA wn wc).ownBlock) :
    BS w (w3.setCell { block := w.heap.size + 2, off := 4 } (.slice WA' (wn + 1) wc2)) R T s id v n hg WA' (wn + 1) wc2 MA mn mc' (ws ++ [t]) rs := by
  have h2 := h.hR
  have h3 := h.hT
  obtain ⟨hlo, f3, fr3⟩ := h.lo (fun g e => (h.ow.lt g e).1) hgr
  refine ⟨fr3.set (by omega) _, f3.set (by omega) (by omega) _, (Below.heap_setCell _ _ _ _ (by show w.heap.size ≠ w.heap.size + 2; omega)).trans ((hlo _ (by omega)).trans h.rb), (Below.heap_setCell _ _ _ _ (by show w.heap.size + 1 ≠ w.heap.size + 2; omega)).trans ((hlo _ (by omega)).trans h.res), ?_, h2, h3, ownsRow_setCell_below ho (by show w.heap.size + 2 < w.heap.size + 3; omega) _, ownsRow_setCell_below (own_block h.om fun g e => hgr.block g (h.om.lt g e).2 fun e2 => own_ne h.om h.ow e2.symm (by decide) e) (by show w.heap.size + 2 < w.heap.size + 3; omega) _,
    fun r hr => ownsRow_setCell_below (own_block (h.ko r hr) fun g e => hgr.block g ((h.ko r hr).lt g e).2 fun e2 => own_ne (h.ko r hr) h.ow e2.symm (by decide) e) (by show w.heap.size + 2 < w.heap.size + 3; omega) _⟩
  have := (hlo (w.heap.size + 2) (by omega)).trans h.blk
  simp [World.setCell, Array.getElem?_modify, this]
/-- A message more. -/
theorem BS.msg (h : BS w wr R T s id v n hg WA wn wc MA mn mc' ws rs) {r : Raw} (hk : wr.ownsRow (w.heap.size + 3) 3 1 (.slice r.K r.m.keys.length r.c) r.m.keys.length (r.m.keys.map (Value.int .i64))) (ho : w3.ownsRow (w.heap.size + 3) 39 7 (.slice MA' (mn + 1) mc2) (mn + 1) (mc (rs ++ [r]))) (hgr : wr.grownBy w3 (Value.slice MA mn mc').ownBlock) :
    BS w (w3.setCell { block := w.heap.size + 2, off := 5 } (.slice MA' (mn + 1) mc2)) R T s id v n hg WA wn wc MA' (mn + 1) mc2 ws (rs ++ [r]) := by
  have h2 := h.hR
  have h3 := h.hT
  obtain ⟨hlo, f3, fr3⟩ := h.lo (fun g e => (h.om.lt g e).1) hgr
  refine ⟨fr3.set (by omega) _, f3.set (by omega) (by omega) _, (Below.heap_setCell _ _ _ _ (by show w.heap.size ≠ w.heap.size + 2; omega)).trans ((hlo _ (by omega)).trans h.rb), (Below.heap_setCell _ _ _ _ (by show w.heap.size + 1 ≠ w.heap.size + 2; omega)).trans ((hlo _ (by omega)).trans h.res), ?_, h2, h3, ownsRow_setCell_below (own_block h.ow fun g e => hgr.block g (h.ow.lt g e).2 fun e2 => own_ne h.ow h.om e2.symm (by decide) e) (by show w.heap.size + 2 < w.heap.size + 3; omega) _, ownsRow_setCell_below ho (by show w.heap.size + 2 < w.heap.size + 3; omega) _,
    fun q hq => ?_⟩
  · have := (hlo (w.heap.size + 2) (by omega)).trans h.blk
    simp [World.setCell, Array.getElem?_modify, this]
  · have hq2 : wr.ownsRow (w.heap.size + 3) 3 1 (.slice q.K q.m.keys.length q.c) q.m.keys.length (q.m.keys.map (Value.int .i64)) := by
      rcases List.mem_append.1 hq with hq | hq
      · exact h.ko q hq
      · obtain rfl := List.mem_singleton.1 hq
        exact hk
    exact ownsRow_setCell_below (own_block hq2 fun g e => hgr.block g (hq2.lt g e).2 fun e2 => own_ne hq2 h.om e2.symm (by decide) e) (by show w.heap.size + 2 < w.heap.size + 3; omega) _
theorem BS.start (h : PRd w R T s) : BS w (((w.alloc (.cells #[ptr R] 54)).alloc (.cells zbox 25)).alloc (.cells #[.string ⟨#[]⟩, .int .i64 0, .int .i64 0, .int .i64 0, .slice none 0 0, .slice none 0 0] 25)) R T s ⟨#[]⟩ 0 0 0 none 0 0 none 0 0 [] [] := by
  have e1 : (w.alloc (.cells #[ptr R] 54)).heap.size = w.heap.size + 1 := by simp
  have e2 : ((w.alloc (.cells #[ptr R] 54)).alloc (.cells zbox 25)).heap.size = w.heap.size + 2 := by simp
  refine ⟨(((Fr2.refl R T w).alloc _).alloc _).alloc _, ((h.alloc _).alloc _).alloc _, ((heap_alloc_old _ _ (by rw [e2]; omega)).trans (heap_alloc_old _ _ (by rw [e1]; omega))).trans (heap_alloc_new w _), (heap_alloc_old _ _ (by rw [e2]; omega)).trans ?_, ?_, h.lt, h.rd.lt, World.ownsRow_nil _ _ _ _, World.ownsRow_nil _ _ _ _, fun r hr => by simp at hr⟩
  · have := heap_alloc_new (w.alloc (.cells #[ptr R] 54)) (.cells zbox 25)
    rw [e1] at this
    exact this
  · have := heap_alloc_new ((w.alloc (.cells #[ptr R] 54)).alloc (.cells zbox 25)) (.cells #[.string ⟨#[]⟩, .int .i64 0, .int .i64 0, .int .i64 0, .slice none 0 0, .slice none 0 0] 25)
    rw [e2] at this
    exact this
end
/-- A box that was read: its rows in memory of the call's own. -/
def BoxRd (b : Box) (s : St) (w : World) (R T : Nat) (e : Ending) (w' : World) : Prop :=
  ∃ WA wc MA mc' rs, e = .returned (.agg #[.string b.id, .int .i64 b.valid, .int .i64 b.next, .int .i64 b.high, .slice WA b.words.length wc, .slice MA b.msgs.length mc']) ∧ w'.ownsRow w.heap.size 9 1 (.slice WA b.words.length wc) b.words.length (b.words.map Value.string) ∧
    w'.ownsRow w.heap.size 39 7 (.slice MA b.msgs.length mc') b.msgs.length (mc rs) ∧ rs.map Raw.m = b.msgs ∧ (∀ r ∈ rs, w'.ownsRow w.heap.size 3 1 (.slice r.K r.m.keys.length r.c) r.m.keys.length (r.m.keys.map (Value.int .i64))) ∧ PRd w' R T s ∧ Fr2 R T w w'
end Go.Proofs.Ytdgcihgohkgecaa.F3U
