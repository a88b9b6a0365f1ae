/-
  A copy, and what the document has for it, in memory; the copy spoilt.
-/
import Derived.Test.YtabcfhjfdkbhaaaDoorBxC
namespace Go.Proofs.YtabcfhjfdkbhaaaDoor.BxCs
open Go.RowKit Go.Proofs.YtabcfhjfdkbhaaaDoor.BxD Go.Proofs.YtabcfhjfdkbhaaaDoor.BxKit Go.Proofs.YtabcfhjfdkbhaaaDoor.BxA Go.Proofs.YtabcfhjfdkbhaaaDoor.BxR Go.Proofs.YtabcfhjfdkbhaaaDoor.BxC

section
variable {w wr : World} {o : Obj}
theorem After.drew (h : After w o wr) : After w o wr.drew := Below.drew h
theorem After.set (h : After w o wr) {b i : Nat} (hb : w.heap.size + 1 ≤ b) (v : Value) : After w o (wr.setCell { block := b, off := i } v) := Below.setCell h (p := ⟨b, i, none⟩) hb v
end
/-- An empty box lies there. -/
def HZ (w : World) (b : Nat) : Prop := w.heap[b]? = some (.cells #[.string ⟨#[]⟩, .int .i64 0, .int .i64 0, .int .i64 0, .slice none 0 0, .slice none 0 0] 25 (0, 0))
section
variable {w w2 : World} {b : Nat}
theorem HZ.lt (h : HZ w b) : b < w.heap.size := (Array.getElem?_eq_some_iff.1 h).1
theorem HZ.new (w : World) : HZ (w.alloc (.cells #[.string ⟨#[]⟩, .int .i64 0, .int .i64 0, .int .i64 0, .slice none 0 0, .slice none 0 0] 25)) w.heap.size := heap_alloc_new w _
theorem HZ.alloc (h : HZ w b) (o : Obj) : HZ (w.alloc o) b := (heap_alloc_old _ _ h.lt).trans h
theorem HZ.drew (h : HZ w b) : HZ w.drew b := h
theorem HZ.go (h : HZ w b) (hb : Below w.heap.size w w2) : HZ w2 b := (hb.block _ h.lt).trans h
theorem HZ.facts (h : HZ w b) : w.cell? { block := b, off := 0 } = some (.string ⟨#[]⟩) ∧ w.cell? { block := b, off := 1 } = some (.int .i64 0) ∧ w.cell? { block := b, off := 2 } = some (.int .i64 0) ∧ w.cell? { block := b, off := 3 } = some (.int .i64 0) ∧
    w.cell? { block := b, off := 4 } = some (.slice none 0 0) ∧ w.cell? { block := b, off := 5 } = some (.slice none 0 0) ∧ w.frozen? { block := b, off := 0 } = false ∧ w.frozen? { block := b, off := 1 } = false ∧ w.frozen? { block := b, off := 2 } = false ∧
    w.frozen? { block := b, off := 3 } = false ∧ w.frozen? { block := b, off := 4 } = false ∧ w.frozen? { block := b, off := 5 } = false := by
  have c := fun o => cell_of_row w b o _ _ _ h
  have f : ∀ o, w.frozen? { block := b, off := o } = false := fun o => by unfold HZ at h; simp [World.frozen?, h]
  exact ⟨(c 0).trans rfl, (c 1).trans rfl, (c 2).trans rfl, (c 3).trans rfl, (c 4).trans rfl, (c 5).trans rfl, f 0, f 1, f 2, f 3, f 4, f 5⟩
end
theorem one_at {z : World} {b : Nat} {cs : Array Value} {t : TypeId} (h : z.heap[b]? = some (.cells cs t (0, 0))) (i : Nat) (v : Value) :
    (z.setCell { block := b, off := i } v).heap[b]? = some (.cells (cs.setIfInBounds i v) t (0, 0)) := by
  simp [World.setCell, Array.getElem?_modify, h]
/-- All as it was, but for one block. -/
structure But (b : Nat) (z f : World) : Prop where
  oth : ∀ k, k ≠ b → f.heap[k]? = z.heap[k]?
  size : f.heap.size = z.heap.size
  os : f.os = z.os
  tape : f.tape = z.tape
  output : f.output = z.output
theorem But.refl (b : Nat) (z : World) : But b z z := ⟨fun _ _ => rfl, rfl, rfl, rfl, rfl⟩
theorem But.set {b : Nat} {z f : World} (h : But b z f) (i : Nat) (v : Value) : But b z (f.setCell { block := b, off := i } v) :=
  ⟨fun k hk => (Below.heap_setCell _ _ _ _ (by show k ≠ b; exact hk)).trans (h.oth k hk), by rw [← h.size]; simp [World.setCell], h.os, h.tape, h.output⟩
/-- Six cells written. -/
theorem six_at {z : World} {b : Nat} {o0 o1 o2 o3 o4 o5 : Value} {t : TypeId} (h : z.heap[b]? = some (.cells #[o0, o1, o2, o3, o4, o5] t (0, 0))) (v0 v1 v2 v3 v4 v5 : Value) :
    ∃ f, f = ((((((z.setCell { block := b, off := 0 } (v0)).setCell { block := b, off := 1 } (v1)).setCell { block := b, off := 2 } (v2)).setCell { block := b, off := 3 } (v3)).setCell { block := b, off := 4 } (v4)).setCell { block := b, off := 5 } (v5)) ∧ f.heap[b]? = some (.cells #[v0, v1, v2, v3, v4, v5] t (0, 0)) ∧ (∀ k, k ≠ b → f.heap[k]? = z.heap[k]?) ∧ f.heap.size = z.heap.size ∧ f.os = z.os ∧ f.tape = z.tape ∧ f.output = z.output := by
  have hb := ((((((But.refl b z).set 0 v0).set 1 v1).set 2 v2).set 3 v3).set 4 v4).set 5 v5
  have hc := one_at (one_at (one_at (one_at (one_at (one_at h 0 v0) 1 v1) 2 v2) 3 v3) 4 v4) 5 v5
  generalize hf : ((((((z.setCell { block := b, off := 0 } (v0)).setCell { block := b, off := 1 } (v1)).setCell { block := b, off := 2 } (v2)).setCell { block := b, off := 3 } (v3)).setCell { block := b, off := 4 } (v4)).setCell { block := b, off := 5 } (v5)) = f at hb hc
  exact ⟨f, rfl, hc, hb.oth, hb.size, hb.os, hb.tape, hb.output⟩
/-- Two boxes laid, all else as it was. -/
structure Fin (z f : World) (P5 P6 : Nat) (v5 v6 : Array Value) : Prop where
  os : f.os = z.os
  tape : f.tape = z.tape
  output : f.output = z.output
  size : z.heap.size ≤ f.heap.size
  h5 : f.heap[P5]? = some (.cells v5 25 (0, 0))
  h6 : f.heap[P6]? = some (.cells v6 25 (0, 0))
  old : ∀ k, k < z.heap.size → k ≠ P5 → k ≠ P6 → f.heap[k]? = z.heap[k]?
section
variable {z : World} {P5 P6 : Nat} {bid : ByteArray} {bv bn bh : Int} {vw vm vw' vm' : Value}
theorem fin_cc (h5 : HZ z P5) (h6 : HZ z P6) (ne : P5 ≠ P6) : Fin z ((((((((((((z.setCell { block := P5, off := 0 } (.string bid)).setCell { block := P5, off := 1 } (.int .i64 bv)).setCell { block := P5, off := 2 } (.int .i64 bn)).setCell { block := P5, off := 3 } (.int .i64 bh)).setCell { block := P5, off := 4 } (vw)).setCell { block := P5, off := 5 } (vm)).setCell { block := P6, off := 0 } (.string bid)).setCell { block := P6, off := 1 } (.int .i64 bv)).setCell { block := P6, off := 2 } (.int .i64 bn)).setCell { block := P6, off := 3 } (.int .i64 bh)).setCell { block := P6, off := 4 } (vw')).setCell { block := P6, off := 5 } (vm')) P5 P6 #[.string bid, .int .i64 bv, .int .i64 bn, .int .i64 bh, vw, vm] #[.string bid, .int .i64 bv, .int .i64 bn, .int .i64 bh, vw', vm'] := by
  obtain ⟨f, hf, a1, a2, a3, a4, a5, a6⟩ := six_at h5 (.string bid) (.int .i64 bv) (.int .i64 bn) (.int .i64 bh) vw vm
  rw [← hf]
  obtain ⟨f2, hf2, b1, b2, b3, b4, b5, b6⟩ := six_at ((a2 P6 (Ne.symm ne)).trans h6) (.string bid) (.int .i64 bv) (.int .i64 bn) (.int .i64 bh) vw' vm'
  rw [← hf2]
  exact ⟨b4.trans a4, b5.trans a5, b6.trans a6, by omega, (b2 _ ne).trans a1, b1, fun k _ k5 k6 => (b2 k k6).trans (a2 k k5)⟩
theorem fin_ca (h5 : HZ z P5) : Fin z ((((((((z.setCell { block := P5, off := 0 } (.string bid)).setCell { block := P5, off := 1 } (.int .i64 bv)).setCell { block := P5, off := 2 } (.int .i64 bn)).setCell { block := P5, off := 3 } (.int .i64 bh)).setCell { block := P5, off := 4 } (vw)).setCell { block := P5, off := 5 } (vm))).alloc (.cells #[.string bid, .int .i64 bv, .int .i64 bn, .int .i64 bh, vw', vm'] 25)) P5 z.heap.size #[.string bid, .int .i64 bv, .int .i64 bn, .int .i64 bh, vw, vm] #[.string bid, .int .i64 bv, .int .i64 bn, .int .i64 bh, vw', vm'] := by
  obtain ⟨f, hf, a1, a2, a3, a4, a5, a6⟩ := six_at h5 (.string bid) (.int .i64 bv) (.int .i64 bn) (.int .i64 bh) vw vm
  rw [← hf]
  have := h5.lt
  have hn := heap_alloc_new f (.cells #[.string bid, .int .i64 bv, .int .i64 bn, .int .i64 bh, vw', vm'] 25)
  rw [a3] at hn
  exact ⟨a4, a5, a6, by simp; omega, (heap_alloc_old _ _ (by omega)).trans a1, hn, fun k hk k5 _ => (heap_alloc_old _ _ (by omega)).trans (a2 k k5)⟩
theorem fin_ac (h6 : HZ z P6) : Fin z ((((((((z.setCell { block := P6, off := 0 } (.string bid)).setCell { block := P6, off := 1 } (.int .i64 bv)).setCell { block := P6, off := 2 } (.int .i64 bn)).setCell { block := P6, off := 3 } (.int .i64 bh)).setCell { block := P6, off := 4 } (vw')).setCell { block := P6, off := 5 } (vm'))).alloc (.cells #[.string bid, .int .i64 bv, .int .i64 bn, .int .i64 bh, vw, vm] 25)) z.heap.size P6 #[.string bid, .int .i64 bv, .int .i64 bn, .int .i64 bh, vw, vm] #[.string bid, .int .i64 bv, .int .i64 bn, .int .i64 bh, vw', vm'] := by
  obtain ⟨f, hf, a1, a2, a3, a4, a5, a6⟩ := six_at h6 (.string bid) (.int .i64 bv) (.int .i64 bn) (.int .i64 bh) vw' vm'
  rw [← hf]
  have := h6.lt
  have hn := heap_alloc_new f (.cells #[.string bid, .int .i64 bv, .int .i64 bn, .int .i64 bh, vw, vm] 25)
  rw [a3] at hn
  exact ⟨a4, a5, a6, by simp; omega, hn, (heap_alloc_old _ _ (by omega)).trans a1, fun k hk _ k6 => (heap_alloc_old _ _ (by omega)).trans (a2 k k6)⟩
theorem fin_two {a c : Array Value} (z : World) : ((z.alloc (.cells a 25)).alloc (.cells c 25)).heap[z.heap.size]? = some (.cells a 25 (0, 0)) ∧ ((z.alloc (.cells a 25)).alloc (.cells c 25)).heap[z.heap.size + 1]? = some (.cells c 25 (0, 0)) := by
  refine ⟨(heap_alloc_old _ _ (by simp)).trans (heap_alloc_new z _), ?_⟩
  have := heap_alloc_new (z.alloc (.cells a 25)) (.cells c 25)
  simpa using this
theorem fin_aa : Fin z ((z.alloc (.cells #[.string bid, .int .i64 bv, .int .i64 bn, .int .i64 bh, vw, vm] 25)).alloc (.cells #[.string bid, .int .i64 bv, .int .i64 bn, .int .i64 bh, vw', vm'] 25)) z.heap.size (z.heap.size + 1) #[.string bid, .int .i64 bv, .int .i64 bn, .int .i64 bh, vw, vm] #[.string bid, .int .i64 bv, .int .i64 bn, .int .i64 bh, vw', vm'] :=
  ⟨rfl, rfl, rfl, by simp; omega, (fin_two z).1, (fin_two z).2, fun k hk _ _ => (heap_alloc_old _ _ (by simp; omega)).trans (heap_alloc_old _ _ hk)⟩
theorem fin_aa' : Fin z ((z.alloc (.cells #[.string bid, .int .i64 bv, .int .i64 bn, .int .i64 bh, vw', vm'] 25)).alloc (.cells #[.string bid, .int .i64 bv, .int .i64 bn, .int .i64 bh, vw, vm] 25)) (z.heap.size + 1) z.heap.size #[.string bid, .int .i64 bv, .int .i64 bn, .int .i64 bh, vw, vm] #[.string bid, .int .i64 bv, .int .i64 bn, .int .i64 bh, vw', vm'] :=
  ⟨rfl, rfl, rfl, by simp; omega, (fin_two z).2, (fin_two z).1, fun k hk _ _ => (heap_alloc_old _ _ (by simp; omega)).trans (heap_alloc_old _ _ hk)⟩
end
/-- The copy's box at P5, its rows in the blocks from s0 to s1; the document's at P6, its rows from s1 on. -/
structure St (bid : ByteArray) (bv bn bh : Int) (wn mn : Nat) (ws : List ByteArray) (ms : List Msg) (w wr : World) (o : Obj) (P5 P6 s0 s1 : Nat) (vw vm vw' vm' : Value) (rs rs' : List Raw) : Prop where
  aft : After w o wr
  p5 : wr.heap[P5]? = some (.cells #[.string bid, .int .i64 bv, .int .i64 bn, .int .i64 bh, vw, vm] 25 (0, 0))
  p6 : wr.heap[P6]? = some (.cells #[.string bid, .int .i64 bv, .int .i64 bn, .int .i64 bh, vw', vm'] 25 (0, 0))
  lo : w.heap.size + 1 ≤ s0
  n5 : P5 < s0 ∨ s1 ≤ P5
  n6 : P6 < s0 ∨ s1 ≤ P6
  ow : wr.ownsRow s0 9 1 vw wn (ws.map Value.string)
  om : wr.ownsRow s0 28 7 vm mn (mc rs)
  rm : rs.map Raw.m = ms
  ko : ∀ r ∈ rs, KO1 wr s0 vm.ownBlock r
  lw : ∀ g, vw.ownBlock = some g → g < s1
  lm : ∀ g, vm.ownBlock = some g → g < s1
  lk : ∀ r ∈ rs, ∀ g, (Value.slice r.K r.m.keys.length r.c).ownBlock = some g → g < s1
  ow' : wr.ownsRow s1 9 1 vw' wn (ws.map Value.string)
  om' : wr.ownsRow s1 28 7 vm' mn (mc rs')
  rm' : rs'.map Raw.m = ms
  ko' : ∀ r ∈ rs', KO1 wr s1 none r
section
variable {bid : ByteArray} {bv bn bh : Int} {wn mn : Nat} {ws : List ByteArray} {ms : List Msg} {w wr : World} {o : Obj} {P5 P6 s0 s1 : Nat} {vw vm vw' vm' : Value} {rs rs' : List Raw}
theorem St.build {x w3 y w4 f : World} (ax : After w o x) (bC : Below x.heap.size x w3) (owC : w3.ownsRow x.heap.size 9 1 vw wn (ws.map Value.string)) (omC : w3.ownsRow x.heap.size 28 7 vm mn (mc rs)) (rmC : rs.map Raw.m = ms) (koC : ∀ r ∈ rs, KO1 w3 x.heap.size vm.ownBlock r)
    (bM : Below w3.heap.size w3 y) (bD : Below y.heap.size y w4) (owD : w4.ownsRow y.heap.size 9 1 vw' wn (ws.map Value.string)) (omD : w4.ownsRow y.heap.size 28 7 vm' mn (mc rs')) (rmD : rs'.map Raw.m = ms) (koD : ∀ r ∈ rs', KO1 w4 y.heap.size none r)
    (hf : Fin w4 f P5 P6 #[.string bid, .int .i64 bv, .int .i64 bn, .int .i64 bh, vw, vm] #[.string bid, .int .i64 bv, .int .i64 bn, .int .i64 bh, vw', vm']) (q5 : w.heap.size + 1 ≤ P5) (q6 : w.heap.size + 1 ≤ P6) (n5 : P5 < x.heap.size ∨ w3.heap.size ≤ P5) (n6 : P6 < x.heap.size ∨ w3.heap.size ≤ P6) (m5 : P5 < y.heap.size ∨ w4.heap.size ≤ P5) (m6 : P6 < y.heap.size ∨ w4.heap.size ≤ P6) :
    St bid bv bn bh wn mn ws ms w f o P5 P6 x.heap.size w3.heap.size vw vm vw' vm' rs rs' := by
  have sx := ax.size
  have s3 := bC.size
  have sy := bM.size
  have s4 := bD.size
  have eC : ∀ g, x.heap.size ≤ g → g < w3.heap.size → f.heap[g]? = w3.heap[g]? := fun g h1 h2 => (hf.old g (by omega) (by omega) (by omega)).trans ((bD.block g (by omega)).trans (bM.block g h2))
  have eD : ∀ g, y.heap.size ≤ g → g < w4.heap.size → f.heap[g]? = w4.heap[g]? := fun g h1 h2 => hf.old g h2 (by omega) (by omega)
  have a4 : After w o w4 := ((ax.go bC).go bM).go bD
  refine ⟨⟨hf.os.trans a4.os, hf.tape.trans a4.tape, hf.output.trans a4.output, Nat.le_trans (Below.size a4) hf.size, fun k hk => (hf.old k (by omega) (by omega) (by omega)).trans (a4.block k hk)⟩, hf.h5, hf.h6, sx, n5, n6,
    own_block owC fun g e => eC g (owC.lt g e).1 (owC.lt g e).2, own_block omC fun g e => eC g (omC.lt g e).1 (omC.lt g e).2, rmC,
    fun r hr => ⟨own_block (koC r hr).1 fun g e => eC g ((koC r hr).1.lt g e).1 ((koC r hr).1.lt g e).2, (koC r hr).2⟩, fun g e => (owC.lt g e).2, fun g e => (omC.lt g e).2, fun r hr g e => ((koC r hr).1.lt g e).2,
    own_base (own_block owD fun g e => eD g (owD.lt g e).1 (owD.lt g e).2) sy, own_base (own_block omD fun g e => eD g (omD.lt g e).1 (omD.lt g e).2) sy, rmD,
    fun r hr => ⟨own_base (own_block (koD r hr).1 fun g e => eD g ((koD r hr).1.lt g e).1 ((koD r hr).1.lt g e).2) sy, (koD r hr).2⟩⟩
end
theorem msgs_size {w : World} {B n : Nat} {A : Option Addr} {l : List Msg} (h : MsgsAt w B A n l) : ∀ m ∈ l, m.id.size ≤ 140737488355328 ∧ m.text.size ≤ 140737488355328 := by
  intro m hm
  obtain ⟨j, hj⟩ := List.mem_iff_getElem?.1 hm
  have hl := (List.getElem?_eq_some_iff.1 hj).1
  obtain ⟨ad, y, _, _, hy, hc⟩ := h.get (j := j) (by have := h.len; omega)
  rw [hj] at hy
  injection hy with hy
  subst hy
  exact hc.2.2.2.2.2.2.2
theorem keysOk_of {w : World} {base : Nat} {og : Option Nat} {rs : List Raw} {ms : List Msg} (h : ∀ r ∈ rs, KO1 w base og r) (hm : rs.map Raw.m = ms) (hz : ∀ m ∈ ms, m.id.size ≤ 140737488355328 ∧ m.text.size ≤ 140737488355328) (hk : ∀ m ∈ ms, m.keys.length ≤ 60000) : KeysOk w w.heap.size rs := by
  intro r hr
  have hmem : r.m ∈ ms := by rw [← hm]; exact List.mem_map_of_mem hr
  have h6 := hk r.m hmem
  obtain ⟨A, cp, hv, hc⟩ := own_slice (h r hr).1
  injection hv with h1 h2 h3
  exact ⟨intsAt_own (h r hr).1 (by omega), by omega, hz r.m hmem⟩
/-- The copy's rows, whatever they hold by now: words, messages whose keys lie in rows of their own; the document's box as it was. -/
structure Sx (bid : ByteArray) (bv bn bh : Int) (wn mn : Nat) (ws : List ByteArray) (ms : List Msg) (w wr : World) (o : Obj) (P5 P6 s0 s1 : Nat) (vw vm vw' vm' : Value) (rs' : List Raw) : Prop where
  aft : After w o wr
  p5 : wr.heap[P5]? = some (.cells #[.string bid, .int .i64 bv, .int .i64 bn, .int .i64 bh, vw, vm] 25 (0, 0))
  p6 : wr.heap[P6]? = some (.cells #[.string bid, .int .i64 bv, .int .i64 bn, .int .i64 bh, vw', vm'] 25 (0, 0))
  lo : w.heap.size + 1 ≤ s0
  n5 : P5 < s0 ∨ s1 ≤ P5
  n6 : P6 < s0 ∨ s1 ≤ P6
  ow : ∃ xs, wr.ownsRow s0 9 1 vw wn xs
  om : ∃ cs, wr.ownsRow s0 28 7 vm mn cs ∧ ∀ i, i < mn → ∃ K n c, cs[i * 7 + 5]? = some (.slice K n c) ∧ n ≤ 60000 ∧ (∃ ys, wr.ownsRow s0 3 1 (.slice K n c) n ys) ∧
    ((Value.slice K n c).ownBlock = none ∨ (Value.slice K n c).ownBlock ≠ vm.ownBlock) ∧ ∀ g, (Value.slice K n c).ownBlock = some g → g < s1
  lw : ∀ g, vw.ownBlock = some g → g < s1
  lm : ∀ g, vm.ownBlock = some g → g < s1
  ow' : wr.ownsRow s1 9 1 vw' wn (ws.map Value.string)
  om' : wr.ownsRow s1 28 7 vm' mn (mc rs')
  rm' : rs'.map Raw.m = ms
  ko' : ∀ r ∈ rs', KO1 wr s1 none r
section
variable {bid : ByteArray} {bv bn bh : Int} {wn mn : Nat} {ws : List ByteArray} {ms : List Msg} {w wr w2 : World} {o : Obj} {P5 P6 s0 s1 : Nat} {vw vm vw' vm' : Value} {rs rs' : List Raw}
theorem St.sx (h : St bid bv bn bh wn mn ws ms w wr o P5 P6 s0 s1 vw vm vw' vm' rs rs') (hk : ∀ m ∈ ms, m.keys.length ≤ 60000) : Sx bid bv bn bh wn mn ws ms w wr o P5 P6 s0 s1 vw vm vw' vm' rs' := by
  refine ⟨h.aft, h.p5, h.p6, h.lo, h.n5, h.n6, ⟨_, h.ow⟩, ⟨_, h.om, fun i hi => ?_⟩, h.lw, h.lm, h.ow', h.om', h.rm', h.ko'⟩
  have hl := h.om.1
  rw [mc_length] at hl
  have hr := List.getElem?_eq_getElem (l := rs) (i := i) (by omega)
  have hm := List.mem_of_getElem? hr
  exact ⟨_, _, _, (mc_get rs i 5 _ hr (by decide)).trans rfl, hk _ (by rw [← h.rm]; exact List.mem_map_of_mem hm), ⟨_, (h.ko _ hm).1⟩, (h.ko _ hm).2, h.lk _ hm⟩
theorem Sx.go (h : Sx bid bv bn bh wn mn ws ms w wr o P5 P6 s0 s1 vw vm vw' vm' rs') (hb : Below wr.heap.size wr w2) : Sx bid bv bn bh wn mn ws ms w w2 o P5 P6 s0 s1 vw vm vw' vm' rs' := by
  have lt : ∀ {b : Nat} {x : Obj}, wr.heap[b]? = some x → w2.heap[b]? = some x := fun hx => (hb.block _ (Array.getElem?_eq_some_iff.1 hx).1).trans hx
  have own : ∀ {base e sz n : Nat} {v : Value} {xs : List Value}, wr.ownsRow base e sz v n xs → w2.ownsRow base e sz v n xs := fun hx => own_block hx fun g e => hb.block _ (hx.lt g e).2
  obtain ⟨xs, hxs⟩ := h.ow
  obtain ⟨cs, hcs, hko⟩ := h.om
  refine ⟨h.aft.go hb, lt h.p5, lt h.p6, h.lo, h.n5, h.n6, ⟨xs, own hxs⟩, ⟨cs, own hcs, fun i hi => ?_⟩, h.lw, h.lm, own h.ow', own h.om', h.rm', fun r hr => ⟨own (h.ko' r hr).1, (h.ko' r hr).2⟩⟩
  obtain ⟨K, n, c, e1, e2, ⟨ys, e3⟩, e4⟩ := hko i hi
  exact ⟨K, n, c, e1, e2, ⟨ys, own e3⟩, e4⟩
/-- A cell of the copy's rows is written: any, but for a message's keys. -/
theorem Sx.set (h : Sx bid bv bn bh wn mn ws ms w wr o P5 P6 s0 s1 vw vm vw' vm' rs') {g j : Nat} (h0 : s0 ≤ g) (h1 : g < s1) (h5 : vm.ownBlock = some g → j % 7 ≠ 5) (u : Value) :
    Sx bid bv bn bh wn mn ws ms w (wr.setCell { block := g, off := j } u) o P5 P6 s0 s1 vw vm vw' vm' rs' := by
  have hlo := h.lo
  have hn5 := h.n5
  have hn6 := h.n6
  have any : ∀ {base e sz n : Nat} {v : Value} {xs : List Value}, wr.ownsRow base e sz v n xs → ∃ ys, (wr.setCell { block := g, off := j } u).ownsRow base e sz v n ys := fun {_ _ _ _ v _} hx => by
    by_cases hv : v.ownBlock = some g
    · exact ⟨_, own_set hx hv j u⟩
    · exact ⟨_, own_other hx hv j u⟩
  obtain ⟨xs, hxs⟩ := h.ow
  obtain ⟨cs, hcs, hko⟩ := h.om
  have hko2 : ∀ i, i < mn → ∃ K n c, cs[i * 7 + 5]? = some (.slice K n c) ∧ n ≤ 60000 ∧ (∃ ys, (wr.setCell { block := g, off := j } u).ownsRow s0 3 1 (.slice K n c) n ys) ∧
      ((Value.slice K n c).ownBlock = none ∨ (Value.slice K n c).ownBlock ≠ vm.ownBlock) ∧ ∀ g, (Value.slice K n c).ownBlock = some g → g < s1 := fun i hi => by
    obtain ⟨K, n, c, e1, e2, ⟨ys, e3⟩, e4⟩ := hko i hi
    exact ⟨K, n, c, e1, e2, any e3, e4⟩
  refine ⟨After.set h.aft (by omega) _, (Below.heap_setCell _ _ _ _ (by show P5 ≠ g; omega)).trans h.p5, (Below.heap_setCell _ _ _ _ (by show P6 ≠ g; omega)).trans h.p6, hlo, hn5, hn6, any hxs, ?_, h.lw, h.lm,
    ownsRow_setCell_below h.ow' (by show g < s1; exact h1) _, ownsRow_setCell_below h.om' (by show g < s1; exact h1) _, h.rm', fun r hr => ⟨ownsRow_setCell_below (h.ko' r hr).1 (by show g < s1; exact h1) _, (h.ko' r hr).2⟩⟩
  by_cases hv : vm.ownBlock = some g
  · refine ⟨_, own_set hcs hv j u, fun i hi => ?_⟩
    obtain ⟨K, n, c, e1, e2⟩ := hko2 i hi
    refine ⟨K, n, c, ?_, e2⟩
    have := h5 hv
    rw [List.getElem?_set_ne (by omega)]
    exact e1
  · exact ⟨_, own_other hcs hv j u, hko2⟩
theorem Sx.boxes (h : Sx bid bv bn bh wn mn ws ms w wr o P5 P6 s0 s1 vw vm vw' vm' rs') : wr.cell? { block := P5, off := 4 } = some vw ∧ wr.cell? { block := P5, off := 5 } = some vm := by
  exact ⟨(cell_of_row wr P5 4 _ _ _ h.p5).trans rfl, (cell_of_row wr P5 5 _ _ _ h.p5).trans rfl⟩
theorem box_cells {P : Nat} (h : wr.heap[P]? = some (.cells #[.string bid, .int .i64 bv, .int .i64 bn, .int .i64 bh, vw, vm] 25 (0, 0))) : wr.cell? { block := P, off := 0 } = some (.string bid) ∧ wr.cell? { block := P, off := 1 } = some (.int .i64 bv) ∧ wr.cell? { block := P, off := 2 } = some (.int .i64 bn) ∧
    wr.cell? { block := P, off := 3 } = some (.int .i64 bh) ∧ wr.cell? { block := P, off := 4 } = some vw ∧ wr.cell? { block := P, off := 5 } = some vm := by
  have c := fun o => cell_of_row wr P o _ _ _ h
  exact ⟨(c 0).trans rfl, (c 1).trans rfl, (c 2).trans rfl, (c 3).trans rfl, (c 4).trans rfl, (c 5).trans rfl⟩
end
end Go.Proofs.YtabcfhjfdkbhaaaDoor.BxCs
