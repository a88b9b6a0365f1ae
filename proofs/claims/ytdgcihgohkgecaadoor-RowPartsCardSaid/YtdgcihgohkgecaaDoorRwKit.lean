/-
  Rows in memory, below a block; what the calls of package row answer.
-/
import Derived.Test.YtdgcihgohkgecaaDoorBxR
import Derived.Test.YtdgcihgohkgecaaDoorJ7
set_option linter.unusedVariables false
set_option linter.unusedSimpArgs false
namespace Go.Proofs.YtdgcihgohkgecaaDoor.RwKit
open Go.RowKit Go.Proofs.YtdgcihgohkgecaaDoor.BxD Go.Proofs.YtdgcihgohkgecaaDoor.BxKit Go.Proofs.YtdgcihgohkgecaaDoor.BxR Go.Proofs.YtdgcihgohkgecaaDoor.RwD Go.Proofs.YtdgcihgohkgecaaDoor.RwM Go.Proofs.YtdgcihgohkgecaaDoor.RwF

def rowC (w : World) (B : Nat) (p : Addr) (r : Row) : Prop :=
  w.cell? p = some (.int .i64 r.kind) ∧ w.cell? (fld p 1) = some (.int .i64 r.uid) ∧ w.cell? (fld p 2) = some (.int .i64 r.mod) ∧ w.cell? (fld p 3) = some (.int .i64 r.msg.uid) ∧ w.cell? (fld p 4) = some (.int .i64 r.msg.mod) ∧ w.cell? (fld p 5) = some (.int .i64 r.msg.date) ∧
    w.cell? (fld p 6) = some (.string r.msg.id) ∧ w.cell? (fld p 7) = some (.int .i64 r.msg.flags) ∧ (∃ K c, w.cell? (fld p 8) = some (.slice K r.msg.keys.length c) ∧ r.msg.keys.length ≤ c ∧ IntsAt w B K r.msg.keys.length r.msg.keys) ∧ w.cell? (fld p 9) = some (.string r.msg.text) ∧
    w.cell? (fld p 10) = some (.string r.text) ∧ r.msg.id.size ≤ 140737488355328 ∧ r.msg.text.size ≤ 140737488355328 ∧ r.text.size ≤ 140737488355328
abbrev RowsAt := RowAt rowC 11
section
variable {w w' : World} {B n : Nat} {A : Option Addr}
theorem rowC.keep {p : Addr} {r : Row} {B' : Nat} (h : rowC w B p r) (hB : B ≤ B') (hp : p.block < B) (hk : ∀ p : Addr, p.block < B → w'.cell? p = w.cell? p) : rowC w' B' p r := by
  obtain ⟨h0, h1, h2, h3, h4, h5, h6, h7, ⟨K, c, h8, h9, h10⟩, h11, h12, h13⟩ := h
  exact ⟨(hk _ hp).trans h0, (hk (fld p 1) hp).trans h1, (hk (fld p 2) hp).trans h2, (hk (fld p 3) hp).trans h3, (hk (fld p 4) hp).trans h4, (hk (fld p 5) hp).trans h5, (hk (fld p 6) hp).trans h6, (hk (fld p 7) hp).trans h7,
    ⟨K, c, (hk (fld p 8) hp).trans h8, h9, IntsAt.keep h10 hB hk⟩, (hk (fld p 9) hp).trans h11, (hk (fld p 10) hp).trans h12, h13⟩
theorem RowsAt.keep {l : List Row} {B' : Nat} (h : RowsAt w B A n l) (hB : B ≤ B') (hk : ∀ p : Addr, p.block < B → w'.cell? p = w.cell? p) : RowsAt w' B' A n l := h.map hB fun _ _ hp hc => rowC.keep hc hB hp hk
theorem RowsAt.below {l : List Row} {B' : Nat} (h : RowsAt w B A n l) (hb : Below B' w w') (hB : B ≤ B') : RowsAt w' B A n l := RowsAt.keep h (Nat.le_refl _) fun _ hp => hb.cell (by omega)
theorem RowsAt.more {l : List Row} {B' : Nat} (h : RowsAt w B A n l) (hB : B ≤ B') : RowsAt w B' A n l := RowsAt.keep h hB fun _ _ => rfl
/-- As the walk spells it: the eleven cells of a row. -/
theorem RowsAt.sp {l : List Row} {wr : World} {B' : Nat} (h : RowsAt w B A n l) (hb : Below B' w wr) (hB : B ≤ B') {j : Nat} (hj : j < n) :
    ∃ ad kd ru rm u md d id fl ks tx t K kn kc, A = some ad ∧ ad.block < B ∧ l[j]? = some ⟨kd, ru, rm, ⟨u, md, d, id, fl, ks, tx⟩, t⟩ ∧ wr.cell? (ad.add (j * 11)) = some (.int .i64 kd) ∧
      wr.cell? { block := (ad.add (j * 11)).block, off := (ad.add (j * 11)).off + 1 } = some (.int .i64 ru) ∧ wr.cell? { block := (ad.add (j * 11)).block, off := (ad.add (j * 11)).off + 2 } = some (.int .i64 rm) ∧
      wr.cell? { block := (ad.add (j * 11)).block, off := (ad.add (j * 11)).off + 3 } = some (.int .i64 u) ∧ wr.cell? { block := (ad.add (j * 11)).block, off := (ad.add (j * 11)).off + 4 } = some (.int .i64 md) ∧
      wr.cell? { block := (ad.add (j * 11)).block, off := (ad.add (j * 11)).off + 5 } = some (.int .i64 d) ∧ wr.cell? { block := (ad.add (j * 11)).block, off := (ad.add (j * 11)).off + 6 } = some (.string id) ∧
      wr.cell? { block := (ad.add (j * 11)).block, off := (ad.add (j * 11)).off + 7 } = some (.int .i64 fl) ∧ wr.cell? { block := (ad.add (j * 11)).block, off := (ad.add (j * 11)).off + 8 } = some (.slice K kn kc) ∧
      wr.cell? { block := (ad.add (j * 11)).block, off := (ad.add (j * 11)).off + 9 } = some (.string tx) ∧ wr.cell? { block := (ad.add (j * 11)).block, off := (ad.add (j * 11)).off + 10 } = some (.string t) ∧
      kn ≤ kc ∧ IntsAt wr B K kn ks ∧ id.size ≤ 140737488355328 ∧ tx.size ≤ 140737488355328 ∧ t.size ≤ 140737488355328 := by
  obtain ⟨ad, ⟨kd, ru, rm, ⟨u, md, d, id, fl, ks, tx⟩, t⟩, e, hlt, hx, hc⟩ := h.get hj
  obtain ⟨h0, h1, h2, h3, h4, h5, h6, h7, ⟨K, c, h8, h9, h10⟩, h11, h12, h13, h14, h15⟩ := rowC.keep hc (Nat.le_refl _) (by rw [add_block]; exact hlt) (fun p hp => hb.cell (show p.block < B' by omega))
  exact ⟨ad, kd, ru, rm, u, md, d, id, fl, ks, tx, t, K, _, c, e, hlt, hx, h0, h1, h2, h3, h4, h5, h6, h7, h8, h11, h12, h9, h10, h13, h14, h15⟩
end

/-- Words and messages that lie in the blocks from lo to hi. -/
def Lie (lo hi : Nat) (w : World) (WA : Option Addr) (wn : Nat) (ws : List ByteArray) (MA : Option Addr) (mn : Nat) (ms : List Msg) : Prop :=
  ∀ w2 : World, hi ≤ w2.heap.size → (∀ k, lo ≤ k → k < hi → w2.heap[k]? = w.heap[k]?) → StrsAt w2 hi WA wn ws ∧ MsgsAt w2 hi MA mn ms
theorem lie_old {w : World} {B : Nat} {WA MA : Option Addr} {wn mn : Nat} {ws : List ByteArray} {ms : List Msg} (h1 : StrsAt w B WA wn ws) (h2 : MsgsAt w B MA mn ms) : Lie 0 B w WA wn ws MA mn ms := fun w2 _ h =>
  ⟨StrsAt.keep h1 (Nat.le_refl _) fun p hp => World.cell?_of_block (h p.block (Nat.zero_le _) hp), MsgsAt.keep h2 (Nat.le_refl _) fun p hp => World.cell?_of_block (h p.block (Nat.zero_le _) hp)⟩
/-- A box that a call told: new memory. -/
def BoxOut (B : Box) (e : Int) (w : World) (x : Ending) (w' : World) : Prop :=
  ∃ WA wn wc MA mn mc, x = .returned (.tuple #[.agg #[.string B.id, .int .i64 B.valid, .int .i64 B.next, .int .i64 B.high, .slice WA wn wc, .slice MA mn mc], .int .i64 e]) ∧ wn ≤ wc ∧ mn ≤ mc ∧
    Lie w.heap.size w'.heap.size w' WA wn B.words MA mn B.msgs ∧ Below w.heap.size w w'
/-- Rows that a call told. -/
def RowsOut (l : List Row) (e : Int) (w : World) (x : Ending) (w' : World) : Prop :=
  ∃ A n c, x = .returned (.tuple #[.slice A n c, .int .i64 e]) ∧ n ≤ c ∧ RowsAt w' w'.heap.size A n l ∧ Below w.heap.size w w'
/-- A box in the block P; its words and messages lie elsewhere. -/
structure Sb (w wr : World) (P : Nat) (b : Box) (WA : Option Addr) (wn wc : Nat) (MA : Option Addr) (mn mc : Nat) : Prop where
  bel : Below w.heap.size w wr
  low : w.heap.size ≤ P
  blk : wr.heap[P]? = some (.cells #[.string b.id, .int .i64 b.valid, .int .i64 b.next, .int .i64 b.high, .slice WA wn wc, .slice MA mn mc] 25 (0, 0))
  lie : ∀ w2 : World, wr.heap.size ≤ w2.heap.size → (∀ k, k < wr.heap.size → k ≠ P → w2.heap[k]? = wr.heap[k]?) → StrsAt w2 wr.heap.size WA wn b.words ∧ MsgsAt w2 wr.heap.size MA mn b.msgs
  hwc : wn ≤ wc
  hmc : mn ≤ mc
section
variable {w wr w2 : World} {P : Nat} {b : Box} {WA MA : Option Addr} {wn wc mn mc : Nat}
theorem Sb.lt (h : Sb w wr P b WA wn wc MA mn mc) : P < wr.heap.size := (Array.getElem?_eq_some_iff.1 h.blk).1
theorem Sb.ws (h : Sb w wr P b WA wn wc MA mn mc) : StrsAt wr wr.heap.size WA wn b.words := (h.lie wr (Nat.le_refl _) fun _ _ _ => rfl).1
theorem Sb.ms (h : Sb w wr P b WA wn wc MA mn mc) : MsgsAt wr wr.heap.size MA mn b.msgs := (h.lie wr (Nat.le_refl _) fun _ _ _ => rfl).2
theorem Sb.go (h : Sb w wr P b WA wn wc MA mn mc) (hb : Below wr.heap.size wr w2) : Sb w w2 P b WA wn wc MA mn mc := by
  refine ⟨h.bel.trans (hb.mono h.bel.size), h.low, (hb.block P h.lt).trans h.blk, fun w3 h3 hk => ?_, h.hwc, h.hmc⟩
  have hs := hb.size
  obtain ⟨a, c⟩ := h.lie w3 (Nat.le_trans hs h3) fun k hk1 hk2 => (hk k (by omega) hk2).trans (hb.block k hk1)
  exact ⟨StrsAt.more a hs, MsgsAt.more c hs⟩
theorem Sb.alloc (h : Sb w wr P b WA wn wc MA mn mc) (o : Obj) : Sb w (wr.alloc o) P b WA wn wc MA mn mc := h.go ((Below.refl _ _).alloc (Nat.le_refl _) o)
/-- The box that came in, its block just behind all that was there. -/
theorem Sb.first {o : Obj} (ho : o = .cells #[.string b.id, .int .i64 b.valid, .int .i64 b.next, .int .i64 b.high, .slice WA wn wc, .slice MA mn mc] 25) (h : After w o wr) (h1 : StrsAt w w.heap.size WA wn b.words) (h2 : MsgsAt w w.heap.size MA mn b.msgs) (h3 : wn ≤ wc) (h4 : mn ≤ mc) : Sb w wr w.heap.size b WA wn wc MA mn mc := by
  subst ho
  refine ⟨h.below, Nat.le_refl _, (Below.block h w.heap.size (by simp)).trans (heap_alloc_new w _), fun w3 hs hk => ?_, h3, h4⟩
  have hsz := h.size
  obtain ⟨a, c⟩ := lie_old h1 h2 w3 (by omega) fun k _ hk1 => (hk k (by omega) (by omega)).trans (h.below.block k hk1)
  exact ⟨StrsAt.more a (by omega), MsgsAt.more c (by omega)⟩
/-- A box told by a call, laid in a block of its own. -/
theorem Sb.new {w1 w3 : World} {c : Box} (hb : Below w.heap.size w w3) (hlo : w1.heap.size ≤ w3.heap.size) (h1 : wn ≤ wc) (h2 : mn ≤ mc) (h3 : Lie w1.heap.size w3.heap.size w3 WA wn c.words MA mn c.msgs) :
    Sb w (w3.alloc (.cells #[.string c.id, .int .i64 c.valid, .int .i64 c.next, .int .i64 c.high, .slice WA wn wc, .slice MA mn mc] 25)) w3.heap.size c WA wn wc MA mn mc := by
  refine ⟨hb.alloc hb.size _, hb.size, heap_alloc_new w3 _, fun w4 hs hk => ?_, h1, h2⟩
  obtain ⟨a, d⟩ := h3 w4 (by simp at hs; omega) fun k _ hk1 => (hk k (by simp; omega) (by omega)).trans (Below.heap_alloc _ _ _ hk1)
  exact ⟨StrsAt.more a (by simp), MsgsAt.more d (by simp)⟩
end
/-- The six cells of a box stored over another one's. -/
def put6 (w : World) (P : Nat) (c0 c1 c2 c3 c4 c5 : Value) : World :=
  (((((w.setCell { block := P, off := 0 } c0).setCell { block := P, off := 1 } c1).setCell { block := P, off := 2 } c2).setCell { block := P, off := 3 } c3).setCell { block := P, off := 4 } c4).setCell { block := P, off := 5 } c5
theorem put6_other {w : World} {P k : Nat} (h : k ≠ P) (c0 c1 c2 c3 c4 c5 : Value) : (put6 w P c0 c1 c2 c3 c4 c5).heap[k]? = w.heap[k]? := by
  unfold put6
  iterate 6 rw [Below.heap_setCell _ _ _ _ (by show k ≠ P; exact h)]
theorem put6_size (w : World) (P : Nat) (c0 c1 c2 c3 c4 c5 : Value) : (put6 w P c0 c1 c2 c3 c4 c5).heap.size = w.heap.size := by
  unfold put6; simp [World.setCell]
/-- From now on the block P holds the box that the call told. -/
theorem Sb.put {w wr : World} {P lo hi : Nat} {w3 : World} {b c : Box} {WA MA WA2 MA2 : Option Addr} {wn wc mn mc wn2 wc2 mn2 mc2 : Nat} (h : Sb w wr P b WA wn wc MA mn mc) (hl : Lie lo hi w3 WA2 wn2 c.words MA2 mn2 c.msgs) (h1 : wn2 ≤ wc2) (h2 : mn2 ≤ mc2) (hP : P < lo) (hhi : hi ≤ wr.heap.size)
    (hw : ∀ k, lo ≤ k → k < hi → wr.heap[k]? = w3.heap[k]?) :
    Sb w (put6 wr P (.string c.id) (.int .i64 c.valid) (.int .i64 c.next) (.int .i64 c.high) (.slice WA2 wn2 wc2) (.slice MA2 mn2 mc2)) P c WA2 wn2 wc2 MA2 mn2 mc2 := by
  have hs := put6_size wr P (.string c.id) (.int .i64 c.valid) (.int .i64 c.next) (.int .i64 c.high) (.slice WA2 wn2 wc2) (.slice MA2 mn2 mc2)
  refine ⟨?_, h.low, ?_, fun w4 hs4 hk => ?_, h1, h2⟩
  · unfold put6
    exact (((((h.bel.setCell h.low _).setCell h.low _).setCell h.low _).setCell h.low _).setCell h.low _).setCell h.low _
  · unfold put6
    simp [World.setCell, Array.getElem?_modify, h.blk]
  · rw [hs] at hs4 hk ⊢
    obtain ⟨a, d⟩ := hl w4 (by omega) fun k k1 k2 => ((hk k (by omega) (by omega)).trans (put6_other (by omega) _ _ _ _ _ _)).trans (hw k k1 k2)
    exact ⟨StrsAt.more a hhi, MsgsAt.more d hhi⟩
theorem six_at {wr : World} {L : Nat} {c0 c1 c2 c3 c4 c5 : Value} {t : TypeId} (h : wr.heap[L]? = some (.cells #[c0, c1, c2, c3, c4, c5] t (0, 0))) :
    wr.cell? { block := L, off := 0 } = some c0 ∧ wr.cell? { block := L, off := 1 } = some c1 ∧ wr.cell? { block := L, off := 2 } = some c2 ∧ wr.cell? { block := L, off := 3 } = some c3 ∧ wr.cell? { block := L, off := 4 } = some c4 ∧ wr.cell? { block := L, off := 5 } = some c5 ∧
      wr.frozen? { block := L, off := 0 } = false ∧ wr.frozen? { block := L, off := 1 } = false ∧ wr.frozen? { block := L, off := 2 } = false ∧ wr.frozen? { block := L, off := 3 } = false ∧ wr.frozen? { block := L, off := 4 } = false ∧ wr.frozen? { block := L, off := 5 } = false := by
  have c : ∀ o, wr.cell? { block := L, off := o } = (#[c0, c1, c2, c3, c4, c5] : Array Value)[o]? := fun o => cell_of_row wr L o _ _ _ h
  have f : ∀ o, wr.frozen? { block := L, off := o } = false := fun o => by simp [World.frozen?, h]
  exact ⟨(c 0).trans rfl, (c 1).trans rfl, (c 2).trans rfl, (c 3).trans rfl, (c 4).trans rfl, (c 5).trans rfl, f 0, f 1, f 2, f 3, f 4, f 5⟩
end Go.Proofs.YtdgcihgohkgecaaDoor.RwKit
