/-
  BoxOnce: a box that may be has each UID once, all below Next; each of its messages may be; a message less, it may be still.
-/
import Derived.Test.YtabcfhjfdkbhaaaDoorBxAw
import Derived.Test.YtabcfhjfdkbhaaaDoorBxH
import Derived.Test.YtabcfhjfdkbhaaaDoorBxV
import Derived.Test.YtabcfhjfdkbhaaaDoorBxC
import Derived.Test.YtabcfhjfdkbhaaaDoorBxOp
import Derived.Deep.RegionHeld3
import Derived.Deep.DeepCutAuto
namespace Go.Proofs.YtabcfhjfdkbhaaaDoor.BxOnce
open Go.RowKit Go.Proofs.YtabcfhjfdkbhaaaDoor.BxD Go.Proofs.YtabcfhjfdkbhaaaDoor.BxKit Go.Proofs.YtabcfhjfdkbhaaaDoor.BxA Go.Proofs.YtabcfhjfdkbhaaaDoor.BxB Go.Proofs.YtabcfhjfdkbhaaaDoor.BxF Go.Proofs.YtabcfhjfdkbhaaaDoor.BxO Go.Proofs.YtabcfhjfdkbhaaaDoor.BxR Go.Proofs.YtabcfhjfdkbhaaaDoor.BxV Go.Proofs.YtabcfhjfdkbhaaaDoor.BxC Go.Proofs.YtabcfhjfdkbhaaaDoor.BxH Go.Proofs.YtabcfhjfdkbhaaaDoor.BxM Go.Proofs.YtabcfhjfdkbhaaaDoor.BxAw Go.Proofs.YtabcfhjfdkbhaaaDoor.BxOp

/-- Behind the making of the box's block, which stays; another block stays, too. -/
structure At1 (w : World) (o : Obj) (L : Nat) (x : Obj) (wr : World) : Prop where
  aft : After w o wr
  blk : wr.heap[L]? = some x
section
variable {w wr w2 : World} {o x : Obj} {L : Nat}
theorem At1.lt (h : At1 w o L x wr) : L < wr.heap.size := (Array.getElem?_eq_some_iff.1 h.blk).1
theorem At1.go (h : At1 w o L x wr) (hb : Below wr.heap.size wr w2) : At1 w o L x w2 := ⟨h.aft.go hb, (hb.block L h.lt).trans h.blk⟩
theorem At1.drewN (h : At1 w o L x wr) (n : Nat) : At1 w o L x (wr.drewN n) := h.go (below_drewN (Below.refl _ _) n)
theorem At1.drew (h : At1 w o L x wr) : At1 w o L x wr.drew := h.go (Below.refl _ _).drew
theorem At1.grown {row : Option Nat} (h : At1 w o L x wr) (hg : wr.grownBy w2 row) (hr : ∀ g, row = some g → w.heap.size + 1 ≤ g ∧ g ≠ L) : At1 w o L x w2 :=
  ⟨Below.grown h.aft hg h.aft.size (fun g e => (hr g e).1), (hg.block L h.lt (fun e => (hr L e.symm).2 rfl)).trans h.blk⟩
theorem At1.new (h : After w o wr) (x : Obj) : At1 w o wr.heap.size x (wr.alloc x) := ⟨h.alloc x, heap_alloc_new wr x⟩
end
/-- The same; a message's keys lie in memory. -/
structure Rd (w : World) (o : Obj) (L : Nat) (x : Obj) (K : Option Addr) (kn : Nat) (ks : List Int) (wr : World) : Prop where
  at1 : At1 w o L x wr
  ks : IntsAt wr w.heap.size K kn ks
section
variable {w wr w2 : World} {o x : Obj} {L kn : Nat} {K : Option Addr} {ks : List Int}
theorem Rd.go (h : Rd w o L x K kn ks wr) (hb : Below wr.heap.size wr w2) : Rd w o L x K kn ks w2 := ⟨h.at1.go hb, IntsAt.below h.ks hb h.at1.aft.below.size⟩
theorem Rd.drewN (h : Rd w o L x K kn ks wr) (n : Nat) : Rd w o L x K kn ks (wr.drewN n) := h.go (below_drewN (Below.refl _ _) n)
theorem Rd.drew (h : Rd w o L x K kn ks wr) : Rd w o L x K kn ks wr.drew := h.go (Below.refl _ _).drew
end
theorem empty_row (W : World) : (W.alloc (.cells #[] 28)).drew.ownsRow W.heap.size 28 7 (.slice (some ⟨W.heap.size, 0, none⟩) 0 0) 0 [] :=
  ⟨rfl, .inr ⟨W.heap.size, 0, #[], rfl, Nat.le_refl _, heap_alloc_new W _, Nat.le_refl _, Nat.zero_le _, rfl, rfl⟩⟩
theorem KeysOk.to {w a b : World} {B : Nat} {rs : List Raw} (h : KeysOk a B rs) (ha : Below B w a) (hb : Below B w b) : KeysOk b B rs := fun r hr =>
  ⟨IntsAt.keep (h r hr).1 (Nat.le_refl _) fun _ hp => (hb.cell hp).trans (ha.cell hp).symm, (h r hr).2⟩
theorem KeysOk.app {w : World} {B : Nat} {rs rs' : List Raw} (h : KeysOk w B rs) (h' : KeysOk w B rs') : KeysOk w B (rs ++ rs') := fun r hr => (List.mem_append.1 hr).elim (h r) (h' r)
theorem row_done {w w3 : World} {o : Obj} {L Q n2 c2 : Nat} {c0 c1 c2' c3 c4 c5 : Value} {A2 : Option Addr} {rs : List Raw} {l : List Msg} (h : At1 w o L (.cells #[c0, c1, c2', c3, c4, c5] 25) w3) (ho : w3.ownsRow Q 28 7 (.slice A2 n2 c2) n2 (mc rs)) (hLQ : L < Q) (hL : w.heap.size + 1 ≤ L)
    (hn : n2 ≤ 140737488355328) (hk : KeysOk w3 w.heap.size rs) (hr : rs.map Raw.m = l) :
    At1 w o L (.cells #[c0, c1, c2', c3, c4, .slice A2 n2 c2] 25) (w3.setCell { block := L, off := 5 } (.slice A2 n2 c2)) ∧ MsgsAt (w3.setCell { block := L, off := 5 } (.slice A2 n2 c2)) (w3.setCell { block := L, off := 5 } (.slice A2 n2 c2)).heap.size A2 n2 l := by
  have hb : Below w.heap.size w3 (w3.setCell { block := L, off := 5 } (.slice A2 n2 c2)) := (Below.refl _ _).setCell (show w.heap.size ≤ L by omega) _
  refine ⟨⟨Below.setCell h.aft hL _, by simp [World.setCell, Array.getElem?_modify, h.blk]⟩, ?_⟩
  rw [← hr]
  exact msgsAt_own (ownsRow_setCell_below ho hLQ _) hn fun r hm => ⟨IntsAt.more (IntsAt.below (hk r hm).1 hb (Nat.le_refl _)) (Nat.le_trans h.aft.below.size hb.size), (hk r hm).2⟩
theorem six_cells {wr : World} {L : Nat} {c0 c1 c2 c3 c4 c5 : Value} {t : TypeId} (h : wr.heap[L]? = some (.cells #[c0, c1, c2, c3, c4, c5] t (0, 0))) :
    wr.cell? { block := L, off := 0 } = some c0 ∧ wr.cell? { block := L, off := 1 } = some c1 ∧ wr.cell? { block := L, off := 2 } = some c2 ∧ wr.cell? { block := L, off := 3 } = some c3 ∧ wr.cell? { block := L, off := 4 } = some c4 ∧ wr.cell? { block := L, off := 5 } = some c5 ∧ wr.frozen? { block := L, off := 5 } = false := by
  have c : ∀ o, wr.cell? { block := L, off := o } = (#[c0, c1, c2, c3, c4, c5] : Array Value)[o]? := fun o => cell_of_row wr L o _ _ _ h
  exact ⟨(c 0).trans rfl, (c 1).trans rfl, (c 2).trans rfl, (c 3).trans rfl, (c 4).trans rfl, (c 5).trans rfl, by simp [World.frozen?, h]⟩
/-- A box's block, two more that stay, and messages in memory, all below B. -/
structure At2 (w : World) (o : Obj) (L : Nat) (x : Obj) (T : Nat) (y : Obj) (B : Nat) (A : Option Addr) (n : Nat) (l : List Msg) (wr : World) : Prop where
  at1 : At1 w o L x wr
  blk : wr.heap[T]? = some y
  lw : w.heap.size + 1 ≤ B
  lL : L < B
  lT : T < B
  le : B ≤ wr.heap.size
  ms : MsgsAt wr T A n l
section
variable {w wr w2 : World} {o x y : Obj} {L T B n : Nat} {A : Option Addr} {l : List Msg}
theorem At2.go (h : At2 w o L x T y B A n l wr) (hb : Below B wr w2) : At2 w o L x T y B A n l w2 :=
  ⟨⟨Below.trans h.at1.aft (hb.mono h.lw), (hb.block L h.lL).trans h.at1.blk⟩, (hb.block T h.lT).trans h.blk, h.lw, h.lL, h.lT, Nat.le_trans h.le hb.size, MsgsAt.below h.ms hb (Nat.le_of_lt h.lT)⟩
theorem At2.alloc (h : At2 w o L x T y B A n l wr) (z : Obj) : At2 w o L x T y B A n l (wr.alloc z) := h.go ((Below.refl _ _).alloc h.le _)
theorem At2.drew (h : At2 w o L x T y B A n l wr) : At2 w o L x T y B A n l wr.drew := h.go (Below.refl _ _).drew
theorem At2.grown {row : Option Nat} (h : At2 w o L x T y B A n l wr) (hg : wr.grownBy w2 row) (hr : ∀ g, row = some g → B ≤ g) : At2 w o L x T y B A n l w2 := h.go (Below.grown (Below.refl _ _) hg h.le hr)
end
/-- The two boxes whole: their messages in memory. -/
structure Fin (w : World) (o : Obj) (L : Nat) (x : Obj) (T : Nat) (y : Obj) (A : Option Addr) (n : Nat) (l : List Msg) (A' : Option Addr) (n' : Nat) (l' : List Msg) (wr : World) : Prop where
  at1 : At1 w o L x wr
  blk : wr.heap[T]? = some y
  ms : MsgsAt wr wr.heap.size A n l
  ms' : MsgsAt wr wr.heap.size A' n' l'
section
variable {w wr w2 : World} {o x y : Obj} {L T n n' : Nat} {A A' : Option Addr} {l l' : List Msg}
theorem Fin.lt (h : Fin w o L x T y A n l A' n' l' wr) : T < wr.heap.size := (Array.getElem?_eq_some_iff.1 h.blk).1
theorem Fin.go (h : Fin w o L x T y A n l A' n' l' wr) (hb : Below wr.heap.size wr w2) : Fin w o L x T y A n l A' n' l' w2 :=
  ⟨h.at1.go hb, (hb.block T h.lt).trans h.blk, MsgsAt.more (MsgsAt.below h.ms hb (Nat.le_refl _)) hb.size, MsgsAt.more (MsgsAt.below h.ms' hb (Nat.le_refl _)) hb.size⟩
theorem Fin.drew (h : Fin w o L x T y A n l A' n' l' wr) : Fin w o L x T y A n l A' n' l' wr.drew := h.go (Below.refl _ _).drew
end
theorem row_done2 {w w3 : World} {o x : Obj} {L T B n n2 c2 : Nat} {c0 c1 c2' c3 c4 c5 : Value} {A A2 : Option Addr} {rs : List Raw} {l l2 : List Msg} (h : At2 w o L x T (.cells #[c0, c1, c2', c3, c4, c5] 25) B A n l w3) (ho : w3.ownsRow B 28 7 (.slice A2 n2 c2) n2 (mc rs)) (hLT : L ≠ T) (hT : w.heap.size + 1 ≤ T)
    (hn : n2 ≤ 140737488355328) (hk : KeysOk w3 w.heap.size rs) (hr : rs.map Raw.m = l2) :
    Fin w o L x T (.cells #[c0, c1, c2', c3, c4, .slice A2 n2 c2] 25) A n l A2 n2 l2 (w3.setCell { block := T, off := 5 } (.slice A2 n2 c2)) := by
  have hb : Below T w3 (w3.setCell { block := T, off := 5 } (.slice A2 n2 c2)) := (Below.refl _ _).setCell (show T ≤ T from Nat.le_refl _) _
  have hs : T ≤ (w3.setCell { block := T, off := 5 } (.slice A2 n2 c2)).heap.size := Nat.le_trans (Nat.le_of_lt h.lT) (Nat.le_trans h.le hb.size)
  refine ⟨⟨Below.setCell h.at1.aft hT _, (Below.heap_setCell _ _ _ _ hLT).trans h.at1.blk⟩, by simp [World.setCell, Array.getElem?_modify, h.blk], MsgsAt.more (MsgsAt.below h.ms hb (Nat.le_refl _)) hs, ?_⟩
  rw [← hr]
  exact msgsAt_own (ownsRow_setCell_below ho h.lT _) hn fun r hm => ⟨IntsAt.more (IntsAt.below (hk r hm).1 hb (by omega)) (by omega), (hk r hm).2⟩
/-- A message's cells, as the walk spells them. -/
def C7 (p : Addr) (c0 c1 c2 c3 c4 c5 c6 : Value) (wr : World) : Prop :=
  wr.cell? p = some c0 ∧ wr.cell? { block := p.block, off := p.off + 1 } = some c1 ∧ wr.cell? { block := p.block, off := p.off + 2 } = some c2 ∧ wr.cell? { block := p.block, off := p.off + 3 } = some c3 ∧ wr.cell? { block := p.block, off := p.off + 4 } = some c4 ∧ wr.cell? { block := p.block, off := p.off + 5 } = some c5 ∧ wr.cell? { block := p.block, off := p.off + 6 } = some c6
theorem C7.to {w a b : World} {p : Addr} {c0 c1 c2 c3 c4 c5 c6 : Value} (h : C7 p c0 c1 c2 c3 c4 c5 c6 a) (hp : p.block < w.heap.size) (ha : Below w.heap.size w a) (hb : Below w.heap.size w b) : C7 p c0 c1 c2 c3 c4 c5 c6 b := by
  have e : ∀ q : Addr, q.block = p.block → b.cell? q = a.cell? q := fun q hq => (hb.cell (by omega)).trans (ha.cell (by omega)).symm
  obtain ⟨h0, h1, h2, h3, h4, h5, h6⟩ := h
  exact ⟨(e _ rfl).trans h0, (e { block := p.block, off := p.off + 1 } rfl).trans h1, (e { block := p.block, off := p.off + 2 } rfl).trans h2, (e { block := p.block, off := p.off + 3 } rfl).trans h3, (e { block := p.block, off := p.off + 4 } rfl).trans h4, (e { block := p.block, off := p.off + 5 } rfl).trans h5, (e { block := p.block, off := p.off + 6 } rfl).trans h6⟩
theorem src_blk {w : World} {g m sz : Nat} {cs : Array Value} {t : TypeId} (h : w.heap[g]? = some (.cells cs t (0, 0))) (hl : cs.size = m * sz) (h1 : ∀ u ∈ cs.toList, u.oneCell' = true) : Src w (some ⟨g, 0, none⟩) m sz cs.toList :=
  ⟨by simpa using hl, h1, fun _ => ⟨_, rfl, fun j u hu => by rw [add_new, cell_of_row _ g j cs t (0, 0) h]; simpa using hu⟩⟩
theorem empty_at {W : World} {base b : Nat} (h : W.heap[b]? = some (.cells #[] 28 (0, 0))) (hb : base ≤ b) : W.ownsRow base 28 7 (.slice (some ⟨b, 0, none⟩) 0 0) 0 [] :=
  ⟨rfl, .inr ⟨b, 0, #[], rfl, hb, h, Nat.le_refl _, Nat.zero_le _, rfl, rfl⟩⟩
theorem at_two (w : World) (a b : Obj) : ((w.alloc a).alloc b).drew.heap[w.heap.size]? = some a ∧ ((w.alloc a).alloc b).drew.heap[w.heap.size + 1]? = some b ∧ ((w.alloc a).alloc b).drew.heap.size = w.heap.size + 2 := by
  refine ⟨?_, ?_, ?_⟩
  · show ((w.heap.push _).push _)[_]? = _
    rw [Array.getElem?_push, if_neg (by simp), Array.getElem?_push, if_pos rfl]
  · show ((w.heap.push _).push _)[_]? = _
    rw [Array.getElem?_push, if_pos (by simp)]
  · show ((w.heap.push _).push _).size = _
    simp
theorem mc_one1 {u md d fl : Int} {id tx : ByteArray} {K : Option Addr} {kn kc : Nat} (ks : List Int) (h : ks.length = kn) : mc [⟨⟨u, md, d, id, fl, ks, tx⟩, K, kc⟩] = (#[.int .i64 u, .int .i64 md, .int .i64 d, .string id, .int .i64 fl, .slice K kn kc, .string tx] : Array Value).toList := by
  rw [← h]; rfl
theorem keys_one {w : World} {B kc : Nat} {K : Option Addr} {m : Msg} (h : IntsAt w B K m.keys.length m.keys) (hc : m.keys.length ≤ kc) (h3 : m.id.size ≤ 140737488355328) (h4 : m.text.size ≤ 140737488355328) : KeysOk w B [⟨m, K, kc⟩] := fun r hr => by
  obtain rfl := List.mem_singleton.1 hr
  exact ⟨h, hc, h3, h4⟩
theorem pick_k (x : Int) {mn : Nat} (h0 : 0 < mn) (h : mn ≤ 100) : ∃ k : Nat, k < mn ∧ wrap64 ((IntKind.u64.wrap x).tmod (mn : Int)) = (k : Int) := by
  have h0 : 0 ≤ IntKind.u64.wrap x := by
    rw [show IntKind.u64.wrap x = x % 18446744073709551616 from rfl]
    exact Int.emod_nonneg _ (by decide)
  have h1 := Int.tmod_nonneg (mn : Int) h0
  have h2 := Int.tmod_lt_of_pos (IntKind.u64.wrap x) (show (0 : Int) < (mn : Int) by omega)
  refine ⟨((IntKind.u64.wrap x).tmod mn).toNat, by omega, ?_⟩
  rw [Int.toNat_of_nonneg h1]
  exact IntWalk.wrap64_in _ (by omega)
theorem seven_cells {wr : World} {L : Nat} {c0 c1 c2 c3 c4 c5 c6 : Value} {t : TypeId} (h : wr.heap[L]? = some (.cells #[c0, c1, c2, c3, c4, c5, c6] t (0, 0))) :
    wr.cell? { block := L, off := 0 } = some c0 ∧ wr.cell? { block := L, off := 1 } = some c1 ∧ wr.cell? { block := L, off := 2 } = some c2 ∧ wr.cell? { block := L, off := 3 } = some c3 ∧ wr.cell? { block := L, off := 4 } = some c4 ∧ wr.cell? { block := L, off := 5 } = some c5 ∧ wr.cell? { block := L, off := 6 } = some c6 := by
  have c : ∀ o, wr.cell? { block := L, off := o } = (#[c0, c1, c2, c3, c4, c5, c6] : Array Value)[o]? := fun o => cell_of_row wr L o _ _ _ h
  exact ⟨(c 0).trans rfl, (c 1).trans rfl, (c 2).trans rfl, (c 3).trans rfl, (c 4).trans rfl, (c 5).trans rfl, (c 6).trans rfl⟩

theorem Rd.facts {bid id tx : ByteArray} {bv bn bh u md d fl : Int} {WA MA K : Option Addr} {wn wcp mn mcp kn kc L : Nat} {ks : List Int} {w wr : World}
    (h : Rd w (.cells #[.string bid, .int .i64 bv, .int .i64 bn, .int .i64 bh, .slice WA wn wcp, .slice MA mn mcp] 25) L (.cells #[.int .i64 u, .int .i64 md, .int .i64 d, .string id, .int .i64 fl, .slice K kn kc, .string tx] 28) K kn ks wr) : wr.cell? { block := w.heap.size, off := 0 } = some (.string bid) ∧ wr.cell? { block := w.heap.size, off := 1 } = some (.int .i64 bv) ∧ wr.cell? { block := w.heap.size, off := 2 } = some (.int .i64 bn) ∧ wr.cell? { block := w.heap.size, off := 3 } = some (.int .i64 bh) ∧ wr.cell? { block := w.heap.size, off := 4 } = some (.slice WA wn wcp) ∧ wr.cell? { block := w.heap.size, off := 5 } = some (.slice MA mn mcp) ∧ wr.cell? { block := L, off := 0 } = some (.int .i64 u) ∧ wr.cell? { block := L, off := 1 } = some (.int .i64 md) ∧ wr.cell? { block := L, off := 2 } = some (.int .i64 d) ∧ wr.cell? { block := L, off := 3 } = some (.string id) ∧ wr.cell? { block := L, off := 4 } = some (.int .i64 fl) ∧ wr.cell? { block := L, off := 5 } = some (.slice K kn kc) ∧ wr.cell? { block := L, off := 6 } = some (.string tx) := by
  obtain ⟨b0, b1, b2, b3, b4, b5⟩ := h.at1.aft.box
  exact ⟨b0, b1, b2, b3, b4, b5, seven_cells h.at1.blk⟩

set_option maxHeartbeats 4000000 in
set_option maxRecDepth 100000 in
theorem walk {bid : ByteArray} {bv bn bh x : Int} {WA MA : Option Addr} {wn wcp mn mcp : Nat} {ws : List ByteArray} {ms : List Msg} {w : World} (ht : Tab w)
    (h1 : StrsAt w w.heap.size WA wn ws) (h2 : MsgsAt w w.heap.size MA mn ms) (hwc : wn ≤ wcp) (hmc : mn ≤ mcp) (z1 : bid.size ≤ 140737488355328) :
    Calls Tryd.prog 5 #[.agg #[.string bid, .int .i64 bv, .int .i64 bn, .int .i64 bh, .slice WA wn wcp, .slice MA mn mcp], .int .i64 x] w fun e w' => e = .returned (.bool true) ∧ Below w.heap.size w w' := by
  have KH := fun o => heavy_any (bid := bid) (bv := bv) (bn := bn) (bh := bh) (wc := wcp) (mc := mcp) (StrsAt.below h1 ((Below.refl _ w).alloc (Nat.le_refl _) o) (Nat.le_refl _)) (MsgsAt.below h2 ((Below.refl _ w).alloc (Nat.le_refl _) o) (Nat.le_refl _)) (by simp) (by simp) z1
  have KM := fun (wr : World) (h : After w (.cells #[.string bid, .int .i64 bv, .int .i64 bn, .int .i64 bh, .slice WA wn wcp, .slice MA mn mcp] 25) wr) => may_box (bid := bid) (bv := bv) (bn := bn) (bh := bh) (wc := wcp) (mc := mcp) (StrsAt.below h1 h.below (Nat.le_refl _)) (MsgsAt.below h2 h.below (Nat.le_refl _)) h.below.size hwc
  have HAW := Lib.hid (fun (wr : World) (h : Below w.heap.size w wr) => awake (ht.below h (Nat.le_refl _)))
  have HS := Lib.hid (After.start w (.cells #[.string bid, .int .i64 bv, .int .i64 bn, .int .i64 bh, .slice WA wn wcp, .slice MA mn mcp] 25))
  have HX := Lib.hid h1
  have HM := Lib.hid h2
  have HWC := Lib.hid hwc
  clear h1 h2 ht hwc
  rcases hv_or bid ws ms with hh | ⟨hh, hw1, hm1, hk1⟩
  · simp only [hh] at KH
    have K1 := Lib.hid KH
    clear KH hh KM
    go_enter Tryd.func5, Tryd.ntmps5
    go_wp2_with fail
    refine (K1.out _).mono ?_
    rintro e w1 ⟨rfl, hb1⟩
    have HB := Lib.hid (HS.out.go hb1).below
    clear hb1
    go_wp2_with (go_at_call 10; refine (HAW.out _ HB.out).mono ?_; rintro e w2 ⟨rfl, hb2⟩)
    go_ret
    exact ⟨rfl, HB.out.trans (hb2.mono HB.out.size)⟩
  simp only [hh] at KH
  have K1 := Lib.hid KH
  clear KH hh
  rw [HX.out.len] at hw1
  rw [HM.out.len] at hm1
  have HK1 := Lib.hid hk1
  clear hk1
  obtain ⟨em, hem⟩ : ∃ em, em = mbE ⟨bid, bv, bn, bh, ws, ms⟩ := ⟨_, rfl⟩
  rw [← hem] at KM
  have K2 := Lib.hid KM
  clear KM
  by_cases he : em = 0
  case neg =>
    have hne : (em != 0) = true := by simpa using he
    clear he hem
    go_enter Tryd.func5, Tryd.ntmps5
    go_wp2_with fail
    refine (K1.out _).mono ?_
    rintro e w1 ⟨rfl, hb1⟩
    have HB := Lib.hid (HS.out.go hb1)
    obtain ⟨b0, b1, b2, b3, b4, b5⟩ := HB.out.box
    clear hb1
    go_wp2_with fail
    refine (K2.out _ HB.out).mono ?_
    rintro e w2 ⟨rfl, hb2⟩
    have HB2 := Lib.hid (HB.out.go hb2).below
    clear hb2
    go_wp2_with (go_at_call 10; refine (HAW.out _ HB2.out).mono ?_; rintro e w2 ⟨rfl, hb2⟩)
    go_ret
    exact ⟨rfl, HB2.out.trans (hb2.mono HB2.out.size)⟩
  subst he
  have HE := Lib.hid hem.symm
  clear hem
  go_enter Tryd.func5, Tryd.ntmps5
  go_wp2_with fail
  refine (K1.out _).mono ?_
  rintro e w1 ⟨rfl, hb1⟩
  have HB := Lib.hid (HS.out.go hb1)
  obtain ⟨b0, b1, b2, b3, b4, b5⟩ := HB.out.box
  clear hb1 HS K1
  go_wp2_with fail
  refine (K2.out _ HB.out).mono ?_
  rintro e w2 ⟨rfl, hb2⟩
  have HB2 := Lib.hid (HB.out.go hb2)
  clear b0 b1 b2 b3 b4 b5 hb2 HB K2
  obtain ⟨b0, b1, b2, b3, b4, b5⟩ := HB2.out.box
  go_wp2_with fail
  go_loopw [21] (fun s21 wr => ∃ k : Nat, k ≤ mn ∧ s21 = .int .i64 k ∧ Hid (After w (.cells #[.string bid, .int .i64 bv, .int .i64 bn, .int .i64 bh, .slice WA wn wcp, .slice MA mn mcp] 25) wr)) (fun s21 _ => mn - (intOf s21).toNat)
  case atStart => exact ⟨0, Nat.zero_le _, rfl, HB2⟩
  case round =>
    clear HB2 b0 b1 b2 b3 b4 b5
    obtain ⟨k, hk, rfl, HA⟩ := hrel
    by_cases hlt : k < mn
    · obtain ⟨ad, u, md, d, id, fl, ks, tx, K, kn, kc, rfl, _, e1, c0, c1, c2, c3, c4, c5, c6, hkc, hks, _, _⟩ := MsgsAt.sp HM.out HA.out.below (Nat.le_refl _) hlt
      obtain ⟨hu1, hu2, hmd, hfi, hmm, hwl⟩ := once (b := ⟨bid, bv, bn, bh, ws, ms⟩) HE.out e1
      go_upto_region 6 with fail
      have HN := Lib.hid (show Rd w (.cells #[.string bid, .int .i64 bv, .int .i64 bn, .int .i64 bh, .slice WA wn wcp, .slice (some ad) mn mcp] 25) wr.heap.size (.cells #[.int .i64 u, .int .i64 md, .int .i64 d, .string id, .int .i64 fl, .slice K kn kc, .string tx] 28) K kn ks _ from ⟨At1.new HA.out _, IntsAt.below hks ((Below.refl _ _).alloc (Nat.le_refl _) _) HA.out.below.size⟩)
      obtain ⟨L, hL⟩ : ∃ L, L = wr.heap.size := ⟨_, rfl⟩
      rw [← hL] at HN ⊢
      have hkn := hks.len
      have h6 : kn ≤ 60000 := by rw [← hkn]; exact HK1.out _ (List.mem_of_getElem? e1)
      clear hL c0 c1 c2 c3 c4 c5 c6 hks
      generalize (World.alloc wr _) = W at HN ⊢
      have k1 := fun (wr : World) (h : Rd w (.cells #[.string bid, .int .i64 bv, .int .i64 bn, .int .i64 bh, .slice WA wn wcp, .slice (some ad) mn mcp] 25) L (.cells #[.int .i64 u, .int .i64 md, .int .i64 d, .string id, .int .i64 fl, .slice K kn kc, .string tx] 28) K kn ks wr) => find_any (bid := bid) (bv := bv) (bn := bn) (bh := bh) (uid := u) (WA := WA) (wn := wn) (wc := wcp) (mc := mcp) (MsgsAt.below HM.out h.at1.aft.below (Nat.le_refl _)) h.at1.aft.below.size
      have k2 := fun (wr : World) (h : Rd w (.cells #[.string bid, .int .i64 bv, .int .i64 bn, .int .i64 bh, .slice WA wn wcp, .slice (some ad) mn mcp] 25) L (.cells #[.int .i64 u, .int .i64 md, .int .i64 d, .string id, .int .i64 fl, .slice K kn kc, .string tx] 28) K kn ks wr) => mayMsg_cells (bid := bid) (id := id) (tx := tx) (bv := bv) (bn := bn) (bh := bh) (u := u) (md := md) (d := d) (fl := fl) (WA := WA) (MA := some ad) (wn := wn) (wc := wcp) (mn := mn) (mc := mcp) (kc := kc) h.ks h.at1.aft.below.size HX.out.max
      have k3 := fun (wr : World) (h : Rd w (.cells #[.string bid, .int .i64 bv, .int .i64 bn, .int .i64 bh, .slice WA wn wcp, .slice (some ad) mn mcp] 25) L (.cells #[.int .i64 u, .int .i64 md, .int .i64 d, .string id, .int .i64 fl, .slice K kn kc, .string tx] 28) K kn ks wr) => words_any (bid := bid) (id := id) (tx := tx) (bv := bv) (bn := bn) (bh := bh) (u := u) (md := md) (d := d) (fl := fl) (MA := some ad) (wc := wcp) (mn := mn) (mc := mcp) (kc := kc) (StrsAt.below HX.out h.at1.aft.below (Nat.le_refl _)) h.ks h.at1.aft.below.size h.at1.aft.below.size h6
      have hfi' : findI ms u = (k : Int) := hfi
      have hmm' : mmE wn ⟨u, md, d, id, fl, ks, tx⟩ = 0 := by have := HX.out.len; subst this; exact hmm
      have HWL := Lib.hid (show (wordsOf ws ks).length = kn by rw [← hkn]; exact hwl)
      rw [hfi'] at k1
      rw [hmm'] at k2
      have K1 := Lib.hid k1
      have K2 := Lib.hid k2
      have K3 := Lib.hid k3
      have g1 : decide (bn ≤ u) = false := decide_eq_false (by have : u < bn := hu2; omega)
      have g2 : decide (u < 1) = false := decide_eq_false (by have : 1 ≤ u := hu1; omega)
      have g3 : decide (bh < md) = false := decide_eq_false (by have : md ≤ bh := hmd; omega)
      have g4 : ((k : Int) != (k : Int)) = false := by simp
      have g5 : ((0 : Int) != 0) = false := by simp
      have g6 : ((kn : Int) != (kn : Int)) = false := by simp
      clear hfi hfi' hmm hmm' hwl hu1 hu2 hmd k1 k2 k3 e1 HA
      obtain ⟨b0, b1, b2, b3, b4, b5⟩ := HN.out.at1.aft.box
      obtain ⟨m0, m1, m2, m3, m4, m5, m6⟩ := seven_cells HN.out.at1.blk
      go_region_held3 (fun wr => wr.cell? { block := w.heap.size, off := 0 } = some (.string bid) ∧ wr.cell? { block := w.heap.size, off := 1 } = some (.int .i64 bv) ∧ wr.cell? { block := w.heap.size, off := 2 } = some (.int .i64 bn) ∧ wr.cell? { block := w.heap.size, off := 3 } = some (.int .i64 bh) ∧ wr.cell? { block := w.heap.size, off := 4 } = some (.slice WA wn wcp) ∧ wr.cell? { block := w.heap.size, off := 5 } = some (.slice (some ad) mn mcp) ∧ wr.cell? { block := L, off := 0 } = some (.int .i64 u) ∧ wr.cell? { block := L, off := 1 } = some (.int .i64 md) ∧ wr.cell? { block := L, off := 2 } = some (.int .i64 d) ∧ wr.cell? { block := L, off := 3 } = some (.string id) ∧ wr.cell? { block := L, off := 4 } = some (.int .i64 fl) ∧ wr.cell? { block := L, off := 5 } = some (.slice K kn kc) ∧ wr.cell? { block := L, off := 6 } = some (.string tx)) (first
        | exact Rd.facts H1.out | exact Rd.facts H2.out | exact Rd.facts H3.out | exact Rd.facts HN.out | exact Rd.facts (HN.out.drew) | go_keep) (first
        | (go_at_call 17
           ((with_reducible refine (K1.out _ ?d1).mono ?_); rotate_left)
           case d1 => first | exact HN.out | exact HN.out.drew | exact HN.out.drewN _
           rintro e v1 ⟨rfl, hb1⟩
           have H1 := Lib.hid (show Rd w (.cells #[.string bid, .int .i64 bv, .int .i64 bn, .int .i64 bh, .slice WA wn wcp, .slice (some ad) mn mcp] 25) L (.cells #[.int .i64 u, .int .i64 md, .int .i64 d, .string id, .int .i64 fl, .slice K kn kc, .string tx] 28) K kn ks v1 by first | exact HN.out.go hb1 | exact (HN.out.drew).go hb1 | exact (HN.out.drewN _).go hb1)
           clear hb1
           dsimp only)
        | (go_at_call 13
           ((with_reducible refine (K2.out _ ?d2).mono ?_); rotate_left)
           case d2 => first | exact H1.out | exact H1.out.drew | exact H1.out.drewN _
           rintro e v2 ⟨rfl, hb2⟩
           have H2 := Lib.hid (show Rd w (.cells #[.string bid, .int .i64 bv, .int .i64 bn, .int .i64 bh, .slice WA wn wcp, .slice (some ad) mn mcp] 25) L (.cells #[.int .i64 u, .int .i64 md, .int .i64 d, .string id, .int .i64 fl, .slice K kn kc, .string tx] 28) K kn ks v2 by first | exact H1.out.go hb2 | exact (H1.out.drew).go hb2 | exact (H1.out.drewN _).go hb2)
           clear hb2
           dsimp only)
        | (go_at_call 22
           ((with_reducible refine (K3.out _ ?d3).mono ?_); rotate_left)
           case d3 => first | exact H2.out | exact H2.out.drew | exact H2.out.drewN _
           rintro e v3 ⟨A3, n3, c3, rfl, hn3, hs3, hb3⟩
           obtain rfl : kn = n3 := by rw [← hs3.len]; exact HWL.out.symm
           have H3 := Lib.hid (show Rd w (.cells #[.string bid, .int .i64 bv, .int .i64 bn, .int .i64 bh, .slice WA wn wcp, .slice (some ad) mn mcp] 25) L (.cells #[.int .i64 u, .int .i64 md, .int .i64 d, .string id, .int .i64 fl, .slice K kn kc, .string tx] 28) K kn ks v3 by first | exact H2.out.go hb3 | exact (H2.out.drew).go hb3 | exact (H2.out.drewN _).go hb3)
           clear hb3 hs3 hn3
           dsimp only))
      all_goals
        go_wp2_with fail
        go_roundw
        case rel => exact ⟨k + 1, by omega, by go_num, Lib.hid H3.out.at1.aft⟩
        case measure => simp [intOf]; omega
    · obtain rfl : mn = k := by omega
      obtain ⟨b0, b1, b2, b3, b4, b5⟩ := HA.out.box
      by_cases h0 : mn = 0
      · subst h0
        have hms : ms = [] := List.eq_nil_of_length_eq_zero HM.out.len
        subst hms
        have KU := Lib.hid (unseen_any (bid := bid) (bv := bv) (bn := bn) (bh := bh) (WA := WA) (wn := wn) (wc := wcp) (mc := mcp) (MsgsAt.below HM.out HA.out.below (Nat.le_refl _)) HA.out.below.size)
        have hu0 : unI [] = 0 := rfl
        go_wp2_with fail
        refine KU.out.mono ?_
        rintro e w3 ⟨rfl, hb3⟩
        have HB3 := Lib.hid (HA.out.go hb3).below
        rw [hu0]
        clear hb3
        go_wp2_with (go_at_call 10; refine (HAW.out _ HB3.out).mono ?_; rintro e w4 ⟨rfl, hb4⟩)
        go_ret
        exact ⟨rfl, HB3.out.trans (hb4.mono HB3.out.size)⟩
      obtain ⟨k, hkm, hkk⟩ := pick_k x (mn := mn) (by omega) hm1
      have hmw : IntKind.u64.wrap (mn : Int) = (mn : Int) := by
        rw [show IntKind.u64.wrap (mn : Int) = (mn : Int) % 18446744073709551616 from rfl]; omega
      have hmz : ((mn : Int) == 0) = false := by rw [beq_eq_false_iff_ne]; omega
      clear h0
      go_upto_region 13 with fail
      have HN := Lib.hid (At1.new HA.out (.cells #[.string bid, .int .i64 bv, .int .i64 bn, .int .i64 bh, .slice WA wn wcp, .slice MA mn mcp] 25))
      obtain ⟨L, hL⟩ : ∃ L, L = wr.heap.size := ⟨_, rfl⟩
      rw [← hL] at HN ⊢
      have hLb : w.heap.size + 1 ≤ L := by rw [hL]; exact HA.out.size
      clear hL b0 b1 b2 b3 b4 b5 HA
      generalize (World.alloc wr _) = W at HN ⊢
      rw [hkk]
      clear hkk
      have g0 : IntKind.i64.wrap ((k : Int) + 1) = (k : Int) + 1 := IntWalk.i64_in _ (by omega)
      have g1 : (0 : Int) ≤ (k : Int) + 1 := by omega
      have g2 : ((k : Int) + 1).toNat = k + 1 := by omega
      have g3 : k ≤ mcp := by omega
      have g4 : k + 1 ≤ mcp := by omega
      have g5 : k + 1 ≤ mn := by omega
      have g6 : (k : Int) ≤ (mcp : Int) := by omega
      have g7 : (k : Int) + 1 ≤ (mcp : Int) := by omega
      have g8 : (k : Int) + 1 ≤ (mn : Int) := by omega
      have HE := Lib.hid (empty_row W)
      have X1 := Lib.hid (show At1 w (.cells #[.string bid, .int .i64 bv, .int .i64 bn, .int .i64 bh, .slice WA wn wcp, .slice MA mn mcp] 25) L (.cells #[.string bid, .int .i64 bv, .int .i64 bn, .int .i64 bh, .slice WA wn wcp, .slice MA mn mcp] 25) (W.alloc (.cells #[] 28)).drew from (HN.out.go ((Below.refl _ _).alloc (Nat.le_refl _) _)).drew)
      obtain ⟨b0, b1, b2, b3, b4, b5⟩ := HN.out.aft.box
      go_cut [98] (fun s98 wx => ∃ (A2 : Option Addr) (c2 n2 : Nat), s98 = .slice A2 n2 c2 ∧ n2 ≤ c2 ∧ Hid (At1 w (.cells #[.string bid, .int .i64 bv, .int .i64 bn, .int .i64 bh, .slice WA wn wcp, .slice MA mn mcp] 25) L (.cells #[.string bid, .int .i64 bv, .int .i64 bn, .int .i64 bh, .slice WA wn wcp, .slice A2 n2 c2] 25) wx) ∧ Hid (MsgsAt wx wx.heap.size A2 n2 (lessL ms k)))
      case first =>
        obtain ⟨rs1, hr1, hk1, hs1⟩ := msgs_raw (MsgsAt.below (RowAt.take HM.out (Nat.le_of_lt hkm)) X1.out.aft.below (Nat.le_refl _))
        have HS1 := Lib.hid hs1
        have HR1 := Lib.hid hr1
        have HK1' := Lib.hid hk1
        have hbs : W.heap.size ≤ (W.alloc (.cells #[] 28)).drew.heap.size := by show _ ≤ (W.alloc _).heap.size; simp
        clear hr1 hk1 hs1
        go_region_held3 (fun wr => wr.cell? { block := w.heap.size, off := 5 } = some (.slice MA mn mcp)) (first | exact hS2 | exact hS3 | exact hS4 _ | go_keep) (first
          | (refine step_rows elM (c := mcp) rfl (.tmp 87) (.tmp 91) rfl (by simp [Act.eval]) (by simp [Act.eval]) HE.out HS1.out (by unfold maxLen; omega) (by omega) hbs ?_
             intro v1 w2 hown1 hg1 _
             have X2 := Lib.hid (X1.out.grown hg1 (fun g e => by
               have e2 : W.heap.size = g := Option.some.inj e
               have h1 := HN.out.lt
               exact ⟨by omega, by omega⟩))
             have hS2 := X2.out.aft.box.2.2.2.2.2
             have hq2 := Nat.le_trans hbs hg1.size
             rw [Nat.zero_add, List.nil_append] at hown1
             obtain ⟨rs2, hr2, hk2, hs2⟩ := msgs_raw (MsgsAt.below (RowAt.cut HM.out g5 hmc) X2.out.aft.below (Nat.le_refl _))
             have HS2 := Lib.hid hs2
             have HR2 := Lib.hid hr2
             have HK2 := Lib.hid hk2
             have HO1 := Lib.hid hown1
             clear hown1 hg1 hs2 hr2 hk2
             dsimp only)
          | (refine step_rows elM (c := mcp - (k + 1)) rfl (.tmp 92) (.tmp 97) rfl (by simp [Act.eval]) (by simp [Act.eval]) HO1.out HS2.out (by unfold maxLen; omega) (by omega) hq2 ?_
             intro v2 w3 hown2 hg2 _
             have X3 := Lib.hid (X2.out.grown hg2 (fun g e => by
               have h2 := (HO1.out.lt g e).1
               have h1 := HN.out.lt
               exact ⟨by omega, by omega⟩))
             have hS3 := X3.out.aft.box.2.2.2.2.2
             obtain ⟨A2, c2, rfl, hc2⟩ := own_slice hown2
             rw [← mc_append] at hown2
             have HO2 := Lib.hid hown2
             obtain ⟨_, _, _, _, _, q5, q6⟩ := six_cells X3.out.blk
             have hS4 : ∀ z, (w3.setCell { block := L, off := 5 } z).cell? { block := w.heap.size, off := 5 } = some (.slice MA mn mcp) := fun z => (World.cell?_of_block (w := w3) (a := { block := w.heap.size, off := 5 }) (Below.heap_setCell _ _ _ _ (by show w.heap.size ≠ L; omega))).trans hS3
             clear hown2 hg2
             dsimp only))
        all_goals
          have HD := row_done X3.out HO2.out HN.out.lt hLb (by omega) (KeysOk.app (KeysOk.to HK1'.out X1.out.aft.below X3.out.aft.below) (KeysOk.to HK2.out X2.out.aft.below X3.out.aft.below)) (l := lessL ms k) (by rw [List.map_append, HR1.out, HR2.out]; rfl)
          have HD1 := Lib.hid HD.1
          have HD2 := Lib.hid HD.2
          clear HD
          go_step
          go_step
          go_meet
          exact ⟨A2, c2, _, rfl, hc2, HD1, HD2⟩
      case rest =>
        obtain ⟨A2, c2, n2, rfl, hc2, HL, HLM⟩ := hcut
        have hLl := HL.out.lt
        clear HN HE X1 b0 b1 b2 b3 b4 b5
        obtain ⟨b0, b1, b2, b3, b4, b5⟩ := HL.out.aft.box
        go_upto_region 15 with fail
        obtain ⟨T, hT⟩ : ∃ T, T = wc.heap.size := ⟨_, rfl⟩
        have H0 := Lib.hid (show At2 w (.cells #[.string bid, .int .i64 bv, .int .i64 bn, .int .i64 bh, .slice WA wn wcp, .slice MA mn mcp] 25) L (.cells #[.string bid, .int .i64 bv, .int .i64 bn, .int .i64 bh, .slice WA wn wcp, .slice A2 n2 c2] 25) T (.cells #[.string bid, .int .i64 bv, .int .i64 bn, .int .i64 bh, .slice WA wn wcp, .slice MA mn mcp] 25) (wc.heap.size + 1) A2 n2 (lessL ms k) (wc.alloc (.cells #[.string bid, .int .i64 bv, .int .i64 bn, .int .i64 bh, .slice WA wn wcp, .slice MA mn mcp] 25)) from
          ⟨HL.out.go ((Below.refl _ _).alloc (Nat.le_refl _) _), by rw [hT]; exact heap_alloc_new wc _, by have := HL.out.aft.size; omega, by omega, by omega, by simp, by rw [hT]; exact MsgsAt.below HLM.out ((Below.refl _ _).alloc (Nat.le_refl _) _) (Nat.le_refl _)⟩)
        have hWs : (wc.alloc (.cells #[.string bid, .int .i64 bv, .int .i64 bn, .int .i64 bh, .slice WA wn wcp, .slice MA mn mcp] 25)).heap.size = wc.heap.size + 1 := by simp
        rw [← hT] at H0 hLl hWs ⊢
        have hTb : w.heap.size + 1 ≤ T := by rw [hT]; exact HL.out.aft.size
        clear hT b0 b1 b2 b3 b4 b5 HL HLM
        generalize (World.alloc wc _) = W at H0 hWs ⊢
        have HN := Lib.hid (show At2 w (.cells #[.string bid, .int .i64 bv, .int .i64 bn, .int .i64 bh, .slice WA wn wcp, .slice MA mn mcp] 25) L (.cells #[.string bid, .int .i64 bv, .int .i64 bn, .int .i64 bh, .slice WA wn wcp, .slice A2 n2 c2] 25) T (.cells #[.string bid, .int .i64 bv, .int .i64 bn, .int .i64 bh, .slice WA wn wcp, .slice MA mn mcp] 25) W.heap.size A2 n2 (lessL ms k) W by rw [hWs]; exact H0.out)
        clear H0
        obtain ⟨b0, b1, b2, b3, b4, b5⟩ := HN.out.at1.aft.box
        obtain ⟨ad, u, md, d, id, fl, ks, tx, K, kn, kc, rfl, hpb0, e1, c0, c1, c2_, c3, c4, c5_, c6, hkc, hks, hz3, hz4⟩ := MsgsAt.sp HM.out HN.out.at1.aft.below (Nat.le_refl _) hkm
        have hpb : (ad.add (k * 7)).block < w.heap.size := by rw [add_block]; exact hpb0
        have HC := Lib.hid (show C7 (ad.add (k * 7)) (.int .i64 u) (.int .i64 md) (.int .i64 d) (.string id) (.int .i64 fl) (.slice K kn kc) (.string tx) W from ⟨c0, c1, c2_, c3, c4, c5_, c6⟩)
        have HKK := Lib.hid hks
        have HE1 := Lib.hid e1
        have hknl := hks.len
        have hkn := Lib.hid hknl
        clear hks e1 hknl
        have g9 : (0 : Int) ≤ (k : Int) := by omega
        have g10 : (k : Int) < (mn : Int) := by omega
        go_cut [120] (fun s120 wx => ∃ (A5 : Option Addr) (c5 n5 : Nat), s120 = .slice A5 n5 c5 ∧ n5 ≤ c5 ∧ Hid (Fin w (.cells #[.string bid, .int .i64 bv, .int .i64 bn, .int .i64 bh, .slice WA wn wcp, .slice (some ad) mn mcp] 25) L (.cells #[.string bid, .int .i64 bv, .int .i64 bn, .int .i64 bh, .slice WA wn wcp, .slice A2 n2 c2] 25) T (.cells #[.string bid, .int .i64 bv, .int .i64 bn, .int .i64 bh, .slice WA wn wcp, .slice A5 n5 c5] 25) A2 n2 (lessL ms k) A5 n5 (twiceL ms k ⟨u, md, d, id, fl, ks, tx⟩) wx))
        case first =>
          have HA := Lib.hid (show At2 w _ L _ T _ W.heap.size A2 n2 (lessL ms k) (W.alloc (.cells #[] 28)).drew from (HN.out.alloc _).drew)
          have HBB := Lib.hid (show At2 w _ L _ T _ W.heap.size A2 n2 (lessL ms k) ((W.alloc (.cells #[] 28)).alloc (.cells #[.int .i64 u, .int .i64 md, .int .i64 d, .string id, .int .i64 fl, .slice K kn kc, .string tx] 28)).drew from ((HN.out.alloc _).alloc _).drew)
          have HCC := Lib.hid (show At2 w _ L _ T _ W.heap.size A2 n2 (lessL ms k) ((W.alloc (.cells #[.int .i64 u, .int .i64 md, .int .i64 d, .string id, .int .i64 fl, .slice K kn kc, .string tx] 28)).alloc (.cells #[] 28)).drew from ((HN.out.alloc _).alloc _).drew)
          obtain ⟨rsa, hra, hka, hsa⟩ := msgs_raw (MsgsAt.below (RowAt.take HM.out g5) HA.out.at1.aft.below (Nat.le_refl _))
          obtain ⟨rsb, hrb, hkb, hsb⟩ := msgs_raw (MsgsAt.below (RowAt.take HM.out g5) HBB.out.at1.aft.below (Nat.le_refl _))
          obtain ⟨rsc, hrc, hkc', hsc⟩ := msgs_raw (MsgsAt.below (RowAt.take HM.out g5) HCC.out.at1.aft.below (Nat.le_refl _))
          have SA := Lib.hid hsa
          have SB := Lib.hid hsb
          have SC := Lib.hid hsc
          have RA := Lib.hid hra
          have RB := Lib.hid hrb
          have RC := Lib.hid hrc
          have QA := Lib.hid hka
          have QB := Lib.hid hkb
          have QC := Lib.hid hkc'
          have EA := Lib.hid (empty_row W)
          have TB := Lib.hid (at_two W (.cells #[] 28) (.cells #[.int .i64 u, .int .i64 md, .int .i64 d, .string id, .int .i64 fl, .slice K kn kc, .string tx] 28))
          have TC := Lib.hid (at_two W (.cells #[.int .i64 u, .int .i64 md, .int .i64 d, .string id, .int .i64 fl, .slice K kn kc, .string tx] 28) (.cells #[] 28))
          have zA := HA.out.le
          have zB := HBB.out.le
          have zC := HCC.out.le
          have one7 : ∀ z ∈ (#[.int .i64 u, .int .i64 md, .int .i64 d, .string id, .int .i64 fl, .slice K kn kc, .string tx] : Array Value).toList, z.oneCell' = true := fun z hz => by simp at hz; rcases hz with rfl | rfl | rfl | rfl | rfl | rfl | rfl <;> rfl
          clear hra hrb hrc hka hkb hkc' hsa hsb hsc
          go_region_held3 (fun wr => wr.cell? { block := w.heap.size, off := 5 } = some (.slice (some ad) mn mcp) ∧ wr.cell? (ad.add (k * 7)) = some (.int .i64 u) ∧ wr.cell? { block := (ad.add (k * 7)).block, off := (ad.add (k * 7)).off + 1 } = some (.int .i64 md) ∧ wr.cell? { block := (ad.add (k * 7)).block, off := (ad.add (k * 7)).off + 2 } = some (.int .i64 d) ∧ wr.cell? { block := (ad.add (k * 7)).block, off := (ad.add (k * 7)).off + 3 } = some (.string id) ∧ wr.cell? { block := (ad.add (k * 7)).block, off := (ad.add (k * 7)).off + 4 } = some (.int .i64 fl) ∧ wr.cell? { block := (ad.add (k * 7)).block, off := (ad.add (k * 7)).off + 5 } = some (.slice K kn kc) ∧ wr.cell? { block := (ad.add (k * 7)).block, off := (ad.add (k * 7)).off + 6 } = some (.string tx))
            (first | exact hS2 | exact hS3 | exact hS4 | exact hS5 _ | go_keep) (first
          | (refine step_rows elM (c := mcp) rfl (.tmp 101) (.tmp 106) rfl (by simp [Act.eval]) (by simp [Act.eval]) EA.out SA.out (by unfold maxLen; omega) (by omega) zA ?_
             intro v1 w2 hown1 hg1 _
             have X2 := Lib.hid (HA.out.grown hg1 (fun g e => by
               have e2 := Option.some.inj e
               dsimp only at e2
               omega))
             have hS2 := And.intro X2.out.at1.aft.box.2.2.2.2.2 (C7.to HC.out hpb HN.out.at1.aft.below X2.out.at1.aft.below)
             rw [Nat.zero_add, List.nil_append] at hown1
             have HO1 := Lib.hid hown1
             have HR1 := Lib.hid RA.out
             have HK1' := Lib.hid (KeysOk.to QA.out HA.out.at1.aft.below X2.out.at1.aft.below)
             clear hown1 hg1
             dsimp only)
          | (refine step_rows elM (c := mcp) rfl (.tmp 101) (.tmp 106) rfl (by simp [Act.eval]) (by simp [Act.eval]) (empty_at TB.out.1 (Nat.le_refl _)) SB.out (by unfold maxLen; omega) (by omega) zB ?_
             intro v1 w2 hown1 hg1 _
             have X2 := Lib.hid (HBB.out.grown hg1 (fun g e => by
               have e2 := Option.some.inj e
               dsimp only at e2
               omega))
             have hS2 := And.intro X2.out.at1.aft.box.2.2.2.2.2 (C7.to HC.out hpb HN.out.at1.aft.below X2.out.at1.aft.below)
             rw [Nat.zero_add, List.nil_append] at hown1
             have HO1 := Lib.hid hown1
             have HR1 := Lib.hid RB.out
             have HK1' := Lib.hid (KeysOk.to QB.out HBB.out.at1.aft.below X2.out.at1.aft.below)
             have HMB := Lib.hid ((hg1.block (W.heap.size + 1) (by rw [TB.out.2.2]; omega) (by simp [Value.ownBlock])).trans TB.out.2.1)
             clear hown1 hg1
             dsimp only)
          | (refine step_rows elM (c := mcp) rfl (.tmp 101) (.tmp 106) rfl (by simp [Act.eval]) (by simp [Act.eval]) (empty_at TC.out.2.1 (Nat.le_succ _)) SC.out (by unfold maxLen; omega) (by omega) zC ?_
             intro v1 w2 hown1 hg1 _
             have X2 := Lib.hid (HCC.out.grown hg1 (fun g e => by
               have e2 := Option.some.inj e
               dsimp only at e2
               omega))
             have hS2 := And.intro X2.out.at1.aft.box.2.2.2.2.2 (C7.to HC.out hpb HN.out.at1.aft.below X2.out.at1.aft.below)
             rw [Nat.zero_add, List.nil_append] at hown1
             have HO1 := Lib.hid hown1
             have HR1 := Lib.hid RC.out
             have HK1' := Lib.hid (KeysOk.to QC.out HCC.out.at1.aft.below X2.out.at1.aft.below)
             have HMB := Lib.hid ((hg1.block W.heap.size (by rw [TC.out.2.2]; omega) (by simp [Value.ownBlock])).trans TC.out.1)
             clear hown1 hg1
             dsimp only)
          | (refine step_rows elM (c := 1) rfl (.tmp 107) (.tmp 113) rfl (by simp [Act.eval]) (by simp [Act.eval]) (HO1.out.alloc _) (src_new w2 #[.int .i64 u, .int .i64 md, .int .i64 d, .string id, .int .i64 fl, .slice K kn kc, .string tx] 28 (m := 1) (sz := 7) rfl rfl one7) (by unfold maxLen; omega) (by omega) (X2.out.alloc _).le ?_
             intro v2 w3 hown2 hg2 _
             have X3 := Lib.hid ((X2.out.alloc _).grown hg2 (fun g e => (HO1.out.lt g e).1))
             have hS3 := And.intro X3.out.at1.aft.box.2.2.2.2.2 (C7.to HC.out hpb HN.out.at1.aft.below X3.out.at1.aft.below)
             obtain ⟨rs3, hr3, hk3, hs3⟩ := msgs_raw (MsgsAt.below (RowAt.cut HM.out g5 hmc) X3.out.at1.aft.below (Nat.le_refl _))
             have HS3 := Lib.hid hs3
             have HR3 := Lib.hid hr3
             have HK3 := Lib.hid hk3
             have HO2 := Lib.hid hown2
             have hq3 := X3.out.le
             clear hown2 hg2 hs3 hr3 hk3
             dsimp only)
          | (refine step_rows elM (c := 1) rfl (.tmp 107) (.tmp 113) rfl (by simp [Act.eval]) (by simp [Act.eval]) HO1.out (src_blk HMB.out (m := 1) (sz := 7) rfl one7) (by unfold maxLen; omega) (by omega) X2.out.le ?_
             intro v2 w3 hown2 hg2 _
             have X3 := Lib.hid (X2.out.grown hg2 (fun g e => (HO1.out.lt g e).1))
             have hS3 := And.intro X3.out.at1.aft.box.2.2.2.2.2 (C7.to HC.out hpb HN.out.at1.aft.below X3.out.at1.aft.below)
             obtain ⟨rs3, hr3, hk3, hs3⟩ := msgs_raw (MsgsAt.below (RowAt.cut HM.out g5 hmc) X3.out.at1.aft.below (Nat.le_refl _))
             have HS3 := Lib.hid hs3
             have HR3 := Lib.hid hr3
             have HK3 := Lib.hid hk3
             have HO2 := Lib.hid hown2
             have hq3 := X3.out.le
             clear hown2 hg2 hs3 hr3 hk3
             dsimp only)
          | (refine step_rows elM (c := mcp - (k + 1)) rfl (.tmp 114) (.tmp 119) rfl (by simp [Act.eval]) (by simp [Act.eval]) HO2.out HS3.out (by unfold maxLen; omega) (by omega) hq3 ?_
             intro v3 w4 hown3 hg3 _
             have X4 := Lib.hid (X3.out.grown hg3 (fun g e => (HO2.out.lt g e).1))
             have hS4 := And.intro X4.out.at1.aft.box.2.2.2.2.2 (C7.to HC.out hpb HN.out.at1.aft.below X4.out.at1.aft.below)
             obtain ⟨A5, c5, rfl, hc5⟩ := own_slice hown3
             have HO3 := Lib.hid hown3
             obtain ⟨_, _, _, _, _, q5, q6⟩ := six_cells X4.out.blk
             have hS5 : ∀ z, (w4.setCell { block := T, off := 5 } z).cell? { block := w.heap.size, off := 5 } = some (.slice (some ad) mn mcp) ∧ C7 (ad.add (k * 7)) (.int .i64 u) (.int .i64 md) (.int .i64 d) (.string id) (.int .i64 fl) (.slice K kn kc) (.string tx) (w4.setCell { block := T, off := 5 } z) := fun z =>
               ⟨(World.cell?_of_block (w := w4) (a := { block := w.heap.size, off := 5 }) (Below.heap_setCell _ _ _ _ (by show w.heap.size ≠ T; omega))).trans hS4.1, C7.to HC.out hpb HN.out.at1.aft.below (X4.out.at1.aft.below.setCell (show w.heap.size ≤ T by omega) _)⟩
             clear hown3 hg3
             dsimp only))
          all_goals
            have HF := Lib.hid (row_done2 X4.out (n2 := k + 1 + 1 + (mn - (k + 1))) (rs := _ ++ [⟨⟨u, md, d, id, fl, ks, tx⟩, K, kc⟩] ++ rs3) (l2 := twiceL ms k ⟨u, md, d, id, fl, ks, tx⟩)
              (by rw [mc_append, mc_append, mc_one1 _ hkn.out]; exact HO3.out) (by omega) hTb (by omega)
              (KeysOk.app (KeysOk.app (KeysOk.to HK1'.out X2.out.at1.aft.below X4.out.at1.aft.below) (KeysOk.to (keys_one (m := ⟨u, md, d, id, fl, ks, tx⟩) (by rw [hkn.out]; exact HKK.out) (by rw [hkn.out]; exact hkc) hz3 hz4) HN.out.at1.aft.below X4.out.at1.aft.below)) (KeysOk.to HK3.out X3.out.at1.aft.below X4.out.at1.aft.below))
              (by rw [List.map_append, List.map_append, HR1.out, HR3.out]; rfl))
            go_step
            go_step
            go_meet
            exact ⟨A5, c5, _, rfl, hc5, HF⟩
        case rest =>
          obtain ⟨A5, c5, n5, rfl, hc5, HF⟩ := hcut
          have hew := HM.out.len
          have hl1 := less_may (b := ⟨bid, bv, bn, bh, ws, ms⟩) HE.out HE1.out
          have hl2 := less_find (b := ⟨bid, bv, bn, bh, ws, ms⟩) HE.out HE1.out
          have hl3 := less_un HE1.out
          have hl4 := twice_may (b := ⟨bid, bv, bn, bh, ws, ms⟩) HE1.out
          dsimp only at hl1 hl2 hl4
          obtain ⟨et, het⟩ : ∃ et, et = mbE ⟨bid, bv, bn, bh, ws, twiceL ms k ⟨u, md, d, id, fl, ks, tx⟩⟩ := ⟨_, rfl⟩
          rw [← het] at hl4
          have hb1 : (et != 0) = true := by simpa using hl4
          obtain ⟨ul, hul⟩ : ∃ ul, ul = unI (lessL ms k) := ⟨_, rfl⟩
          obtain ⟨ub, hub⟩ : ∃ ub, ub = unI ms := ⟨_, rfl⟩
          rw [← hul, ← hub] at hl3
          have hb2 : decide (ul ≤ ub) = true := decide_eq_true hl3
          have hb3 : decide ((ul : Int) ≤ (ub : Int)) = true := decide_eq_true (by omega)
          have m1 : ∀ wr, Fin w (.cells #[.string bid, .int .i64 bv, .int .i64 bn, .int .i64 bh, .slice WA wn wcp, .slice (some ad) mn mcp] 25) L (.cells #[.string bid, .int .i64 bv, .int .i64 bn, .int .i64 bh, .slice WA wn wcp, .slice A2 n2 c2] 25) T (.cells #[.string bid, .int .i64 bv, .int .i64 bn, .int .i64 bh, .slice WA wn wcp, .slice A5 n5 c5] 25) A2 n2 (lessL ms k) A5 n5 (twiceL ms k ⟨u, md, d, id, fl, ks, tx⟩) wr → Calls Tryd.prog 11 #[.agg #[.string bid, .int .i64 bv, .int .i64 bn, .int .i64 bh, .slice WA wn wcp, .slice A2 n2 c2]] wr fun e w' => e = .returned (.int .i64 0) ∧ Below wr.heap.size wr w' := fun wr h => by
            rw [← hl1]
            exact may_box (StrsAt.more (StrsAt.below HX.out h.at1.aft.below (Nat.le_refl _)) h.at1.aft.below.size) h.ms (Nat.le_refl _) HWC.out
          have m2 : ∀ wr, Fin w (.cells #[.string bid, .int .i64 bv, .int .i64 bn, .int .i64 bh, .slice WA wn wcp, .slice (some ad) mn mcp] 25) L (.cells #[.string bid, .int .i64 bv, .int .i64 bn, .int .i64 bh, .slice WA wn wcp, .slice A2 n2 c2] 25) T (.cells #[.string bid, .int .i64 bv, .int .i64 bn, .int .i64 bh, .slice WA wn wcp, .slice A5 n5 c5] 25) A2 n2 (lessL ms k) A5 n5 (twiceL ms k ⟨u, md, d, id, fl, ks, tx⟩) wr → Calls Tryd.prog 17 #[.agg #[.string bid, .int .i64 bv, .int .i64 bn, .int .i64 bh, .slice WA wn wcp, .slice A2 n2 c2], .int .i64 u] wr fun e w' => e = .returned (.int .i64 (-1)) ∧ Below wr.heap.size wr w' := fun wr h => by
            rw [← hl2]
            exact find_any h.ms (Nat.le_refl _)
          have m3 : ∀ wr, Fin w (.cells #[.string bid, .int .i64 bv, .int .i64 bn, .int .i64 bh, .slice WA wn wcp, .slice (some ad) mn mcp] 25) L (.cells #[.string bid, .int .i64 bv, .int .i64 bn, .int .i64 bh, .slice WA wn wcp, .slice A2 n2 c2] 25) T (.cells #[.string bid, .int .i64 bv, .int .i64 bn, .int .i64 bh, .slice WA wn wcp, .slice A5 n5 c5] 25) A2 n2 (lessL ms k) A5 n5 (twiceL ms k ⟨u, md, d, id, fl, ks, tx⟩) wr → Calls Tryd.prog 11 #[.agg #[.string bid, .int .i64 bv, .int .i64 bn, .int .i64 bh, .slice WA wn wcp, .slice A5 n5 c5]] wr fun e w' => e = .returned (.int .i64 et) ∧ Below wr.heap.size wr w' := fun wr h => by
            rw [het]
            exact may_box (StrsAt.more (StrsAt.below HX.out h.at1.aft.below (Nat.le_refl _)) h.at1.aft.below.size) h.ms' (Nat.le_refl _) HWC.out
          have m4 : ∀ wr, Fin w (.cells #[.string bid, .int .i64 bv, .int .i64 bn, .int .i64 bh, .slice WA wn wcp, .slice (some ad) mn mcp] 25) L (.cells #[.string bid, .int .i64 bv, .int .i64 bn, .int .i64 bh, .slice WA wn wcp, .slice A2 n2 c2] 25) T (.cells #[.string bid, .int .i64 bv, .int .i64 bn, .int .i64 bh, .slice WA wn wcp, .slice A5 n5 c5] 25) A2 n2 (lessL ms k) A5 n5 (twiceL ms k ⟨u, md, d, id, fl, ks, tx⟩) wr → Calls Tryd.prog 24 #[.agg #[.string bid, .int .i64 bv, .int .i64 bn, .int .i64 bh, .slice WA wn wcp, .slice A2 n2 c2]] wr fun e w' => e = .returned (.int .i64 ul) ∧ Below wr.heap.size wr w' := fun wr h => by
            rw [hul]
            exact unseen_any h.ms (Nat.le_refl _)
          have m5 : ∀ wr, Fin w (.cells #[.string bid, .int .i64 bv, .int .i64 bn, .int .i64 bh, .slice WA wn wcp, .slice (some ad) mn mcp] 25) L (.cells #[.string bid, .int .i64 bv, .int .i64 bn, .int .i64 bh, .slice WA wn wcp, .slice A2 n2 c2] 25) T (.cells #[.string bid, .int .i64 bv, .int .i64 bn, .int .i64 bh, .slice WA wn wcp, .slice A5 n5 c5] 25) A2 n2 (lessL ms k) A5 n5 (twiceL ms k ⟨u, md, d, id, fl, ks, tx⟩) wr → Calls Tryd.prog 24 #[.agg #[.string bid, .int .i64 bv, .int .i64 bn, .int .i64 bh, .slice WA wn wcp, .slice (some ad) mn mcp]] wr fun e w' => e = .returned (.int .i64 ub) ∧ Below wr.heap.size wr w' := fun wr h => by
            rw [hub]
            exact unseen_any (MsgsAt.below HM.out h.at1.aft.below (Nat.le_refl _)) h.at1.aft.below.size
          have m6 : ∀ wr, Fin w (.cells #[.string bid, .int .i64 bv, .int .i64 bn, .int .i64 bh, .slice WA wn wcp, .slice (some ad) mn mcp] 25) L (.cells #[.string bid, .int .i64 bv, .int .i64 bn, .int .i64 bh, .slice WA wn wcp, .slice A2 n2 c2] 25) T (.cells #[.string bid, .int .i64 bv, .int .i64 bn, .int .i64 bh, .slice WA wn wcp, .slice A5 n5 c5] 25) A2 n2 (lessL ms k) A5 n5 (twiceL ms k ⟨u, md, d, id, fl, ks, tx⟩) wr → Calls Tryd.prog 10 #[] wr fun e w' => e = .returned (.bool true) ∧ Below wr.heap.size wr w' := fun wr h => HAW.out wr h.at1.aft.below
          have mS : ∀ wr, Fin w (.cells #[.string bid, .int .i64 bv, .int .i64 bn, .int .i64 bh, .slice WA wn wcp, .slice (some ad) mn mcp] 25) L (.cells #[.string bid, .int .i64 bv, .int .i64 bn, .int .i64 bh, .slice WA wn wcp, .slice A2 n2 c2] 25) T (.cells #[.string bid, .int .i64 bv, .int .i64 bn, .int .i64 bh, .slice WA wn wcp, .slice A5 n5 c5] 25) A2 n2 (lessL ms k) A5 n5 (twiceL ms k ⟨u, md, d, id, fl, ks, tx⟩) wr → wr.cell? { block := w.heap.size, off := 0 } = some (.string bid) ∧ wr.cell? { block := w.heap.size, off := 1 } = some (.int .i64 bv) ∧ wr.cell? { block := w.heap.size, off := 2 } = some (.int .i64 bn) ∧ wr.cell? { block := w.heap.size, off := 3 } = some (.int .i64 bh) ∧ wr.cell? { block := w.heap.size, off := 4 } = some (.slice WA wn wcp) ∧ wr.cell? { block := w.heap.size, off := 5 } = some (.slice (some ad) mn mcp) ∧ wr.cell? { block := L, off := 0 } = some (.string bid) ∧ wr.cell? { block := L, off := 1 } = some (.int .i64 bv) ∧ wr.cell? { block := L, off := 2 } = some (.int .i64 bn) ∧ wr.cell? { block := L, off := 3 } = some (.int .i64 bh) ∧ wr.cell? { block := L, off := 4 } = some (.slice WA wn wcp) ∧ wr.cell? { block := L, off := 5 } = some (.slice A2 n2 c2) ∧ wr.cell? { block := T, off := 0 } = some (.string bid) ∧ wr.cell? { block := T, off := 1 } = some (.int .i64 bv) ∧ wr.cell? { block := T, off := 2 } = some (.int .i64 bn) ∧ wr.cell? { block := T, off := 3 } = some (.int .i64 bh) ∧ wr.cell? { block := T, off := 4 } = some (.slice WA wn wcp) ∧ wr.cell? { block := T, off := 5 } = some (.slice A5 n5 c5) ∧ wr.cell? (ad.add (k * 7)) = some (.int .i64 u) := fun wr h => by
            obtain ⟨p0, p1, p2, p3, p4, p5⟩ := h.at1.aft.box
            obtain ⟨q0, q1, q2, q3, q4, q5, _⟩ := six_cells h.at1.blk
            obtain ⟨r0, r1, r2, r3, r4, r5, _⟩ := six_cells h.blk
            exact ⟨p0, p1, p2, p3, p4, p5, q0, q1, q2, q3, q4, q5, r0, r1, r2, r3, r4, r5, (C7.to HC.out hpb HN.out.at1.aft.below h.at1.aft.below).1⟩
          have M1 := Lib.hid m1
          have M2 := Lib.hid m2
          have M3 := Lib.hid m3
          have M4 := Lib.hid m4
          have M5 := Lib.hid m5
          have M6 := Lib.hid m6
          have MS := Lib.hid mS
          have H0 := Lib.hid HF.out
          clear m1 m2 m3 m4 m5 m6 mS hl1 hl2 hl3 hl4 het hul hub hew HF b0 b1 b2 b3 b4 b5 c0 c1 c2_ c3 c4 c5_ c6
          obtain ⟨p0, p1, p2, p3, p4, p5, q0, q1, q2, q3, q4, q5, r0, r1, r2, r3, r4, r5, z0⟩ := MS.out _ H0.out
          go_upto_region 16 with fail
          go_region_held3 (fun wr => wr.cell? { block := w.heap.size, off := 0 } = some (.string bid) ∧ wr.cell? { block := w.heap.size, off := 1 } = some (.int .i64 bv) ∧ wr.cell? { block := w.heap.size, off := 2 } = some (.int .i64 bn) ∧ wr.cell? { block := w.heap.size, off := 3 } = some (.int .i64 bh) ∧ wr.cell? { block := w.heap.size, off := 4 } = some (.slice WA wn wcp) ∧ wr.cell? { block := w.heap.size, off := 5 } = some (.slice (some ad) mn mcp) ∧ wr.cell? { block := L, off := 0 } = some (.string bid) ∧ wr.cell? { block := L, off := 1 } = some (.int .i64 bv) ∧ wr.cell? { block := L, off := 2 } = some (.int .i64 bn) ∧ wr.cell? { block := L, off := 3 } = some (.int .i64 bh) ∧ wr.cell? { block := L, off := 4 } = some (.slice WA wn wcp) ∧ wr.cell? { block := L, off := 5 } = some (.slice A2 n2 c2) ∧ wr.cell? { block := T, off := 0 } = some (.string bid) ∧ wr.cell? { block := T, off := 1 } = some (.int .i64 bv) ∧ wr.cell? { block := T, off := 2 } = some (.int .i64 bn) ∧ wr.cell? { block := T, off := 3 } = some (.int .i64 bh) ∧ wr.cell? { block := T, off := 4 } = some (.slice WA wn wcp) ∧ wr.cell? { block := T, off := 5 } = some (.slice A5 n5 c5) ∧ wr.cell? (ad.add (k * 7)) = some (.int .i64 u))
            (first | exact MS.out _ H1.out | exact MS.out _ H2.out | exact MS.out _ H3.out | exact MS.out _ H4.out | exact MS.out _ H5.out | exact MS.out _ H6.out | exact MS.out _ H0.out | exact MS.out _ (H0.out.drew) | go_keep) (first
            | (go_at_call 11
               ((with_reducible refine (M1.out _ ?d1).mono ?_); rotate_left)
               case d1 => first | exact H0.out | exact H0.out.drew
               rintro e v1 ⟨rfl, hb1⟩
               have H1 := Lib.hid (show Fin w (.cells #[.string bid, .int .i64 bv, .int .i64 bn, .int .i64 bh, .slice WA wn wcp, .slice (some ad) mn mcp] 25) L (.cells #[.string bid, .int .i64 bv, .int .i64 bn, .int .i64 bh, .slice WA wn wcp, .slice A2 n2 c2] 25) T (.cells #[.string bid, .int .i64 bv, .int .i64 bn, .int .i64 bh, .slice WA wn wcp, .slice A5 n5 c5] 25) A2 n2 (lessL ms k) A5 n5 (twiceL ms k ⟨u, md, d, id, fl, ks, tx⟩) v1 by first | exact H0.out.go hb1 | exact (H0.out.drew).go hb1)
               clear hb1
               dsimp only)
            | (go_at_call 17
               ((with_reducible refine (M2.out _ ?d2).mono ?_); rotate_left)
               case d2 => first | exact H1.out | exact H1.out.drew
               rintro e v2 ⟨rfl, hb2⟩
               have H2 := Lib.hid (show Fin w (.cells #[.string bid, .int .i64 bv, .int .i64 bn, .int .i64 bh, .slice WA wn wcp, .slice (some ad) mn mcp] 25) L (.cells #[.string bid, .int .i64 bv, .int .i64 bn, .int .i64 bh, .slice WA wn wcp, .slice A2 n2 c2] 25) T (.cells #[.string bid, .int .i64 bv, .int .i64 bn, .int .i64 bh, .slice WA wn wcp, .slice A5 n5 c5] 25) A2 n2 (lessL ms k) A5 n5 (twiceL ms k ⟨u, md, d, id, fl, ks, tx⟩) v2 by first | exact H1.out.go hb2 | exact (H1.out.drew).go hb2)
               clear hb2
               dsimp only)
            | (go_at_call 11
               ((with_reducible refine (M3.out _ ?d3).mono ?_); rotate_left)
               case d3 => first | exact H2.out | exact H2.out.drew
               rintro e v3 ⟨rfl, hb3⟩
               have H3 := Lib.hid (show Fin w (.cells #[.string bid, .int .i64 bv, .int .i64 bn, .int .i64 bh, .slice WA wn wcp, .slice (some ad) mn mcp] 25) L (.cells #[.string bid, .int .i64 bv, .int .i64 bn, .int .i64 bh, .slice WA wn wcp, .slice A2 n2 c2] 25) T (.cells #[.string bid, .int .i64 bv, .int .i64 bn, .int .i64 bh, .slice WA wn wcp, .slice A5 n5 c5] 25) A2 n2 (lessL ms k) A5 n5 (twiceL ms k ⟨u, md, d, id, fl, ks, tx⟩) v3 by first | exact H2.out.go hb3 | exact (H2.out.drew).go hb3)
               clear hb3
               dsimp only)
            | (go_at_call 24
               ((with_reducible refine (M4.out _ ?d4).mono ?_); rotate_left)
               case d4 => first | exact H3.out | exact H3.out.drew
               rintro e v4 ⟨rfl, hb4⟩
               have H4 := Lib.hid (show Fin w (.cells #[.string bid, .int .i64 bv, .int .i64 bn, .int .i64 bh, .slice WA wn wcp, .slice (some ad) mn mcp] 25) L (.cells #[.string bid, .int .i64 bv, .int .i64 bn, .int .i64 bh, .slice WA wn wcp, .slice A2 n2 c2] 25) T (.cells #[.string bid, .int .i64 bv, .int .i64 bn, .int .i64 bh, .slice WA wn wcp, .slice A5 n5 c5] 25) A2 n2 (lessL ms k) A5 n5 (twiceL ms k ⟨u, md, d, id, fl, ks, tx⟩) v4 by first | exact H3.out.go hb4 | exact (H3.out.drew).go hb4)
               clear hb4
               dsimp only)
            | (go_at_call 24
               ((with_reducible refine (M5.out _ ?d5).mono ?_); rotate_left)
               case d5 => first | exact H4.out | exact H4.out.drew
               rintro e v5 ⟨rfl, hb5⟩
               have H5 := Lib.hid (show Fin w (.cells #[.string bid, .int .i64 bv, .int .i64 bn, .int .i64 bh, .slice WA wn wcp, .slice (some ad) mn mcp] 25) L (.cells #[.string bid, .int .i64 bv, .int .i64 bn, .int .i64 bh, .slice WA wn wcp, .slice A2 n2 c2] 25) T (.cells #[.string bid, .int .i64 bv, .int .i64 bn, .int .i64 bh, .slice WA wn wcp, .slice A5 n5 c5] 25) A2 n2 (lessL ms k) A5 n5 (twiceL ms k ⟨u, md, d, id, fl, ks, tx⟩) v5 by first | exact H4.out.go hb5 | exact (H4.out.drew).go hb5)
               clear hb5
               dsimp only)
            | (go_at_call 10
               ((with_reducible refine (M6.out _ ?d6).mono ?_); rotate_left)
               case d6 => first | exact H5.out | exact H5.out.drew
               rintro e v6 ⟨rfl, hb6⟩
               have H6 := Lib.hid (show Fin w (.cells #[.string bid, .int .i64 bv, .int .i64 bn, .int .i64 bh, .slice WA wn wcp, .slice (some ad) mn mcp] 25) L (.cells #[.string bid, .int .i64 bv, .int .i64 bn, .int .i64 bh, .slice WA wn wcp, .slice A2 n2 c2] 25) T (.cells #[.string bid, .int .i64 bv, .int .i64 bn, .int .i64 bh, .slice WA wn wcp, .slice A5 n5 c5] 25) A2 n2 (lessL ms k) A5 n5 (twiceL ms k ⟨u, md, d, id, fl, ks, tx⟩) v6 by first | exact H5.out.go hb6 | exact (H5.out.drew).go hb6)
               clear hb6
               dsimp only))
          all_goals
            go_wp2_with fail
            go_ret
            exact ⟨rfl, H6.out.at1.aft.below⟩
end Go.Proofs.YtabcfhjfdkbhaaaDoor.BxOnce
