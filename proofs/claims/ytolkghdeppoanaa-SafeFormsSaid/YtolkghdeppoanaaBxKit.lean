/-
  Slices of ints, of texts and of messages in memory, below a block; boxes in memory; rows of the call's own.
-/
import Derived.Test.YtolkghdeppoanaaK9
import Derived.Below
import Derived.KernelRfl
import Derived.Deep.Draws
import Derived.OwnWalk
import Derived.Maps.AppendAt
import Derived.RegionTactic
set_option linter.unusedVariables false
set_option linter.unusedSimpArgs false
namespace Go.Proofs.Ytolkghdeppoanaa.BxKit
open Go.RowKit Go.Proofs.Ytolkghdeppoanaa.BxD

theorem ret_int {k : IntKind} {a b : Int} (h : a = b) : Ending.returned (.int k a) = .returned (.int k b) := by rw [h]
theorem ret_bool {a b : Bool} (h : a = b) : Ending.returned (.bool a) = .returned (.bool b) := by rw [h]
theorem ret_str {a b : ByteArray} (h : a = b) : Ending.returned (.string a) = .returned (.string b) := by rw [h]
theorem below_drewN {B : Nat} {a w : World} (h : Below B a w) (n : Nat) : Below B a (w.drewN n) := ⟨h.os, h.tape, h.output, h.size, h.block⟩
theorem add_block (a : Addr) (j : Nat) : (a.add j).block = a.block := by unfold Addr.add; split <;> rfl
theorem add_add (a : Addr) (i j : Nat) : (a.add i).add j = a.add (i + j) := by
  unfold Addr.add
  by_cases hi : i = 0 <;> by_cases hj : j = 0 <;> simp [hi, hj, Nat.add_assoc]
theorem grown_below {w w' : World} (h : Below w.heap.size w w') (row : Option Nat) : w.grownBy w' row :=
  ⟨h.os, h.tape, h.output, h.size, fun k hk _ => h.block k hk⟩

/-- Data in memory, the cells below block B: n of them, each told by C. -/
def RowAt {α : Type} (C : World → Nat → Addr → α → Prop) (s : Nat) (w : World) (B : Nat) (A : Option Addr) (n : Nat) (l : List α) : Prop :=
  l.length = n ∧ n ≤ 140737488355328 ∧ (0 < n → ∃ ad, A = some ad ∧ ad.block < B ∧ ∀ j x, l[j]? = some x → C w B (ad.add (j * s)) x)
section
variable {α : Type} {C : World → Nat → Addr → α → Prop} {s : Nat} {w w' : World} {B n : Nat} {A : Option Addr} {l : List α}
theorem RowAt.nil (C : World → Nat → Addr → α → Prop) (s : Nat) (w : World) (B : Nat) (A : Option Addr) : RowAt C s w B A 0 [] := ⟨rfl, Nat.zero_le _, fun h => absurd h (Nat.lt_irrefl 0)⟩
theorem RowAt.len (h : RowAt C s w B A n l) : l.length = n := h.1
theorem RowAt.max (h : RowAt C s w B A n l) : n ≤ 140737488355328 := h.2.1
theorem RowAt.get (h : RowAt C s w B A n l) {j : Nat} (hj : j < n) : ∃ ad x, A = some ad ∧ ad.block < B ∧ l[j]? = some x ∧ C w B (ad.add (j * s)) x := by
  obtain ⟨hl, _, hc⟩ := h
  obtain ⟨ad, rfl, hb, hcell⟩ := hc (by omega)
  exact ⟨ad, l[j]'(by omega), rfl, hb, List.getElem?_eq_getElem (by omega), hcell j _ (List.getElem?_eq_getElem (by omega))⟩
theorem RowAt.map {B' : Nat} (h : RowAt C s w B A n l) (hB : B ≤ B') (hC : ∀ p x, p.block < B → C w B p x → C w' B' p x) : RowAt C s w' B' A n l := by
  refine ⟨h.1, h.2.1, fun hn => ?_⟩
  obtain ⟨ad, e, hb, hc⟩ := h.2.2 hn
  exact ⟨ad, e, by omega, fun j x hj => hC _ _ (by rw [add_block]; exact hb) (hc j x hj)⟩
theorem RowAt.take (h : RowAt C s w B A n l) {k : Nat} (hk : k ≤ n) : RowAt C s w B A k (l.take k) := by
  refine ⟨by rw [List.length_take, h.1]; omega, Nat.le_trans hk h.2.1, fun hn => ?_⟩
  obtain ⟨ad, rfl, hb, hcell⟩ := h.2.2 (by omega)
  refine ⟨ad, rfl, hb, fun j c hj => hcell j c ?_⟩
  rw [List.getElem?_take] at hj
  split at hj
  · exact hj
  · cases hj
theorem RowAt.cut (h : RowAt C s w B A n l) {k cp : Nat} (hk : k ≤ n) (hc : n ≤ cp) :
    RowAt C s w B (if cp = k then A else A.map (·.add (k * s))) (n - k) (l.drop k) := by
  refine ⟨by rw [List.length_drop, h.1], Nat.le_trans (Nat.sub_le _ _) h.2.1, fun hn => ?_⟩
  obtain ⟨ad, rfl, hb, hcell⟩ := h.2.2 (by omega)
  rw [if_neg (by omega)]
  refine ⟨ad.add (k * s), rfl, by rw [add_block]; exact hb, fun j c hj => ?_⟩
  rw [add_add, ← Nat.add_mul]
  exact hcell _ c (by rw [← hj, List.getElem?_drop])
end

def intC (w : World) (_ : Nat) (p : Addr) (z : Int) : Prop := w.cell? p = some (.int .i64 z)
def strC (w : World) (_ : Nat) (p : Addr) (z : ByteArray) : Prop := w.cell? p = some (.string z) ∧ z.size ≤ 140737488355328
abbrev IntsAt := RowAt intC 1
abbrev StrsAt := RowAt strC 1
/-- The cell of field f. -/
def fld (p : Addr) (f : Nat) : Addr := { block := p.block, off := p.off + f }
def msgC (w : World) (B : Nat) (p : Addr) (m : Msg) : Prop :=
  w.cell? p = some (.int .i64 m.uid) ∧ w.cell? (fld p 1) = some (.int .i64 m.mod) ∧ w.cell? (fld p 2) = some (.int .i64 m.date) ∧ w.cell? (fld p 3) = some (.string m.id) ∧
    w.cell? (fld p 4) = some (.int .i64 m.flags) ∧ (∃ K c, w.cell? (fld p 5) = some (.slice K m.keys.length c) ∧ m.keys.length ≤ c ∧ IntsAt w B K m.keys.length m.keys) ∧ w.cell? (fld p 6) = some (.string m.text) ∧
    m.id.size ≤ 140737488355328 ∧ m.text.size ≤ 140737488355328
abbrev MsgsAt := RowAt msgC 7
section
variable {w w' : World} {B n : Nat} {A : Option Addr}
theorem IntsAt.keep {l : List Int} {B' : Nat} (h : IntsAt w B A n l) (hB : B ≤ B') (hk : ∀ p : Addr, p.block < B → w'.cell? p = w.cell? p) : IntsAt w' B' A n l :=
  h.map hB fun p _ hp hc => (hk p hp).trans hc
theorem StrsAt.keep {l : List ByteArray} {B' : Nat} (h : StrsAt w B A n l) (hB : B ≤ B') (hk : ∀ p : Addr, p.block < B → w'.cell? p = w.cell? p) : StrsAt w' B' A n l :=
  h.map hB fun p _ hp hc => ⟨(hk p hp).trans hc.1, hc.2⟩
theorem msgC.keep {p : Addr} {m : Msg} {B' : Nat} (h : msgC w B p m) (hB : B ≤ B') (hp : p.block < B) (hk : ∀ p : Addr, p.block < B → w'.cell? p = w.cell? p) : msgC w' B' p m := by
  obtain ⟨h0, h1, h2, h3, h4, ⟨K, c, h5, h6, h7⟩, h8, h9⟩ := h
  exact ⟨(hk _ hp).trans h0, (hk (fld p 1) hp).trans h1, (hk (fld p 2) hp).trans h2, (hk (fld p 3) hp).trans h3, (hk (fld p 4) hp).trans h4, ⟨K, c, (hk (fld p 5) hp).trans h5, h6, IntsAt.keep h7 hB hk⟩, (hk (fld p 6) hp).trans h8, h9⟩
theorem MsgsAt.keep {l : List Msg} {B' : Nat} (h : MsgsAt w B A n l) (hB : B ≤ B') (hk : ∀ p : Addr, p.block < B → w'.cell? p = w.cell? p) : MsgsAt w' B' A n l :=
  h.map hB fun _ _ hp hc => msgC.keep hc hB hp hk
theorem IntsAt.below {l : List Int} {B' : Nat} (h : IntsAt w B A n l) (hb : Below B' w w') (hB : B ≤ B') : IntsAt w' B A n l := IntsAt.keep h (Nat.le_refl _) fun _ hp => hb.cell (by omega)
theorem StrsAt.below {l : List ByteArray} {B' : Nat} (h : StrsAt w B A n l) (hb : Below B' w w') (hB : B ≤ B') : StrsAt w' B A n l := StrsAt.keep h (Nat.le_refl _) fun _ hp => hb.cell (by omega)
theorem MsgsAt.below {l : List Msg} {B' : Nat} (h : MsgsAt w B A n l) (hb : Below B' w w') (hB : B ≤ B') : MsgsAt w' B A n l := MsgsAt.keep h (Nat.le_refl _) fun _ hp => hb.cell (by omega)
theorem IntsAt.more {l : List Int} {B' : Nat} (h : IntsAt w B A n l) (hB : B ≤ B') : IntsAt w B' A n l := IntsAt.keep h hB fun _ _ => rfl
theorem StrsAt.more {l : List ByteArray} {B' : Nat} (h : StrsAt w B A n l) (hB : B ≤ B') : StrsAt w B' A n l := StrsAt.keep h hB fun _ _ => rfl
theorem MsgsAt.more {l : List Msg} {B' : Nat} (h : MsgsAt w B A n l) (hB : B ≤ B') : MsgsAt w B' A n l := MsgsAt.keep h hB fun _ _ => rfl
/-- As the walk spells it. -/
theorem IntsAt.at_ {l : List Int} {wr : World} {B' : Nat} (h : IntsAt w B A n l) (hb : Below B' w wr) (hB : B ≤ B') {j : Nat} (hj : j < n) :
    ∃ ad x, A = some ad ∧ l[j]? = some x ∧ wr.cell? (ad.add j) = some (.int .i64 x) := by
  obtain ⟨ad, x, e, hlt, hx, hc⟩ := h.get hj
  rw [Nat.mul_one] at hc
  exact ⟨ad, x, e, hx, (hb.cell (p := ad.add j) (by rw [add_block]; omega)).trans hc⟩
theorem StrsAt.at_ {l : List ByteArray} {wr : World} {B' : Nat} (h : StrsAt w B A n l) (hb : Below B' w wr) (hB : B ≤ B') {j : Nat} (hj : j < n) :
    ∃ ad x, A = some ad ∧ l[j]? = some x ∧ wr.cell? (ad.add j) = some (.string x) := by
  obtain ⟨ad, x, e, hlt, hx, hc⟩ := h.get hj
  rw [Nat.mul_one] at hc
  exact ⟨ad, x, e, hx, (hb.cell (p := ad.add j) (by rw [add_block]; omega)).trans hc.1⟩
theorem MsgsAt.at_ {l : List Msg} {wr : World} {B' : Nat} (h : MsgsAt w B A n l) (hb : Below B' w wr) (hB : B ≤ B') {j : Nat} (hj : j < n) :
    ∃ ad x, A = some ad ∧ ad.block < B ∧ l[j]? = some x ∧ msgC wr B (ad.add (j * 7)) x := by
  obtain ⟨ad, x, e, hlt, hx, hc⟩ := h.get hj
  exact ⟨ad, x, e, hlt, hx, hc.keep (Nat.le_refl _) (by rw [add_block]; omega) fun p hp => hb.cell (by omega)⟩
/-- As the walk spells it: the seven cells of a message. -/
theorem MsgsAt.sp {l : List Msg} {wr : World} {B' : Nat} (h : MsgsAt w B A n l) (hb : Below B' w wr) (hB : B ≤ B') {j : Nat} (hj : j < n) :
    ∃ ad u md d id fl ks tx K kn kc, A = some ad ∧ ad.block < B ∧ l[j]? = some ⟨u, md, d, id, fl, ks, tx⟩ ∧ wr.cell? (ad.add (j * 7)) = some (.int .i64 u) ∧
      wr.cell? { block := (ad.add (j * 7)).block, off := (ad.add (j * 7)).off + 1 } = some (.int .i64 md) ∧ wr.cell? { block := (ad.add (j * 7)).block, off := (ad.add (j * 7)).off + 2 } = some (.int .i64 d) ∧
      wr.cell? { block := (ad.add (j * 7)).block, off := (ad.add (j * 7)).off + 3 } = some (.string id) ∧ wr.cell? { block := (ad.add (j * 7)).block, off := (ad.add (j * 7)).off + 4 } = some (.int .i64 fl) ∧
      wr.cell? { block := (ad.add (j * 7)).block, off := (ad.add (j * 7)).off + 5 } = some (.slice K kn kc) ∧ wr.cell? { block := (ad.add (j * 7)).block, off := (ad.add (j * 7)).off + 6 } = some (.string tx) ∧
      kn ≤ kc ∧ IntsAt wr B K kn ks ∧ id.size ≤ 140737488355328 ∧ tx.size ≤ 140737488355328 := by
  obtain ⟨ad, ⟨u, md, d, id, fl, ks, tx⟩, e, hlt, hx, h0, h1, h2, h3, h4, ⟨K, c, h5, h6, h7⟩, h8, h9, h10⟩ := MsgsAt.at_ h hb hB hj
  exact ⟨ad, u, md, d, id, fl, ks, tx, K, _, c, e, hlt, hx, h0, h1, h2, h3, h4, h5, h8, h6, h7, h9, h10⟩
end

/-- Behind the making of one block, which stays. -/
def After (w : World) (o : Obj) (wr : World) : Prop := Below (w.heap.size + 1) (w.alloc o) wr
section
variable {w wr w2 : World} {o : Obj}
theorem After.start (w : World) (o : Obj) : After w o (w.alloc o) := Below.refl _ _
theorem After.drewN (h : After w o wr) (n : Nat) : After w o (wr.drewN n) := below_drewN h n
theorem After.size (h : After w o wr) : w.heap.size + 1 ≤ wr.heap.size := by have := Below.size h; simpa using this
theorem After.go (h : After w o wr) (hb : Below wr.heap.size wr w2) : After w o w2 := Below.trans h (hb.mono h.size)
theorem After.alloc (h : After w o wr) (o2 : Obj) : After w o (wr.alloc o2) := h.go ((Below.refl _ _).alloc (Nat.le_refl _) o2)
theorem After.below (h : After w o wr) : Below w.heap.size w wr := ((Below.refl _ _).alloc (Nat.le_refl _) o).trans (Below.mono h (by omega))
theorem After.box {c0 c1 c2 c3 c4 c5 : Value} {t : TypeId} (h : After w (.cells #[c0, c1, c2, c3, c4, c5] t) wr) :
    wr.cell? { block := w.heap.size, off := 0 } = some c0 ∧ wr.cell? { block := w.heap.size, off := 1 } = some c1 ∧ wr.cell? { block := w.heap.size, off := 2 } = some c2 ∧
      wr.cell? { block := w.heap.size, off := 3 } = some c3 ∧ wr.cell? { block := w.heap.size, off := 4 } = some c4 ∧ wr.cell? { block := w.heap.size, off := 5 } = some c5 := by
  refine ⟨?_, ?_, ?_, ?_, ?_, ?_⟩
  all_goals
    rw [Below.cell h (p := ⟨w.heap.size, _, none⟩) (by simp)]
    simp
/-- A message laid in a new block, still there behind a call. -/
theorem msg_new {c0 c1 c2 c3 c4 c5 c6 : Value} {t : TypeId} (hb : Below (w.alloc (.cells #[c0, c1, c2, c3, c4, c5, c6] t)).heap.size (w.alloc (.cells #[c0, c1, c2, c3, c4, c5, c6] t)) w2) :
    w2.cell? { block := w.heap.size, off := 0 } = some c0 ∧ w2.cell? { block := w.heap.size, off := 1 } = some c1 ∧ w2.cell? { block := w.heap.size, off := 2 } = some c2 ∧
      w2.cell? { block := w.heap.size, off := 3 } = some c3 ∧ w2.cell? { block := w.heap.size, off := 4 } = some c4 ∧ w2.cell? { block := w.heap.size, off := 5 } = some c5 ∧ w2.cell? { block := w.heap.size, off := 6 } = some c6 := by
  refine ⟨?_, ?_, ?_, ?_, ?_, ?_, ?_⟩
  all_goals
    rw [Below.cell hb (p := ⟨w.heap.size, _, none⟩) (by simp)]
    simp
end
end Go.Proofs.Ytolkghdeppoanaa.BxKit
