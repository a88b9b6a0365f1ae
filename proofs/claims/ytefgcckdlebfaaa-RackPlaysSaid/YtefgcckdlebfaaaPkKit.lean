/-
  Slices of bytes: their cells, how they are kept, cut, handed on and appended to.
-/
import Derived.Test.YtefgcckdlebfaaaRows
import Derived.Below
import Derived.Lib.Hide
import Derived.Lib.VarintMem
import Derived.Maps.AppendAt
import Derived.OwnWalk
import Derived.RegionTactic
import Derived.Laws.IdiomStrings
import Derived.Deep.Draws
import Derived.Lib.AppendStr
import Derived.KernelRfl
namespace Go.Proofs.Ytefgcckdlebfaaa.PkKit
open Go.RowKit

set_option maxRecDepth 100000 in
theorem add_block (a : Addr) (j : Nat) : (a.add j).block = a.block := by unfold Addr.add; split <;> rfl
set_option maxRecDepth 100000 in
theorem add_add (a : Addr) (i j : Nat) : (a.add i).add j = a.add (i + j) := by
  unfold Addr.add
  by_cases hi : i = 0 <;> by_cases hj : j = 0 <;> simp [hi, hj, Nat.add_assoc]
set_option maxRecDepth 100000 in
theorem grown_below {w w' : World} (h : Below w.heap.size w w') (row : Option Nat) : w.grownBy w' row :=
  ⟨h.os, h.tape, h.output, h.size, fun k hk _ => h.block k hk⟩

abbrev by_ (l : List UInt8) : List Value := Lib.byteCells l
set_option maxRecDepth 100000 in
theorem by_get {l : List UInt8} {j : Nat} {c : UInt8} (h : l[j]? = some c) : (by_ l)[j]? = some (.int .u8 (c.toNat : Int)) := by
  unfold by_ Lib.byteCells; rw [List.getElem?_map, h]; rfl
set_option maxRecDepth 100000 in
theorem by_inv {l : List UInt8} {j : Nat} {u : Value} (h : (by_ l)[j]? = some u) : ∃ c, l[j]? = some c ∧ u = .int .u8 (c.toNat : Int) := by
  unfold by_ Lib.byteCells at h
  rw [List.getElem?_map] at h
  cases hc : l[j]? with
  | none => rw [hc] at h; cases h
  | some c => rw [hc] at h; exact ⟨c, rfl, (Option.some.inj h).symm⟩
set_option maxRecDepth 100000 in
theorem by_one (l : List UInt8) : ∀ v ∈ by_ l, v.oneCell' = true := by
  intro v hv
  unfold by_ Lib.byteCells at hv
  obtain ⟨b, _, rfl⟩ := List.mem_map.1 hv
  rfl
set_option maxRecDepth 100000 in
theorem by_append (a b : List UInt8) : by_ (a ++ b) = by_ a ++ by_ b := Lib.byteCells_append a b
set_option maxRecDepth 100000 in
theorem by_length (l : List UInt8) : (by_ l).length = l.length := Lib.byteCells_length l

/-- A slice of bytes, below block B. -/
def BytesAt (w : World) (B : Nat) (A : Option Addr) (n : Nat) (l : List UInt8) : Prop :=
  l.length = n ∧ (0 < n → ∃ ad, A = some ad ∧ ad.block < B ∧ ∀ j c, l[j]? = some c → w.cell? (ad.add j) = some (.int .u8 (c.toNat : Int)))
section
variable {w w' : World} {B n : Nat} {A : Option Addr} {l : List UInt8}
set_option maxRecDepth 100000 in
theorem BytesAt.nil (w : World) (B : Nat) (A : Option Addr) : BytesAt w B A 0 [] := ⟨rfl, fun h => absurd h (Nat.lt_irrefl 0)⟩
set_option maxRecDepth 100000 in
theorem BytesAt.at_ (h : BytesAt w B A n l) {j : Nat} (hj : j < n) : ∃ ad c, A = some ad ∧ l[j]? = some c ∧ w.cell? (ad.add j) = some (.int .u8 (c.toNat : Int)) := by
  obtain ⟨hl, hc⟩ := h
  obtain ⟨ad, rfl, _, hcell⟩ := hc (by omega)
  exact ⟨ad, l[j]'(by omega), rfl, List.getElem?_eq_getElem (by omega), hcell j _ (List.getElem?_eq_getElem (by omega))⟩
set_option maxRecDepth 100000 in
theorem BytesAt.keep (h : BytesAt w B A n l) (hk : ∀ p : Addr, p.block < B → w'.cell? p = w.cell? p) : BytesAt w' B A n l :=
  ⟨h.1, fun hn => by
    obtain ⟨ad, e, hb, hc⟩ := h.2 hn
    exact ⟨ad, e, hb, fun j c hj => (hk _ (by rw [add_block]; exact hb)).trans (hc j c hj)⟩⟩
set_option maxRecDepth 100000 in
theorem BytesAt.more {B' : Nat} (h : BytesAt w B A n l) (hB : B ≤ B') : BytesAt w B' A n l :=
  ⟨h.1, fun hn => by
    obtain ⟨ad, e, hb, hc⟩ := h.2 hn
    exact ⟨ad, e, by omega, hc⟩⟩
set_option maxRecDepth 100000 in
theorem BytesAt.below {B' : Nat} (h : BytesAt w B A n l) (hb : Below B' w w') (hB : B ≤ B') : BytesAt w' B A n l := h.keep fun _ hp => hb.cell (by omega)
set_option maxRecDepth 100000 in
theorem BytesAt.alloc (h : BytesAt w B A n l) (hB : B ≤ w.heap.size) (o : Obj) : BytesAt (w.alloc o) B A n l := h.below ((Below.refl _ w).alloc (Nat.le_refl _) o) hB
set_option maxRecDepth 100000 in
theorem BytesAt.setCell (h : BytesAt w B A n l) {p : Addr} (hB : B ≤ p.block) (u : Value) : BytesAt (w.setCell p u) B A n l := h.below ((Below.refl B w).setCell hB u) (Nat.le_refl _)
set_option maxRecDepth 100000 in
theorem BytesAt.cut (h : BytesAt w B A n l) {k cp : Nat} (hk : k ≤ n) (hc : n ≤ cp) :
    BytesAt w B (if cp = k then A else A.map (·.add k)) (n - k) (l.drop k) := by
  refine ⟨by rw [List.length_drop, h.1], fun hn => ?_⟩
  obtain ⟨ad, rfl, hb, hcell⟩ := h.2 (by omega)
  rw [if_neg (by omega)]
  refine ⟨ad.add k, rfl, by rw [add_block]; exact hb, fun j c hj => ?_⟩
  rw [add_add]
  exact hcell _ c (by rw [← hj, List.getElem?_drop])
set_option maxRecDepth 100000 in
theorem BytesAt.take (h : BytesAt w B A n l) {k : Nat} (hk : k ≤ n) : BytesAt w B A k (l.take k) := by
  refine ⟨by rw [List.length_take, h.1]; omega, fun hn => ?_⟩
  obtain ⟨ad, rfl, hb, hcell⟩ := h.2 (by omega)
  refine ⟨ad, rfl, hb, fun j c hj => hcell j c ?_⟩
  rw [List.getElem?_take] at hj
  split at hj
  · exact hj
  · cases hj
set_option maxRecDepth 100000 in
/-- The text of a slice of bytes. -/
theorem BytesAt.conv (h : BytesAt w B A n l) (cp : Nat) : (convert 29 9 (.slice A n cp)).run Try.prog w = .ok (.string ⟨l.toArray⟩) w := by
  have hl := h.1
  subst hl
  cases A with
  | none =>
    have h0 : l = [] := by
      cases l with
      | nil => rfl
      | cons c r => obtain ⟨ad, e, _⟩ := h.2 (by simp); cases e
    subst h0
    exact run_convert_bytes_back (P := Try.prog) w 29 9 5 ⟨0, 0, none⟩ cp [] Try.underlying29 Try.underlying5 Try.underlying9 (fun j hj => absurd hj (by simp))
  | some a =>
    refine run_convert_bytes_back (P := Try.prog) w 29 9 5 a cp l Try.underlying29 Try.underlying5 Try.underlying9 (fun j hj => ?_)
    obtain ⟨ad, e, _, hcell⟩ := h.2 (Nat.lt_of_le_of_lt (Nat.zero_le _) hj)
    injection e with e
    subst e
    exact hcell j _ (List.getElem?_eq_getElem hj)
end

set_option maxRecDepth 100000 in
theorem BytesAt.row {w w' : World} {B n : Nat} {A : Option Addr} {l : List UInt8} {r : Option Nat} (h : BytesAt w B A n l) (hg : w.grownBy w' r) (hne : ∀ ad, A = some ad → r ≠ some ad.block) : BytesAt w' B A n l := by
  refine ⟨h.1, fun hn => ?_⟩
  obtain ⟨ad, e, hb, hc⟩ := h.2 hn
  exact ⟨ad, e, hb, fun j c hj => hg.cell (hc j c hj) (fun e2 => hne ad e (by rw [add_block] at e2; exact e2.symm))⟩
set_option maxRecDepth 100000 in
theorem BytesAt.grown {w w' : World} {B n T : Nat} {A : Option Addr} {l : List UInt8} (h : BytesAt w B A n l) (hg : w.grownBy w' (some T)) (hT : B ≤ T) : BytesAt w' B A n l := by
  refine ⟨h.1, fun hn => ?_⟩
  obtain ⟨ad, e, hb, hc⟩ := h.2 hn
  exact ⟨ad, e, hb, fun j c hj => hg.cell (hc j c hj) (fun e => by injection e with e; rw [add_block] at e; omega)⟩

set_option maxRecDepth 100000 in
theorem own_form {w : World} {base n : Nat} {v : Value} {xs : List Value} (h : w.ownsRow base 5 1 v n xs) (hn : 0 < n) : ∃ g cap, v = .slice (some ⟨g, 0, none⟩) n cap ∧ base ≤ g ∧ g < w.heap.size := by
  rcases h.2 with ⟨rfl, rfl⟩ | ⟨g, cap, cur, rfl, hb, hg, _⟩
  · omega
  · exact ⟨g, cap, rfl, hb, (Array.getElem?_eq_some_iff.1 hg).1⟩
set_option maxRecDepth 100000 in
theorem own_slice {w : World} {base e n : Nat} {v : Value} {xs : List Value} (h : w.ownsRow base e 1 v n xs) : ∃ A cp, v = .slice A n cp ∧ n ≤ cp := by
  rcases h.2 with ⟨rfl, rfl⟩ | ⟨g, cap, cur, rfl, _, _, hnc, _⟩
  · exact ⟨_, _, rfl, Nat.le_refl _⟩
  · exact ⟨_, _, rfl, hnc⟩
set_option maxRecDepth 100000 in
/-- A row of the call's own, handed on. -/
theorem bytesAt_own {w : World} {base n cp : Nat} {A : Option Addr} {l : List UInt8} (h : w.ownsRow base 5 1 (.slice A n cp) n (by_ l)) : BytesAt w w.heap.size A n l := by
  have hl := h.1
  rw [by_length] at hl
  refine ⟨by omega, fun hn => ?_⟩
  obtain ⟨g, cap, hv, _, hlt⟩ := own_form h hn
  have hA : A = some ⟨g, 0, none⟩ := by injection hv
  subst hA
  exact ⟨_, rfl, hlt, fun j c hj => h.cells (g := g) rfl _ _ (by_get hj)⟩

set_option maxRecDepth 100000 in
theorem info5 : (Try.prog.info? 5).map (fun i => (i.zero, i.size, i.bytes)) = some (some (.int .u8 0), 1, 1) := by kernel_rfl
set_option maxRecDepth 100000 in
/-- append of a slice of bytes, nil or not, onto a row of the call's own. -/
theorem run_by {w : World} {base n m c B : Nat} {v : Value} {xs : List Value} {A : Option Addr} {l : List UInt8} (ty : TypeId) (hown : w.ownsRow base 5 1 v n xs) (hz : BytesAt w B A m l)
    (hb : n + m ≤ 140737488355328) (hbase : base ≤ w.heap.size) :
    ∃ v' w', (Builtin.append_ #[29, 29] ty #[v, .slice A m c]).run Try.prog w = .ok v' w' ∧ w'.ownsRow base 5 1 v' (n + m) (xs ++ by_ l) ∧ w.grownBy w' v.ownBlock ∧
      (v'.ownBlock = v.ownBlock ∨ v'.ownBlock = some w.heap.size) := by
  obtain ⟨i0, hi, hz0, hz1, hz2⟩ := info_parts info5
  have hzl := hz.1
  by_cases hm : m = 0
  · subst hm
    have hn : l = [] := List.eq_nil_of_length_eq_zero hzl
    subst hn
    cases A with
    | none =>
      refine ⟨v, w, ?_, by simpa [by_, Lib.byteCells] using hown, World.grownBy.refl w _, .inl rfl⟩
      rcases hown.2 with ⟨rfl, rfl⟩ | ⟨g, cap, cur, rfl, _, _, hnc, _⟩
      · simp [Builtin.append_, run_underlying Try.underlying29, sizeOf, typeInfo, hi, Builtin.lenOf, Builtin.firstCells]
      · simp [Builtin.append_, run_underlying Try.underlying29, sizeOf, typeInfo, hi, Builtin.lenOf, Builtin.firstCells, hnc, storeCells]
    | some ad =>
      obtain ⟨v', w', hrun, h2, h3, _, h5⟩ := run_append_own_at (P := Try.prog) w base 29 ty 5 i0 (.int .u8 0) 1 1 Try.underlying29 hi hz0 hz1 hz2 rfl (by decide) v n xs hown ad 0 c [] rfl (by simp) (by simp) (by unfold maxLen; omega) (by omega) hbase
      exact ⟨v', w', hrun, h2, h3, h5⟩
  · obtain ⟨ad, rfl, hlt, hc⟩ := hz.2 (by omega)
    obtain ⟨v', w', hrun, h2, h3, _, h5⟩ := run_append_own_at (P := Try.prog) w base 29 ty 5 i0 (.int .u8 0) 1 1 Try.underlying29 hi hz0 hz1 hz2 rfl (by decide) v n xs hown ad m c (by_ l) (by rw [by_length, hzl]; omega)
      (fun j u hu => by
        obtain ⟨b, hj, rfl⟩ := by_inv hu
        exact hc _ _ hj) (by_one l) (by unfold maxLen; omega) (by omega) hbase
    exact ⟨v', w', hrun, h2, h3, h5⟩
set_option maxRecDepth 100000 in
theorem wp_by {w : World} {base n m c B : Nat} {v : Value} {xs : List Value} {A : Option Addr} {l : List UInt8} {o : Oper} {a : Act} {K : Act → World → Prop} {Q : Exit → Act → World → Prop} (s x : Operand)
    (ho : o.op = .call { callee := .builtin .append, args := #[s, x], argTypes := #[29, 29] }) (hs : a.eval s = v) (hx : a.eval x = .slice A m c) (hown : w.ownsRow base 5 1 v n xs) (hz : BytesAt w B A m l)
    (hb : n + m ≤ 140737488355328) (hbase : base ≤ w.heap.size)
    (h : ∀ v' w', w'.ownsRow base 5 1 v' (n + m) (xs ++ by_ l) → w.grownBy w' v.ownBlock → (v'.ownBlock = v.ownBlock ∨ v'.ownBlock = some w.heap.size) → K (a.put o.dst v') w') : o.wp Try.prog a w K Q := by
  obtain ⟨v', w', hrun, h2, h3, h4⟩ := run_by (c := c) o.type hown hz hb hbase
  unfold Oper.wp execOp
  simp only [ho, resolve, invoke, builtin, Sem.run_bind, Sem.run_pure, Result.andThen_ok, List.map_toArray, List.map_cons, List.map_nil, hs, hx, hrun]
  exact h v' w' h2 h3 h4
set_option maxRecDepth 100000 in
theorem wpList_by {w : World} {base n m c B : Nat} {v : Value} {xs : List Value} {A : Option Addr} {l : List UInt8} {ops : Array Oper} {rest : List Oper} {o : Oper} {a : Act} {Q : Exit → Act → World → Prop} (hgd : o.guard = none) (s x : Operand)
    (ho : o.op = .call { callee := .builtin .append, args := #[s, x], argTypes := #[29, 29] }) (hs : a.eval s = v) (hx : a.eval x = .slice A m c) (hown : w.ownsRow base 5 1 v n xs) (hz : BytesAt w B A m l)
    (hb : n + m ≤ 140737488355328) (hbase : base ≤ w.heap.size)
    (h : ∀ v' w', w'.ownsRow base 5 1 v' (n + m) (xs ++ by_ l) → w.grownBy w' v.ownBlock → (v'.ownBlock = v.ownBlock ∨ v'.ownBlock = some w.heap.size) → wpList Try.prog ops Q rest (a.put o.dst v') w') : wpList Try.prog ops Q (o :: rest) a w :=
  wpList_plain hgd fun _ hK => wp_by s x ho hs hx hown hz hb hbase fun v' w' h2 h3 h4 => hK _ _ (h v' w' h2 h3 h4)
set_option maxRecDepth 100000 in
theorem step_by {w : World} {base n m c B : Nat} {v : Value} {xs : List Value} {A : Option Addr} {l : List UInt8} {ops : Array Oper} {o : Oper} {a : Act} {K : Act → World → Prop} {Q : Exit → Act → World → Prop} {E : Prop} (hgd : o.guard = none) (s x : Operand)
    (ho : o.op = .call { callee := .builtin .append, args := #[s, x], argTypes := #[29, 29] }) (hs : a.eval s = v) (hx : a.eval x = .slice A m c) (hown : w.ownsRow base 5 1 v n xs) (hz : BytesAt w B A m l)
    (hb : n + m ≤ 140737488355328) (hbase : base ≤ w.heap.size)
    (h : ∀ v' w', w'.ownsRow base 5 1 v' (n + m) (xs ++ by_ l) → w.grownBy w' v.ownBlock → (v'.ownBlock = v.ownBlock ∨ v'.ownBlock = some w.heap.size) → K (a.put o.dst v') w') :
    if Region.wanted o (yielded ops a.tmps) = true then Oper.wp Try.prog o a w K Q else E := by
  have hw : Region.wanted o (yielded ops a.tmps) = true := by simp [Region.wanted, hgd]
  rw [if_pos hw]
  exact wp_by s x ho hs hx hown hz hb hbase h
set_option maxRecDepth 100000 in
/-- Some bytes laid in a new block. -/
theorem bytesAt_new (w : World) (l : List UInt8) {b B : Nat} (hb : b = w.heap.size) (hB : b < B) {n : Nat} (hn : l.length = n) {cs : Array Value} (hcs : cs.toList = by_ l) : BytesAt (w.alloc (.cells cs 5)) B (some ⟨b, 0, none⟩) n l := by
  subst hb
  refine ⟨hn, fun _ => ⟨_, rfl, hB, fun j c hj => ?_⟩⟩
  have h1 := by_get hj
  rw [← hcs] at h1
  rw [show (⟨w.heap.size, 0, none⟩ : Addr).add j = ⟨w.heap.size, j, none⟩ by unfold Addr.add; split <;> simp_all]
  rw [cell_of_row _ w.heap.size j cs 5 (0, 0) (heap_alloc_new w _)]
  simpa using h1

/-- A row of the call's own, from base on. -/
structure OB (base : Nat) (w wr : World) (n : Nat) (v : Value) (l : List UInt8) : Prop where
  own : wr.ownsRow base 5 1 v n (by_ l)
  bel : Below base w wr
  bas : base ≤ w.heap.size
set_option maxRecDepth 100000 in
theorem OB.len {base : Nat} {w wr : World} {n : Nat} {v : Value} {l : List UInt8} (h : OB base w wr n v l) : l.length = n := by
  have := h.own.1
  rw [by_length] at this
  omega
set_option maxRecDepth 100000 in
theorem OB.below {base : Nat} {w wr w2 : World} {n : Nat} {v : Value} {l : List UInt8} (h : OB base w wr n v l) (hb : Below wr.heap.size wr w2) : OB base w w2 n v l :=
  ⟨h.own.kept (grown_below hb none) (by cases hv : v.ownBlock <;> simp), h.bel.trans (hb.mono (Nat.le_trans h.bas h.bel.size)), h.bas⟩
set_option maxRecDepth 100000 in
theorem OB.alloc {base : Nat} {w wr : World} {n : Nat} {v : Value} {l : List UInt8} (h : OB base w wr n v l) (o : Obj) : OB base w (wr.alloc o) n v l := h.below ((Below.refl _ _).alloc (Nat.le_refl _) o)
set_option maxRecDepth 100000 in
theorem OB.app {base : Nat} {w wr w2 : World} {n m : Nat} {v v' : Value} {l l' : List UInt8} (h : OB base w wr n v l) (hown : w2.ownsRow base 5 1 v' m (by_ l')) (hg : wr.grownBy w2 v.ownBlock) : OB base w w2 m v' l' :=
  ⟨hown, h.bel.grown hg (Nat.le_trans h.bas h.bel.size) (fun g e => (h.own.lt g e).1), h.bas⟩
set_option maxRecDepth 100000 in
theorem OB.at_ {base : Nat} {w wr : World} {n cp : Nat} {A : Option Addr} {l : List UInt8} (h : OB base w wr n (.slice A n cp) l) : BytesAt wr wr.heap.size A n l := bytesAt_own h.own
set_option maxRecDepth 100000 in
theorem OB.nil (w : World) {base : Nat} (hb : base ≤ w.heap.size) : OB base w w 0 (.slice none 0 0) [] := ⟨World.ownsRow_nil _ _ _ _, Below.refl _ _, hb⟩
end Go.Proofs.Ytefgcckdlebfaaa.PkKit
