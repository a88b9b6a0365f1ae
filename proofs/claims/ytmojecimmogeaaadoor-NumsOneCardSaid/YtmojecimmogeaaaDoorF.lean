/-
  append at slices of spans, nil ones too; Parse: the text of a set is read as it was.
-/
import Derived.Test.YtmojecimmogeaaaDoorE
import Derived.Maps.AppendAt
import Derived.OwnWalk
import Derived.RegionTactic
import Derived.Lib.Join
namespace Go.Proofs.YtmojecimmogeaaaDoor.F
open Go.RowKit Go.Proofs.YtmojecimmogeaaaDoor.Kit Go.Proofs.YtmojecimmogeaaaDoor.A Go.Proofs.YtmojecimmogeaaaDoor.B Go.Proofs.YtmojecimmogeaaaDoor.C Go.Proofs.YtmojecimmogeaaaDoor.D Go.Proofs.YtmojecimmogeaaaDoor.E

theorem info32 : (Tryd.prog.info? 32).map (fun i => (i.zero, i.size, i.bytes)) = some (some (.agg #[.int .i64 0, .int .i64 0]), 2, 16) := by kernel_rfl
theorem cells_get {zs : List Sp} {j : Nat} {u : Value} (hu : (cells zs)[j]? = some u) : ∃ i z, zs[i]? = some z ∧ ((j = i * 2 ∧ u = .int .i64 z.1) ∨ (j = i * 2 + 1 ∧ u = .int .i64 z.2)) := by
  have hl := (List.getElem?_eq_some_iff.1 hu).1
  rw [cells_length] at hl
  have hz : zs[j / 2]? = some (zs[j / 2]'(by omega)) := List.getElem?_eq_getElem (by omega)
  obtain ⟨h1, h2⟩ := cells_at _ _ _ hz
  refine ⟨_, _, hz, ?_⟩
  by_cases hm : j % 2 = 0
  · rw [show j / 2 * 2 = j by omega, hu] at h1
    exact .inl ⟨by omega, Option.some.inj h1⟩
  · rw [show j / 2 * 2 + 1 = j by omega, hu] at h2
    exact .inr ⟨by omega, Option.some.inj h2⟩
/-- append of a slice of spans, nil or not, onto a row of the call's own. -/
theorem run_sp {w : World} {base n m c : Nat} {v : Value} {xs : List Value} {A : Option Addr} {zs : List Sp} (ty : TypeId) (hown : w.ownsRow base 32 2 v n xs) (hz : SpansAt w A m zs)
    (hb : n + m ≤ 8796093022208) (hbase : base ≤ w.heap.size) :
    ∃ v' w', (Builtin.append_ #[22, 22] ty #[v, .slice A m c]).run Tryd.prog w = .ok v' w' ∧ w'.ownsRow base 32 2 v' (n + m) (xs ++ cells zs) ∧ w.grownBy w' v.ownBlock ∧
      (v'.ownBlock = v.ownBlock ∨ v'.ownBlock = some w.heap.size) := by
  obtain ⟨i0, hi, hz0, hz1, hz2⟩ := info_parts info32
  have hzl := hz.1
  by_cases hm : m = 0
  · subst hm
    have hn : zs = [] := List.eq_nil_of_length_eq_zero hzl
    subst hn
    cases A with
    | none =>
      refine ⟨v, w, ?_, by simpa [cells] using hown, World.grownBy.refl w _, .inl rfl⟩
      rcases hown.2 with ⟨rfl, rfl⟩ | ⟨g, cap, cur, rfl, _, _, hnc, _⟩
      · simp [Builtin.append_, run_underlying Tryd.underlying22, sizeOf, typeInfo, hi, Builtin.lenOf, Builtin.firstCells]
      · simp [Builtin.append_, run_underlying Tryd.underlying22, sizeOf, typeInfo, hi, Builtin.lenOf, Builtin.firstCells, hnc, storeCells]
    | some ad =>
      obtain ⟨v', w', hrun, h2, h3, _, h5⟩ := run_append_own_at (P := Tryd.prog) w base 22 ty 32 i0 (.agg #[.int .i64 0, .int .i64 0]) 2 16 Tryd.underlying22 hi hz0 hz1 hz2 rfl (by decide) v n xs hown ad 0 c [] rfl (by simp) (by simp) (by unfold maxLen; omega) (by omega) hbase
      exact ⟨v', w', hrun, h2, h3, h5⟩
  · obtain ⟨ad, rfl, hlt, hc⟩ := hz.2 (by omega)
    obtain ⟨v', w', hrun, h2, h3, _, h5⟩ := run_append_own_at (P := Tryd.prog) w base 22 ty 32 i0 (.agg #[.int .i64 0, .int .i64 0]) 2 16 Tryd.underlying22 hi hz0 hz1 hz2 rfl (by decide) v n xs hown ad m c (cells zs) (by rw [cells_length, hzl])
      (fun j u hu => by
        obtain ⟨i, z, hi, ⟨rfl, rfl⟩ | ⟨rfl, rfl⟩⟩ := cells_get hu
        · exact (hc _ _ hi).1
        · exact (hc _ _ hi).2) (fun u hu => cells_one _ _ hu) (by unfold maxLen; omega) (by omega) hbase
    exact ⟨v', w', hrun, h2, h3, h5⟩

theorem wp_sp {w : World} {base n m c : Nat} {v : Value} {xs : List Value} {A : Option Addr} {zs : List Sp} {o : Oper} {a : Act} {K : Act → World → Prop} {Q : Exit → Act → World → Prop} (s x : Operand)
    (ho : o.op = .call { callee := .builtin .append, args := #[s, x], argTypes := #[22, 22] }) (hs : a.eval s = v) (hx : a.eval x = .slice A m c) (hown : w.ownsRow base 32 2 v n xs) (hz : SpansAt w A m zs)
    (hb : n + m ≤ 8796093022208) (hbase : base ≤ w.heap.size)
    (h : ∀ v' w', w'.ownsRow base 32 2 v' (n + m) (xs ++ cells zs) → w.grownBy w' v.ownBlock → (v'.ownBlock = v.ownBlock ∨ v'.ownBlock = some w.heap.size) → K (a.put o.dst v') w') : o.wp Tryd.prog a w K Q := by
  obtain ⟨v', w', hrun, h2, h3, h4⟩ := run_sp (c := c) o.type hown hz hb hbase
  unfold Oper.wp execOp
  simp only [ho, resolve, invoke, builtin, Sem.run_bind, Sem.run_pure, Result.andThen_ok, List.map_toArray, List.map_cons, List.map_nil, hs, hx, hrun]
  exact h v' w' h2 h3 h4
theorem wpList_sp {w : World} {base n m c : Nat} {v : Value} {xs : List Value} {A : Option Addr} {zs : List Sp} {ops : Array Oper} {rest : List Oper} {o : Oper} {a : Act} {Q : Exit → Act → World → Prop} (hgd : o.guard = none) (s x : Operand)
    (ho : o.op = .call { callee := .builtin .append, args := #[s, x], argTypes := #[22, 22] }) (hs : a.eval s = v) (hx : a.eval x = .slice A m c) (hown : w.ownsRow base 32 2 v n xs) (hz : SpansAt w A m zs)
    (hb : n + m ≤ 8796093022208) (hbase : base ≤ w.heap.size)
    (h : ∀ v' w', w'.ownsRow base 32 2 v' (n + m) (xs ++ cells zs) → w.grownBy w' v.ownBlock → (v'.ownBlock = v.ownBlock ∨ v'.ownBlock = some w.heap.size) → wpList Tryd.prog ops Q rest (a.put o.dst v') w') : wpList Tryd.prog ops Q (o :: rest) a w :=
  wpList_plain hgd fun _ hK => wp_sp s x ho hs hx hown hz hb hbase fun v' w' h2 h3 h4 => hK _ _ (h v' w' h2 h3 h4)
theorem step_sp {w : World} {base n m c : Nat} {v : Value} {xs : List Value} {A : Option Addr} {zs : List Sp} {ops : Array Oper} {o : Oper} {a : Act} {K : Act → World → Prop} {Q : Exit → Act → World → Prop} {E : Prop} (hgd : o.guard = none) (s x : Operand)
    (ho : o.op = .call { callee := .builtin .append, args := #[s, x], argTypes := #[22, 22] }) (hs : a.eval s = v) (hx : a.eval x = .slice A m c) (hown : w.ownsRow base 32 2 v n xs) (hz : SpansAt w A m zs)
    (hb : n + m ≤ 8796093022208) (hbase : base ≤ w.heap.size)
    (h : ∀ v' w', w'.ownsRow base 32 2 v' (n + m) (xs ++ cells zs) → w.grownBy w' v.ownBlock → (v'.ownBlock = v.ownBlock ∨ v'.ownBlock = some w.heap.size) → K (a.put o.dst v') w') :
    if Region.wanted o (yielded ops a.tmps) = true then Oper.wp Tryd.prog o a w K Q else E := by
  have hw : Region.wanted o (yielded ops a.tmps) = true := by simp [Region.wanted, hgd]
  rw [if_pos hw]
  exact wp_sp s x ho hs hx hown hz hb hbase h
/-- One span laid in a new block. -/
theorem spansAt_new (w : World) (x y : Int) {b : Nat} (hb : b = w.heap.size) : SpansAt (w.alloc (.cells #[.int .i64 x, .int .i64 y] 32)) (some ⟨b, 0, none⟩) 1 [(x, y)] := by
  subst hb
  refine ⟨rfl, fun _ => ⟨_, rfl, by simp, fun j z hz => ?_⟩⟩
  match j, hz with
  | 0, hz =>
    obtain rfl : (x, y) = z := by simpa using hz
    simp [Addr.add]
  | j + 1, hz => simp at hz
theorem cells_snoc {zs : List Sp} {k : Nat} {z : Sp} (hz : zs[k]? = some z) : cells (zs.take (k + 1)) = cells (zs.take k) ++ cells [z] := by
  obtain ⟨hl, rfl⟩ := List.getElem?_eq_some_iff.1 hz
  rw [List.take_succ_eq_append_getElem hl, cells_append]
theorem grown_below {w w' : World} (h : Below w.heap.size w w') (row : Option Nat) : w.grownBy w' row :=
  ⟨h.os, h.tape, h.output, h.size, fun k hk _ => h.block k hk⟩

/-- A row of the call's own, from base on. -/
def OW (w wr : World) (n : Nat) (v : Value) (zs : List Sp) : Prop := wr.ownsRow w.heap.size 32 2 v n (cells zs) ∧ Below w.heap.size w wr
theorem OW.below {w wr w2 : World} {n : Nat} {v : Value} {zs : List Sp} (h : OW w wr n v zs) (hb : Below wr.heap.size wr w2) : OW w w2 n v zs :=
  ⟨h.1.kept (grown_below hb none) (by cases hv : v.ownBlock <;> simp), h.2.trans (hb.mono h.2.size)⟩
theorem OW.alloc {w wr : World} {n : Nat} {v : Value} {zs : List Sp} (h : OW w wr n v zs) (o : Obj) : OW w (wr.alloc o) n v zs := ⟨h.1.alloc o, h.2.alloc h.2.size o⟩
theorem OW.app {w wr w2 : World} {n m : Nat} {v v' : Value} {xs ys : List Sp} (h : OW w wr n v xs) (hown : w2.ownsRow w.heap.size 32 2 v' m (cells ys)) (hg : wr.grownBy w2 v.ownBlock) : OW w w2 m v' ys :=
  ⟨hown, h.2.grown hg h.2.size (fun g e => (h.1.lt g e).1)⟩

/-- The text of a row of spans. -/
def txt (zs : List Sp) : List UInt8 := Lib.join (zs.map spT) [44]
theorem txt_one (z : Sp) : txt [z] = spT z := Lib.join_one _ _
theorem txt_cons (z y : Sp) (r : List Sp) : txt (z :: y :: r) = spT z ++ 44 :: txt (y :: r) := by
  unfold txt
  rw [List.map_cons, List.map_cons, Lib.join_cons, Lib.join_cons]
  simp [Lib.joinTail]
theorem txt_len : ∀ {zs : List Sp}, (∀ z ∈ zs, okS z = true) → (txt zs).length ≤ 16 * zs.length
  | [], _ => by simp [txt, Lib.join_nil]
  | [z], h => by
    have := (spT_len (x := z.1) (y := z.2) (h z (by simp))).2
    rw [txt_one]
    simp
    exact Nat.le_trans this (by decide)
  | z :: y :: r, h => by
    have h1 : (spT z).length ≤ 15 := (spT_len (x := z.1) (y := z.2) (h z (by simp))).2
    have h2 := txt_len (zs := y :: r) (fun u hu => h u (List.mem_cons_of_mem _ hu))
    rw [txt_cons, List.length_append, List.length_cons]
    simp only [List.length_cons] at h2 ⊢
    omega
end Go.Proofs.YtmojecimmogeaaaDoor.F
