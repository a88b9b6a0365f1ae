/-
  Rows of the call's own: append of whatever lies in memory, at texts, ints and messages; messages as their cells.
-/
import Derived.Test.YtolkghdeppoanaaBxKit
set_option linter.unusedVariables false
set_option linter.unusedSimpArgs false
namespace Go.Proofs.Ytolkghdeppoanaa.RkR
open Go.RowKit Go.Proofs.Ytolkghdeppoanaa.BxD Go.Proofs.Ytolkghdeppoanaa.BxKit

/-- A slice's type, its elements' type, their zero value, cells, bytes. -/
structure El (t e : TypeId) (z : Value) (sz by_ : Nat) : Prop where
  und : Try.prog.underlying t = some (.slice e)
  info : (Try.prog.info? e).map (fun i => (i.zero, i.size, i.bytes)) = some (some z, sz, by_)
  zs : z.cells.size = sz
  pos : 0 < sz
set_option maxRecDepth 100000 in
theorem elS : El 51 9 (.string ⟨#[]⟩) 1 16 := ⟨Try.underlying51, by kernel_rfl, rfl, by decide⟩

/-- What an append reads: m elements at A, their cells. -/
def Src (w : World) (A : Option Addr) (m sz : Nat) (news : List Value) : Prop :=
  news.length = m * sz ∧ (∀ u ∈ news, u.oneCell' = true) ∧ (0 < m → ∃ ad, A = some ad ∧ ∀ j u, news[j]? = some u → w.cell? (ad.add j) = some u)

set_option maxRecDepth 100000 in
theorem run_rows {t e : TypeId} {z : Value} {sz by_ : Nat} (el : El t e z sz by_) {w : World} {base n m c : Nat} {v : Value} {xs news : List Value} {A : Option Addr} (ty : TypeId) (hown : w.ownsRow base e sz v n xs) (hs : Src w A m sz news)
    (h63 : n + m ≤ maxLen) (hb : (n + m) * by_ ≤ 140737488355328) (hbase : base ≤ w.heap.size) :
    ∃ v' w', (Builtin.append_ #[t, t] ty #[v, .slice A m c]).run Try.prog w = .ok v' w' ∧ w'.ownsRow base e sz v' (n + m) (xs ++ news) ∧ w.grownBy w' v.ownBlock ∧
      (v'.ownBlock = v.ownBlock ∨ v'.ownBlock = some w.heap.size) := by
  obtain ⟨i0, hi, hz0, hz1, hz2⟩ := info_parts el.info
  obtain ⟨hl, h1, hc⟩ := hs
  by_cases hm : m = 0
  · subst hm
    have hn : news = [] := List.eq_nil_of_length_eq_zero (by rw [hl, Nat.zero_mul])
    subst hn
    cases A with
    | none =>
      refine ⟨v, w, ?_, by simpa using hown, World.grownBy.refl w _, .inl rfl⟩
      rcases hown.2 with ⟨rfl, rfl⟩ | ⟨g, cap, cur, rfl, _, _, hnc, _⟩
      · simp [Builtin.append_, run_underlying el.und, sizeOf, typeInfo, hi, Builtin.lenOf, Builtin.firstCells]
      · simp [Builtin.append_, run_underlying el.und, sizeOf, typeInfo, hi, Builtin.lenOf, Builtin.firstCells, hnc, storeCells]
    | some ad =>
      obtain ⟨v', w', hrun, h2, h3, _, h5⟩ := run_append_own_at (P := Try.prog) w base t ty e i0 z sz by_ el.und hi hz0 hz1 hz2 el.zs el.pos v n xs hown ad 0 c [] (by simp) (by simp) (by simp) h63 hb hbase
      exact ⟨v', w', hrun, h2, h3, h5⟩
  · obtain ⟨ad, rfl, hcell⟩ := hc (by omega)
    obtain ⟨v', w', hrun, h2, h3, _, h5⟩ := run_append_own_at (P := Try.prog) w base t ty e i0 z sz by_ el.und hi hz0 hz1 hz2 el.zs el.pos v n xs hown ad m c news hl hcell h1 h63 hb hbase
    exact ⟨v', w', hrun, h2, h3, h5⟩
set_option maxRecDepth 100000 in
theorem wp_rows {t e : TypeId} {z : Value} {sz by_ : Nat} (el : El t e z sz by_) {w : World} {base n m c : Nat} {v : Value} {xs news : List Value} {A : Option Addr} {o : Oper} {a : Act} {K : Act → World → Prop} {Q : Exit → Act → World → Prop} (s x : Operand)
    (ho : o.op = .call { callee := .builtin .append, args := #[s, x], argTypes := #[t, t] }) (hs : a.eval s = v) (hx : a.eval x = .slice A m c) (hown : w.ownsRow base e sz v n xs) (hz : Src w A m sz news)
    (h63 : n + m ≤ maxLen) (hb : (n + m) * by_ ≤ 140737488355328) (hbase : base ≤ w.heap.size)
    (h : ∀ v' w', w'.ownsRow base e sz v' (n + m) (xs ++ news) → w.grownBy w' v.ownBlock → (v'.ownBlock = v.ownBlock ∨ v'.ownBlock = some w.heap.size) → K (a.put o.dst v') w') : o.wp Try.prog a w K Q := by
  obtain ⟨v', w', hrun, h2, h3, h4⟩ := run_rows (c := c) el o.type hown hz h63 hb hbase
  unfold Oper.wp execOp
  simp only [ho, resolve, invoke, builtin, Sem.run_bind, Sem.run_pure, Result.andThen_ok, List.map_toArray, List.map_cons, List.map_nil, hs, hx, hrun]
  exact h v' w' h2 h3 h4
set_option maxRecDepth 100000 in
theorem wpList_rows {t e : TypeId} {z : Value} {sz by_ : Nat} (el : El t e z sz by_) {w : World} {base n m c : Nat} {v : Value} {xs news : List Value} {A : Option Addr} {ops : Array Oper} {rest : List Oper} {o : Oper} {a : Act} {Q : Exit → Act → World → Prop} (hgd : o.guard = none) (s x : Operand)
    (ho : o.op = .call { callee := .builtin .append, args := #[s, x], argTypes := #[t, t] }) (hs : a.eval s = v) (hx : a.eval x = .slice A m c) (hown : w.ownsRow base e sz v n xs) (hz : Src w A m sz news)
    (h63 : n + m ≤ maxLen) (hb : (n + m) * by_ ≤ 140737488355328) (hbase : base ≤ w.heap.size)
    (h : ∀ v' w', w'.ownsRow base e sz v' (n + m) (xs ++ news) → w.grownBy w' v.ownBlock → (v'.ownBlock = v.ownBlock ∨ v'.ownBlock = some w.heap.size) → wpList Try.prog ops Q rest (a.put o.dst v') w') : wpList Try.prog ops Q (o :: rest) a w :=
  wpList_plain hgd fun _ hK => wp_rows el s x ho hs hx hown hz h63 hb hbase fun v' w' h2 h3 h4 => hK _ _ (h v' w' h2 h3 h4)
set_option maxRecDepth 100000 in
theorem step_rows {t e : TypeId} {z : Value} {sz by_ : Nat} (el : El t e z sz by_) {w : World} {base n m c : Nat} {v : Value} {xs news : List Value} {A : Option Addr} {ops : Array Oper} {o : Oper} {a : Act} {K : Act → World → Prop} {Q : Exit → Act → World → Prop} {E : Prop} (hgd : o.guard = none) (s x : Operand)
    (ho : o.op = .call { callee := .builtin .append, args := #[s, x], argTypes := #[t, t] }) (hs : a.eval s = v) (hx : a.eval x = .slice A m c) (hown : w.ownsRow base e sz v n xs) (hz : Src w A m sz news)
    (h63 : n + m ≤ maxLen) (hb : (n + m) * by_ ≤ 140737488355328) (hbase : base ≤ w.heap.size)
    (h : ∀ v' w', w'.ownsRow base e sz v' (n + m) (xs ++ news) → w.grownBy w' v.ownBlock → (v'.ownBlock = v.ownBlock ∨ v'.ownBlock = some w.heap.size) → K (a.put o.dst v') w') :
    if Region.wanted o (yielded ops a.tmps) = true then Oper.wp Try.prog o a w K Q else E := by
  have hw : Region.wanted o (yielded ops a.tmps) = true := by simp [Region.wanted, hgd]
  rw [if_pos hw]
  exact wp_rows el s x ho hs hx hown hz h63 hb hbase h

set_option maxRecDepth 100000 in
theorem own_slice {w : World} {base e sz n : Nat} {v : Value} {xs : List Value} (h : w.ownsRow base e sz v n xs) : ∃ A cp, v = .slice A n cp ∧ n ≤ cp := by
  rcases h.2 with ⟨rfl, rfl⟩ | ⟨g, cap, cur, rfl, _, _, hnc, _⟩
  · exact ⟨_, _, rfl, Nat.le_refl _⟩
  · exact ⟨_, _, rfl, hnc⟩
set_option maxRecDepth 100000 in
theorem own_form {w : World} {base e sz n : Nat} {v : Value} {xs : List Value} (h : w.ownsRow base e sz v n xs) (hn : 0 < n) : ∃ g cap, v = .slice (some ⟨g, 0, none⟩) n cap ∧ base ≤ g ∧ g < w.heap.size := by
  rcases h.2 with ⟨rfl, rfl⟩ | ⟨g, cap, cur, rfl, hb, hg, _⟩
  · omega
  · exact ⟨g, cap, rfl, hb, (Array.getElem?_eq_some_iff.1 hg).1⟩
set_option maxRecDepth 100000 in
theorem add_new (g j : Nat) : (⟨g, 0, none⟩ : Addr).add j = ⟨g, j, none⟩ := by unfold Addr.add; split <;> simp_all
set_option maxRecDepth 100000 in
theorem cell_new (w : World) (cs : Array Value) (t : TypeId) (j : Nat) : (w.alloc (.cells cs t)).cell? ((⟨w.heap.size, 0, none⟩ : Addr).add j) = cs[j]? := by
  rw [add_new, cell_of_row _ w.heap.size j cs t (0, 0) (heap_alloc_new w _)]
set_option maxRecDepth 100000 in
/-- Elements laid in a new block. -/
theorem src_new (w : World) (cs : Array Value) (t : TypeId) {b m sz : Nat} (hb : b = w.heap.size) (hl : cs.size = m * sz) (h1 : ∀ u ∈ cs.toList, u.oneCell' = true) : Src (w.alloc (.cells cs t)) (some ⟨b, 0, none⟩) m sz cs.toList := by
  subst hb
  exact ⟨by simpa using hl, h1, fun _ => ⟨_, rfl, fun j u hu => by rw [cell_new]; simpa using hu⟩⟩

set_option maxRecDepth 100000 in
/-- Texts: those of a row of the call's own, and others. -/
theorem strs_src {w : World} {B n : Nat} {A : Option Addr} {l : List ByteArray} (h : StrsAt w B A n l) : Src w A n 1 (l.map Value.string) := by
  refine ⟨by rw [List.length_map, h.len, Nat.mul_one], fun u hu => by obtain ⟨x, _, rfl⟩ := List.mem_map.1 hu; rfl, fun hn => ?_⟩
  obtain ⟨ad, e, _, hc⟩ := h.2.2 hn
  refine ⟨ad, e, fun j u hu => ?_⟩
  rw [List.getElem?_map] at hu
  cases hx : l[j]? with
  | none => rw [hx] at hu; cases hu
  | some x =>
    rw [hx] at hu
    obtain rfl : Value.string x = u := Option.some.inj hu
    have := (hc j x hx).1
    rwa [Nat.mul_one] at this
set_option maxRecDepth 100000 in
theorem ints_src {w : World} {B n : Nat} {A : Option Addr} {l : List Int} (h : IntsAt w B A n l) : Src w A n 1 (l.map (Value.int .i64)) := by
  refine ⟨by rw [List.length_map, h.len, Nat.mul_one], fun u hu => by obtain ⟨x, _, rfl⟩ := List.mem_map.1 hu; rfl, fun hn => ?_⟩
  obtain ⟨ad, e, _, hc⟩ := h.2.2 hn
  refine ⟨ad, e, fun j u hu => ?_⟩
  rw [List.getElem?_map] at hu
  cases hx : l[j]? with
  | none => rw [hx] at hu; cases hu
  | some x =>
    rw [hx] at hu
    obtain rfl : Value.int .i64 x = u := Option.some.inj hu
    have := hc j x hx
    unfold intC at this
    rwa [Nat.mul_one] at this
set_option maxRecDepth 100000 in
theorem strsAt_own {w : World} {base n cp : Nat} {A : Option Addr} {l : List ByteArray} (h : w.ownsRow base 9 1 (.slice A n cp) n (l.map Value.string)) (hn : n ≤ 140737488355328) (hz : ∀ x ∈ l, x.size ≤ 140737488355328) : StrsAt w w.heap.size A n l := by
  have hl := h.1
  rw [List.length_map] at hl
  refine ⟨by omega, hn, fun hn => ?_⟩
  obtain ⟨g, cap, hv, _, hlt⟩ := own_form h hn
  have hA : A = some ⟨g, 0, none⟩ := by injection hv
  subst hA
  exact ⟨_, rfl, hlt, fun j c hj => ⟨by rw [Nat.mul_one]; exact h.cells (g := g) rfl _ _ (by rw [List.getElem?_map, hj]; rfl), hz c (List.mem_of_getElem? hj)⟩⟩
set_option maxRecDepth 100000 in
theorem intsAt_own {w : World} {base n cp : Nat} {A : Option Addr} {l : List Int} (h : w.ownsRow base 3 1 (.slice A n cp) n (l.map (Value.int .i64))) (hn : n ≤ 140737488355328) : IntsAt w w.heap.size A n l := by
  have hl := h.1
  rw [List.length_map] at hl
  refine ⟨by omega, hn, fun hn => ?_⟩
  obtain ⟨g, cap, hv, _, hlt⟩ := own_form h hn
  have hA : A = some ⟨g, 0, none⟩ := by injection hv
  subst hA
  exact ⟨_, rfl, hlt, fun j c hj => by unfold intC; rw [Nat.mul_one]; exact h.cells (g := g) rfl _ _ (by rw [List.getElem?_map, hj]; rfl)⟩

set_option maxRecDepth 100000 in
theorem choose_list {α β : Type} : ∀ (P : Nat → α → β → Prop) (l : List α), (∀ j x, l[j]? = some x → ∃ y, P j x y) → ∃ ys : List β, ys.length = l.length ∧ ∀ j x, l[j]? = some x → ∃ y, ys[j]? = some y ∧ P j x y
  | _, [], _ => ⟨[], rfl, fun j x h => by simp at h⟩
  | P, a :: l, h => by
    obtain ⟨y, hy⟩ := h 0 a rfl
    obtain ⟨ys, h1, h2⟩ := choose_list (fun j => P (j + 1)) l (fun j x hx => h (j + 1) x (by simpa using hx))
    refine ⟨y :: ys, by simp [h1], fun j x hx => ?_⟩
    match j, hx with
    | 0, hx =>
      obtain rfl : a = x := by simpa using hx
      exact ⟨y, rfl, hy⟩
    | j + 1, hx =>
      obtain ⟨y', h3, h4⟩ := h2 j x (by simpa using hx)
      exact ⟨y', by simpa using h3, h4⟩
end Go.Proofs.Ytolkghdeppoanaa.RkR
