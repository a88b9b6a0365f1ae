/-
  Rows of the call's own: append of whatever lies in memory, at texts, ints and messages; messages as their cells.
-/
import Derived.Test.YtchlbbndfhibgaaGreatDoorBxA
set_option linter.unusedVariables false
set_option linter.unusedSimpArgs false
namespace Go.Proofs.YtchlbbndfhibgaaGreatDoor.BxR
open Go.RowKit Go.Proofs.YtchlbbndfhibgaaGreatDoor.BxD Go.Proofs.YtchlbbndfhibgaaGreatDoor.BxKit Go.Proofs.YtchlbbndfhibgaaGreatDoor.BxA

/-- A slice's type, its elements' type, their zero value, cells, bytes. -/
structure El (t e : TypeId) (z : Value) (sz by_ : Nat) : Prop where
  und : Tryz.prog.underlying t = some (.slice e)
  info : (Tryz.prog.info? e).map (fun i => (i.zero, i.size, i.bytes)) = some (some z, sz, by_)
  zs : z.cells.size = sz
  pos : 0 < sz
theorem elS : El 22 9 (.string ⟨#[]⟩) 1 16 := ⟨Tryz.underlying22, by kernel_rfl, rfl, by decide⟩
theorem elI : El 26 3 (.int .i64 0) 1 8 := ⟨Tryz.underlying26, by kernel_rfl, rfl, by decide⟩
theorem elM : El 23 28 (.agg #[.int .i64 0, .int .i64 0, .int .i64 0, .string ⟨#[]⟩, .int .i64 0, .slice none 0 0, .string ⟨#[]⟩]) 7 88 := ⟨Tryz.underlying23, by kernel_rfl, rfl, by decide⟩

/-- What an append reads: m elements at A, their cells. -/
def Src (w : World) (A : Option Addr) (m sz : Nat) (news : List Value) : Prop :=
  news.length = m * sz ∧ (∀ u ∈ news, u.oneCell' = true) ∧ (0 < m → ∃ ad, A = some ad ∧ ∀ j u, news[j]? = some u → w.cell? (ad.add j) = some u)

theorem run_rows {t e : TypeId} {z : Value} {sz by_ : Nat} (el : El t e z sz by_) {w : World} {base n m c : Nat} {v : Value} {xs news : List Value} {A : Option Addr} (ty : TypeId) (hown : w.ownsRow base e sz v n xs) (hs : Src w A m sz news)
    (h63 : n + m ≤ maxLen) (hb : (n + m) * by_ ≤ 140737488355328) (hbase : base ≤ w.heap.size) :
    ∃ v' w', (Builtin.append_ #[t, t] ty #[v, .slice A m c]).run Tryz.prog w = .ok v' w' ∧ w'.ownsRow base e sz v' (n + m) (xs ++ news) ∧ w.grownBy w' v.ownBlock ∧
      (v'.ownBlock = v.ownBlock ∨ v'.ownBlock = some w.heap.size) := by
  obtain ⟨i0, hi, hz0, hz1, hz2⟩ := info_parts el.info
  obtain ⟨hl, h1, hc⟩ := hs
  by_cases hm : m = 0
  · subst hm
    have hn : news = [] := List.eq_nil_of_length_eq_zero (by rw [hl, Nat.zero_mul])
    subst hn
    cases A with
    | none =>
      refine ⟨v, w, ?_, by simpa using hown, World.grownBy.refl w _, .inl rfl⟩
      rcases hown.2 with ⟨rfl, rfl⟩ | ⟨g, cap, cur, rfl, _, _, hnc, _⟩
      · simp [Builtin.append_, run_underlying el.und, sizeOf, typeInfo, hi, Builtin.lenOf, Builtin.firstCells]
      · simp [Builtin.append_, run_underlying el.und, sizeOf, typeInfo, hi, Builtin.lenOf, Builtin.firstCells, hnc, storeCells]
    | some ad =>
      obtain ⟨v', w', hrun, h2, h3, _, h5⟩ := run_append_own_at (P := Tryz.prog) w base t ty e i0 z sz by_ el.und hi hz0 hz1 hz2 el.zs el.pos v n xs hown ad 0 c [] (by simp) (by simp) (by simp) h63 hb hbase
      exact ⟨v', w', hrun, h2, h3, h5⟩
  · obtain ⟨ad, rfl, hcell⟩ := hc (by omega)
    obtain ⟨v', w', hrun, h2, h3, _, h5⟩ := run_append_own_at (P := Tryz.prog) w base t ty e i0 z sz by_ el.und hi hz0 hz1 hz2 el.zs el.pos v n xs hown ad m c news hl hcell h1 h63 hb hbase
    exact ⟨v', w', hrun, h2, h3, h5⟩
theorem wp_rows {t e : TypeId} {z : Value} {sz by_ : Nat} (el : El t e z sz by_) {w : World} {base n m c : Nat} {v : Value} {xs news : List Value} {A : Option Addr} {o : Oper} {a : Act} {K : Act → World → Prop} {Q : Exit → Act → World → Prop} (s x : Operand)
    (ho : o.op = .call { callee := .builtin .append, args := #[s, x], argTypes := #[t, t] }) (hs : a.eval s = v) (hx : a.eval x = .slice A m c) (hown : w.ownsRow base e sz v n xs) (hz : Src w A m sz news)
    (h63 : n + m ≤ maxLen) (hb : (n + m) * by_ ≤ 140737488355328) (hbase : base ≤ w.heap.size)
    (h : ∀ v' w', w'.ownsRow base e sz v' (n + m) (xs ++ news) → w.grownBy w' v.ownBlock → (v'.ownBlock = v.ownBlock ∨ v'.ownBlock = some w.heap.size) → K (a.put o.dst v') w') : o.wp Tryz.prog a w K Q := by
  obtain ⟨v', w', hrun, h2, h3, h4⟩ := run_rows (c := c) el o.type hown hz h63 hb hbase
  unfold Oper.wp execOp
  simp only [ho, resolve, invoke, builtin, Sem.run_bind, Sem.run_pure, Result.andThen_ok, List.map_toArray, List.map_cons, List.map_nil, hs, hx, hrun]
  exact h v' w' h2 h3 h4
theorem wpList_rows {t e : TypeId} {z : Value} {sz by_ : Nat} (el : El t e z sz by_) {w : World} {base n m c : Nat} {v : Value} {xs news : List Value} {A : Option Addr} {ops : Array Oper} {rest : List Oper} {o : Oper} {a : Act} {Q : Exit → Act → World → Prop} (hgd : o.guard = none) (s x : Operand)
    (ho : o.op = .call { callee := .builtin .append, args := #[s, x], argTypes := #[t, t] }) (hs : a.eval s = v) (hx : a.eval x = .slice A m c) (hown : w.ownsRow base e sz v n xs) (hz : Src w A m sz news)
    (h63 : n + m ≤ maxLen) (hb : (n + m) * by_ ≤ 140737488355328) (hbase : base ≤ w.heap.size)
    (h : ∀ v' w', w'.ownsRow base e sz v' (n + m) (xs ++ news) → w.grownBy w' v.ownBlock → (v'.ownBlock = v.ownBlock ∨ v'.ownBlock = some w.heap.size) → wpList Tryz.prog ops Q rest (a.put o.dst v') w') : wpList Tryz.prog ops Q (o :: rest) a w :=
  wpList_plain hgd fun _ hK => wp_rows el s x ho hs hx hown hz h63 hb hbase fun v' w' h2 h3 h4 => hK _ _ (h v' w' h2 h3 h4)
theorem step_rows {t e : TypeId} {z : Value} {sz by_ : Nat} (el : El t e z sz by_) {w : World} {base n m c : Nat} {v : Value} {xs news : List Value} {A : Option Addr} {ops : Array Oper} {o : Oper} {a : Act} {K : Act → World → Prop} {Q : Exit → Act → World → Prop} {E : Prop} (hgd : o.guard = none) (s x : Operand)
    (ho : o.op = .call { callee := .builtin .append, args := #[s, x], argTypes := #[t, t] }) (hs : a.eval s = v) (hx : a.eval x = .slice A m c) (hown : w.ownsRow base e sz v n xs) (hz : Src w A m sz news)
    (h63 : n + m ≤ maxLen) (hb : (n + m) * by_ ≤ 140737488355328) (hbase : base ≤ w.heap.size)
    (h : ∀ v' w', w'.ownsRow base e sz v' (n + m) (xs ++ news) → w.grownBy w' v.ownBlock → (v'.ownBlock = v.ownBlock ∨ v'.ownBlock = some w.heap.size) → K (a.put o.dst v') w') :
    if Region.wanted o (yielded ops a.tmps) = true then Oper.wp Tryz.prog o a w K Q else E := by
  have hw : Region.wanted o (yielded ops a.tmps) = true := by simp [Region.wanted, hgd]
  rw [if_pos hw]
  exact wp_rows el s x ho hs hx hown hz h63 hb hbase h

theorem own_slice {w : World} {base e sz n : Nat} {v : Value} {xs : List Value} (h : w.ownsRow base e sz v n xs) : ∃ A cp, v = .slice A n cp ∧ n ≤ cp := by
  rcases h.2 with ⟨rfl, rfl⟩ | ⟨g, cap, cur, rfl, _, _, hnc, _⟩
  · exact ⟨_, _, rfl, Nat.le_refl _⟩
  · exact ⟨_, _, rfl, hnc⟩
theorem own_form {w : World} {base e sz n : Nat} {v : Value} {xs : List Value} (h : w.ownsRow base e sz v n xs) (hn : 0 < n) : ∃ g cap, v = .slice (some ⟨g, 0, none⟩) n cap ∧ base ≤ g ∧ g < w.heap.size := by
  rcases h.2 with ⟨rfl, rfl⟩ | ⟨g, cap, cur, rfl, hb, hg, _⟩
  · omega
  · exact ⟨g, cap, rfl, hb, (Array.getElem?_eq_some_iff.1 hg).1⟩
theorem add_new (g j : Nat) : (⟨g, 0, none⟩ : Addr).add j = ⟨g, j, none⟩ := by unfold Addr.add; split <;> simp_all
theorem cell_new (w : World) (cs : Array Value) (t : TypeId) (j : Nat) : (w.alloc (.cells cs t)).cell? ((⟨w.heap.size, 0, none⟩ : Addr).add j) = cs[j]? := by
  rw [add_new, cell_of_row _ w.heap.size j cs t (0, 0) (heap_alloc_new w _)]
/-- Elements laid in a new block. -/
theorem src_new (w : World) (cs : Array Value) (t : TypeId) {b m sz : Nat} (hb : b = w.heap.size) (hl : cs.size = m * sz) (h1 : ∀ u ∈ cs.toList, u.oneCell' = true) : Src (w.alloc (.cells cs t)) (some ⟨b, 0, none⟩) m sz cs.toList := by
  subst hb
  exact ⟨by simpa using hl, h1, fun _ => ⟨_, rfl, fun j u hu => by rw [cell_new]; simpa using hu⟩⟩

/-- Texts: those of a row of the call's own, and others. -/
theorem strs_src {w : World} {B n : Nat} {A : Option Addr} {l : List ByteArray} (h : StrsAt w B A n l) : Src w A n 1 (l.map Value.string) := by
  refine ⟨by rw [List.length_map, h.len, Nat.mul_one], fun u hu => by obtain ⟨x, _, rfl⟩ := List.mem_map.1 hu; rfl, fun hn => ?_⟩
  obtain ⟨ad, e, _, hc⟩ := h.2.2 hn
  refine ⟨ad, e, fun j u hu => ?_⟩
  rw [List.getElem?_map] at hu
  cases hx : l[j]? with
  | none => rw [hx] at hu; cases hu
  | some x =>
    rw [hx] at hu
    obtain rfl : Value.string x = u := Option.some.inj hu
    have := (hc j x hx).1
    rwa [Nat.mul_one] at this
theorem ints_src {w : World} {B n : Nat} {A : Option Addr} {l : List Int} (h : IntsAt w B A n l) : Src w A n 1 (l.map (Value.int .i64)) := by
  refine ⟨by rw [List.length_map, h.len, Nat.mul_one], fun u hu => by obtain ⟨x, _, rfl⟩ := List.mem_map.1 hu; rfl, fun hn => ?_⟩
  obtain ⟨ad, e, _, hc⟩ := h.2.2 hn
  refine ⟨ad, e, fun j u hu => ?_⟩
  rw [List.getElem?_map] at hu
  cases hx : l[j]? with
  | none => rw [hx] at hu; cases hu
  | some x =>
    rw [hx] at hu
    obtain rfl : Value.int .i64 x = u := Option.some.inj hu
    have := hc j x hx
    unfold intC at this
    rwa [Nat.mul_one] at this
theorem strsAt_own {w : World} {base n cp : Nat} {A : Option Addr} {l : List ByteArray} (h : w.ownsRow base 9 1 (.slice A n cp) n (l.map Value.string)) (hn : n ≤ 140737488355328) (hz : ∀ x ∈ l, x.size ≤ 140737488355328) : StrsAt w w.heap.size A n l := by
  have hl := h.1
  rw [List.length_map] at hl
  refine ⟨by omega, hn, fun hn => ?_⟩
  obtain ⟨g, cap, hv, _, hlt⟩ := own_form h hn
  have hA : A = some ⟨g, 0, none⟩ := by injection hv
  subst hA
  exact ⟨_, rfl, hlt, fun j c hj => ⟨by rw [Nat.mul_one]; exact h.cells (g := g) rfl _ _ (by rw [List.getElem?_map, hj]; rfl), hz c (List.mem_of_getElem? hj)⟩⟩
theorem intsAt_own {w : World} {base n cp : Nat} {A : Option Addr} {l : List Int} (h : w.ownsRow base 3 1 (.slice A n cp) n (l.map (Value.int .i64))) (hn : n ≤ 140737488355328) : IntsAt w w.heap.size A n l := by
  have hl := h.1
  rw [List.length_map] at hl
  refine ⟨by omega, hn, fun hn => ?_⟩
  obtain ⟨g, cap, hv, _, hlt⟩ := own_form h hn
  have hA : A = some ⟨g, 0, none⟩ := by injection hv
  subst hA
  exact ⟨_, rfl, hlt, fun j c hj => by unfold intC; rw [Nat.mul_one]; exact h.cells (g := g) rfl _ _ (by rw [List.getElem?_map, hj]; rfl)⟩

/-- A message with its keys' slice. -/
structure Raw where
  m : Msg
  K : Option Addr
  c : Nat
def cell7 (r : Raw) : List Value := [.int .i64 r.m.uid, .int .i64 r.m.mod, .int .i64 r.m.date, .string r.m.id, .int .i64 r.m.flags, .slice r.K r.m.keys.length r.c, .string r.m.text]
def mc (l : List Raw) : List Value := l.flatMap cell7
def KeysOk (w : World) (B : Nat) (l : List Raw) : Prop := ∀ r ∈ l, IntsAt w B r.K r.m.keys.length r.m.keys ∧ r.m.keys.length ≤ r.c ∧ r.m.id.size ≤ 140737488355328 ∧ r.m.text.size ≤ 140737488355328
theorem mc_length : ∀ l : List Raw, (mc l).length = l.length * 7
  | [] => rfl
  | r :: l => by
    have := mc_length l
    unfold mc at this ⊢
    rw [List.flatMap_cons, List.length_append, this, List.length_cons]
    simp [cell7]; omega
theorem mc_append (a b : List Raw) : mc (a ++ b) = mc a ++ mc b := by unfold mc; rw [List.flatMap_append]
theorem mc_get : ∀ (l : List Raw) (i f : Nat) (r : Raw), l[i]? = some r → f < 7 → (mc l)[i * 7 + f]? = (cell7 r)[f]?
  | r0 :: l, 0, f, r, h, hf => by
    obtain rfl : r0 = r := by simpa using h
    unfold mc
    rw [List.flatMap_cons, Nat.zero_mul, Nat.zero_add, List.getElem?_append_left (by simpa [cell7] using hf)]
  | r0 :: l, i + 1, f, r, h, hf => by
    have := mc_get l i f r (by simpa using h) hf
    unfold mc at this ⊢
    rw [List.flatMap_cons, List.getElem?_append_right (by simp [cell7]; omega), ← this]
    congr 1
    simp [cell7]; omega
theorem mc_one (l : List Raw) : ∀ u ∈ mc l, u.oneCell' = true := by
  intro u hu
  unfold mc at hu
  obtain ⟨r, _, h⟩ := List.mem_flatMap.1 hu
  simp only [cell7, List.mem_cons, List.not_mem_nil, or_false] at h
  rcases h with rfl | rfl | rfl | rfl | rfl | rfl | rfl <;> rfl
theorem choose_list {α β : Type} : ∀ (P : Nat → α → β → Prop) (l : List α), (∀ j x, l[j]? = some x → ∃ y, P j x y) → ∃ ys : List β, ys.length = l.length ∧ ∀ j x, l[j]? = some x → ∃ y, ys[j]? = some y ∧ P j x y
  | _, [], _ => ⟨[], rfl, fun j x h => by simp at h⟩
  | P, a :: l, h => by
    obtain ⟨y, hy⟩ := h 0 a rfl
    obtain ⟨ys, h1, h2⟩ := choose_list (fun j => P (j + 1)) l (fun j x hx => h (j + 1) x (by simpa using hx))
    refine ⟨y :: ys, by simp [h1], fun j x hx => ?_⟩
    match j, hx with
    | 0, hx =>
      obtain rfl : a = x := by simpa using hx
      exact ⟨y, rfl, hy⟩
    | j + 1, hx =>
      obtain ⟨y', h3, h4⟩ := h2 j x (by simpa using hx)
      exact ⟨y', by simpa using h3, h4⟩
theorem seven {p : Addr} {f : Nat} (_hf : f < 7) : p.add f = if f = 0 then p else fld p f := by
  unfold Addr.add fld
  split
  · rfl
  · rfl
theorem msgs_raw {w : World} {B n : Nat} {A : Option Addr} {l : List Msg} (h : MsgsAt w B A n l) : ∃ rs : List Raw, rs.map Raw.m = l ∧ KeysOk w B rs ∧ Src w A n 7 (mc rs) := by
  by_cases hn : n = 0
  · subst hn
    have hl : l = [] := List.eq_nil_of_length_eq_zero h.len
    subst hl
    exact ⟨[], rfl, fun r hr => by simp at hr, rfl, fun u hu => by simp [mc] at hu, fun h => absurd h (Nat.lt_irrefl 0)⟩
  obtain ⟨ad, e, hlt, hc⟩ := h.2.2 (by omega)
  obtain ⟨ys, h1, h2⟩ := choose_list (fun j m (y : Option Addr × Nat) => w.cell? (fld (ad.add (j * 7)) 5) = some (.slice y.1 m.keys.length y.2) ∧ m.keys.length ≤ y.2 ∧ IntsAt w B y.1 m.keys.length m.keys) l
    (fun j m hj => by
      obtain ⟨_, _, _, _, _, ⟨K, c, h5, h6, h7⟩, _⟩ := hc j m hj
      exact ⟨(K, c), h5, h6, h7⟩)
  let rs := (l.zip ys).map fun p => (⟨p.1, p.2.1, p.2.2⟩ : Raw)
  have hrl : rs.length = n := by simp only [rs, List.length_map, List.length_zip, h1, Nat.min_self]; exact h.len
  have hr : ∀ (j : Nat) (r : Raw), rs[j]? = some r → l[j]? = some r.m ∧ ys[j]? = some (r.K, r.c) := by
    intro j r hj
    simp only [rs, List.getElem?_map] at hj
    cases hz : (l.zip ys)[j]? with
    | none => rw [hz] at hj; cases hj
    | some p =>
      rw [hz] at hj
      obtain rfl := Option.some.inj hj
      rw [List.getElem?_zip_eq_some] at hz
      exact hz
  refine ⟨rs, ?_, ?_, ?_⟩
  · simp only [rs, List.map_map]
    have : (Raw.m ∘ fun p : Msg × Option Addr × Nat => (⟨p.1, p.2.1, p.2.2⟩ : Raw)) = Prod.fst := rfl
    rw [this, List.map_fst_zip (by omega)]
  · intro r hrm
    obtain ⟨j, hj⟩ := List.mem_iff_getElem?.1 hrm
    obtain ⟨a1, a2⟩ := hr j r hj
    obtain ⟨y, b1, _, b3, b4⟩ := h2 j r.m a1
    rw [a2] at b1
    obtain rfl := Option.some.inj b1
    obtain ⟨_, _, _, _, _, _, _, c8, c9⟩ := hc j r.m a1
    exact ⟨b4, b3, c8, c9⟩
  · refine ⟨by rw [mc_length, hrl], mc_one rs, fun _ => ⟨ad, e, fun j u hu => ?_⟩⟩
    have hjl : j < rs.length * 7 := by rw [← mc_length]; exact (List.getElem?_eq_some_iff.1 hu).1
    have hi : j / 7 < rs.length := by omega
    have hg : rs[j / 7]? = some (rs[j / 7]'hi) := List.getElem?_eq_getElem hi
    obtain ⟨a1, a2⟩ := hr _ _ hg
    obtain ⟨y, b1, b2, b3, b4⟩ := h2 _ _ a1
    rw [a2] at b1
    obtain rfl := Option.some.inj b1
    obtain ⟨c0, c1, c2, c3, c4, _, c6, _⟩ := hc _ _ a1
    have hm := mc_get rs (j / 7) (j % 7) _ hg (Nat.mod_lt _ (by decide))
    rw [show j / 7 * 7 + j % 7 = j by omega, hu] at hm
    rw [show ad.add j = (ad.add (j / 7 * 7)).add (j % 7) by rw [add_add]; congr 1; omega]
    have hf : j % 7 < 7 := Nat.mod_lt _ (by decide)
    rw [seven hf]
    generalize j % 7 = f at hm hf
    match f, hf with
    | 0, _ => rw [if_pos rfl, c0]; exact hm.symm
    | 1, _ => rw [if_neg (by decide), c1]; exact hm.symm
    | 2, _ => rw [if_neg (by decide), c2]; exact hm.symm
    | 3, _ => rw [if_neg (by decide), c3]; exact hm.symm
    | 4, _ => rw [if_neg (by decide), c4]; exact hm.symm
    | 5, _ => rw [if_neg (by decide), b2]; exact hm.symm
    | 6, _ => rw [if_neg (by decide), c6]; exact hm.symm
theorem msgsAt_own {w : World} {base n cp : Nat} {A : Option Addr} {rs : List Raw} (h : w.ownsRow base 28 7 (.slice A n cp) n (mc rs)) (hn : n ≤ 140737488355328) (hk : KeysOk w w.heap.size rs) : MsgsAt w w.heap.size A n (rs.map Raw.m) := by
  have hl := h.1
  rw [mc_length] at hl
  refine ⟨by rw [List.length_map]; omega, hn, fun hn => ?_⟩
  obtain ⟨g, cap, hv, _, hlt⟩ := own_form h hn
  have hA : A = some ⟨g, 0, none⟩ := by injection hv
  subst hA
  refine ⟨_, rfl, hlt, fun j m hj => ?_⟩
  rw [List.getElem?_map] at hj
  cases hr : rs[j]? with
  | none => rw [hr] at hj; cases hj
  | some r =>
    rw [hr] at hj
    obtain rfl : r.m = m := Option.some.inj hj
    obtain ⟨k1, k2, k3, k4⟩ := hk r (List.mem_of_getElem? hr)
    have hc : ∀ f, f < 7 → ∀ u, (cell7 r)[f]? = some u → w.cell? (((⟨g, 0, none⟩ : Addr).add (j * 7)).add f) = some u := by
      intro f hf u hu
      rw [add_add]
      exact h.cells (g := g) rfl _ _ ((mc_get rs j f r hr hf).trans hu)
    have hc0 := hc 0 (by decide) _ rfl
    have hc' : ∀ f, f < 7 → f ≠ 0 → ∀ u, (cell7 r)[f]? = some u → w.cell? (fld ((⟨g, 0, none⟩ : Addr).add (j * 7)) f) = some u := by
      intro f hf h0 u hu
      have := hc f hf u hu
      rw [seven hf, if_neg h0] at this
      exact this
    exact ⟨by rw [seven (by decide), if_pos rfl] at hc0; exact hc0, hc' 1 (by decide) (by decide) _ rfl, hc' 2 (by decide) (by decide) _ rfl, hc' 3 (by decide) (by decide) _ rfl, hc' 4 (by decide) (by decide) _ rfl,
      ⟨r.K, r.c, hc' 5 (by decide) (by decide) _ rfl, k2, k1⟩, hc' 6 (by decide) (by decide) _ rfl, k3, k4⟩
end Go.Proofs.YtchlbbndfhibgaaGreatDoor.BxR
