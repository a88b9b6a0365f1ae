/-
  The law's cut out of both rows, the statement alone: whatever order its operations come in, over a frame that is not written out.
-/
import Derived.Test.YtnijiimljpbgpaaCutP
import Derived.Test.YtnijiimljpbgpaaPlB
import Derived.Deep.RegionLaw
set_option linter.unusedVariables false
set_option linter.unusedSimpArgs false
namespace Go.Proofs.Ytnijiimljpbgpaa.PL
open Go.RowKit Go.Proofs.Ytnijiimljpbgpaa.Kit Go.Proofs.Ytnijiimljpbgpaa.Arg

def findRegion (n : Nat) : Code → Option Code
  | .region id ops d => if id = n then some (.region id ops d) else none
  | .loop c => findRegion n c
  | .seq a b => match findRegion n a with
    | some c => some c
    | none => findRegion n b
  | .block _ c => findRegion n c
  | .scope c => findRegion n c
  | .cond _ a b => match findRegion n a with
    | some c => some c
    | none => findRegion n b
  | _ => none
noncomputable def code30 : Code := ((Try.f3.body.bind (findRegion 30)).getD .skip)
noncomputable def code25 : Code := ((Try.f3.body.bind (findRegion 25)).getD .skip)

section
variable {ops : Array Oper} {Q : Exit → Act → World → Prop} {o : Oper} {a : Act} {w : World} {i d s x : Nat}
theorem ev_same {v : Value} (h : d < a.tmps.size) : (a.put (some d) v).eval (.tmp d) = v := by simp [Act.eval, Act.put, h]
theorem ev_ne {v : Value} {k : Nat} (h : d ≠ k) : (a.put (some d) v).eval (.tmp k) = a.eval (.tmp k) := by simp [Act.eval, Act.put, Array.getElem?_setIfInBounds_ne h]
theorem out_ne {v : Value} {k : Nat} (h : d ≠ k) : (a.put (some d) v).tmps[k]? = a.tmps[k]? := by simp [Act.put, Array.getElem?_setIfInBounds_ne h]
theorem df_put {v : Value} : (a.put (some d) v).defers = a.defers := rfl
theorem sz_put {v : Value} : (a.put (some d) v).tmps.size = a.tmps.size := by simp [Act.put]

theorem take_ {fuel : Nat} {listed : Array Bool} {v : Value} (hi : ops[i]? = some o) (hd : o.dst = some d) (hs : Region.noSelect ops = true) (hf : Region.free .any ops listed i = true) (hr : (Region.ready .any ops listed).contains i = true)
    (hQ : ∀ c (b : Act) (d : Nat) v w, Q (.panic c) (b.put (some d) v) w → Q (.panic c) b w) (hy : Yields Try.prog ops o v a) (h : wpAny Try.prog .any ops Q fuel (listed.setIfInBounds i true) (a.put (some d) v) w) : wpAny Try.prog .any ops Q (fuel + 1) listed a w :=
  wpAny_take hi hs hf hr (fun _ _ _ h => by rw [hd] at h; exact hQ _ _ _ _ _ h) hy (by rw [hd]; exact h)

theorem y_of {v : Value} (hg : o.guard = none) (h : ∀ w, (execOp a.eval o).run Try.prog w = .ok (.value v) w) : Yields Try.prog ops o v a := .inl ⟨by simp [Region.wanted, hg], h⟩
theorem y_move {v : Value} (hop : o.op = .move (.tmp s)) (hg : o.guard = none) (h : a.eval (.tmp s) = v) : Yields Try.prog ops o v a := y_of hg fun w => by simp [execOp, hop, h]
theorem y_assign {v : Value} (hop : o.op = .assign (.tmp s)) (hg : o.guard = none) (h : a.eval (.tmp s) = v) : Yields Try.prog ops o v a := y_of hg fun w => by simp [execOp, hop, h]
def R (A : Option Addr) (c L : Nat) : Option Addr := if c = L + 1 then A else Option.map (fun x : Addr => x.add (L + 1)) A
theorem y_high {A : Option Addr} {m c L : Nat} (hop : o.op = .slice 26 (.tmp s) none (some (.tmp x)) none) (hg : o.guard = none) (h1 : a.eval (.tmp s) = .slice A m c) (h2 : a.eval (.tmp x) = .int .i64 L) (h : L ≤ c) : Yields Try.prog ops o (.slice A L c) a :=
  y_of hg fun w => by
    have h3 : (L : Int) ≤ (c : Int) := by omega
    simp only [execOp, hop, h1, h2, Option.map_some, Option.map_none]
    go_simp
theorem y_low {A : Option Addr} {m c L : Nat} (hop : o.op = .slice 26 (.tmp s) (some (.tmp x)) none none) (hg : o.guard = none) (h1 : a.eval (.tmp s) = .slice A m c) (h2 : a.eval (.tmp x) = .int .i64 ((L : Int) + 1)) (h : (L : Int) + 1 ≤ (m : Int)) : Yields Try.prog ops o (.slice (R A c L) (m - (L + 1)) (c - (L + 1))) a :=
  y_of hg fun w => by
    have h4 : (0 : Int) ≤ (L : Int) + 1 := by omega
    have h5 : ((L : Int) + 1).toNat = L + 1 := by omega
    simp only [execOp, hop, h1, h2, Option.map_some, Option.map_none]
    go_simp
    simp [R, Addr.add]
theorem y_add {L : Nat} (hop : o.op = .binOp .add 3 (.tmp s) (.const (.int .i64 1)) 3) (hg : o.guard = none) (h1 : a.eval (.tmp s) = .int .i64 L) (h : IntKind.i64.wrap ((L : Int) + 1) = (L : Int) + 1) : Yields Try.prog ops o (.int .i64 ((L : Int) + 1)) a :=
  y_of hg fun w => by
    simp only [execOp, hop, h1]
    go_simp

theorem op_build {K : Act → World → Prop} (hi : ops[i]? = some o) (hd : o.dst = some d) (hg : o.guard = none) (hop : o.op = .buildSlice 26 0 #[])
    (h : K (a.put (some d) (.slice (some ⟨w.heap.size, 0, none⟩) 0 0)) (w.alloc (.cells #[] 3))) : wpOp Try.prog ops Q i K a w := by
  unfold wpOp
  simp only [hi]
  rw [if_pos (by simp [Region.wanted, hg])]
  refine .inl ?_
  rw [← hd] at h
  have h1 : (execOp a.eval o).run Try.prog w = .ok (.value (.slice (some ⟨w.heap.size, 0, none⟩) 0 0)) (w.alloc (.cells #[] 3)) := by
    simp only [execOp, hop]
    go_simp
  unfold Oper.wp
  rw [h1]
  exact h
theorem op_append {K : Act → World → Prop} (hi : ops[i]? = some o) (hd : o.dst = some d) (hg : o.guard = none) (hop : o.op = Op.call { callee := Callee.builtin Builtin.append, args := #[.tmp s, .tmp x], argTypes := #[26, 26] }) (ht : o.type = 26)
    {v u : Value} (hv : a.eval (.tmp s) = v) (hu : a.eval (.tmp x) = u) {v' : Value} {w' : World} (hr : (Builtin.append_ #[26, 26] 26 #[v, u]).run Try.prog w = .ok v' w') (h : K (a.put (some d) v') w') : wpOp Try.prog ops Q i K a w := by
  unfold wpOp
  simp only [hi]
  have hw : Region.wanted o (yielded ops a.tmps) = true := by simp [Region.wanted, hg]
  rw [← hd] at h
  have h1 := step_append_eq (P := Try.prog) (ops := ops) (Q := Q) (E := True) (w := w) hg (.tmp s) (.tmp x) 26 26 hop v u hv hu (by rw [ht]; exact hr) h
  rw [if_pos hw] at h1 ⊢
  exact .inl h1
theorem y_field {b k : Nat} (hop : o.op = .fieldAddr 28 (.tmp s) k) (hg : o.guard = none) (hk : k = 1 ∨ k = 2) (h : a.eval (.tmp s) = .pointer (some ⟨b, 0, none⟩)) : Yields Try.prog ops o (.pointer (some ⟨b, k, none⟩)) a :=
  y_of hg fun w => by
    rcases hk with rfl | rfl
    · simp only [execOp, hop, h]
      go_simp
    · simp only [execOp, hop, h]
      go_simp
theorem op_load {K : Act → World → Prop} {p : Addr} {u : Int} (hi : ops[i]? = some o) (hd : o.dst = some d) (hg : o.guard = none) (hop : o.op = .load 3 (.tmp s)) (hv : a.eval (.tmp s) = .pointer (some p)) (hc : w.cell? p = some (.int .i64 u))
    (h : K (a.put (some d) (.int .i64 u)) w) : wpOp Try.prog ops Q i K a w := by
  unfold wpOp
  simp only [hi]
  rw [if_pos (by simp [Region.wanted, hg])]
  refine .inl ?_
  rw [← hd] at h
  have h1 : (execOp a.eval o).run Try.prog w = .ok (.value (.int .i64 u)) w := by
    simp only [execOp, hop, hv]
    go_simp
  unfold Oper.wp
  rw [h1]
  exact h
theorem op_call {K : Act → World → Prop} {y : Nat} {u1 u2 u3 : Value} {Rr : Ending → World → Prop} (hi : ops[i]? = some o) (hd : o.dst = some d) (hg : o.guard = none) (hop : o.op = Op.call { callee := Callee.value (.func 12), args := #[.tmp s, .tmp x, .tmp y], argTypes := #[26, 3, 3] })
    (h1 : a.eval (.tmp s) = u1) (h2 : a.eval (.tmp x) = u2) (h3 : a.eval (.tmp y) = u3) (hc : Calls Try.prog 12 #[u1, u2, u3] w Rr) (h : ∀ e w', Rr e w' → ∃ v, e = .returned v ∧ K (a.put (some d) v) w') : wpOp Try.prog ops Q i K a w := by
  unfold wpOp
  simp only [hi]
  rw [if_pos (by simp [Region.wanted, hg])]
  refine .inl ?_
  have hr : (execOp a.eval o).run Try.prog w = .ok (.enter 12 #[u1, u2, u3]) w := by
    simp only [execOp, hop]
    go_simp
    exact ⟨by simpa [Act.eval] using h1, by simpa [Act.eval] using h2, by simpa [Act.eval] using h3⟩
  unfold Oper.wp
  rw [hr]
  refine Calls.mono hc fun e w' he => ?_
  obtain ⟨v, rfl, hk⟩ := h e w' he
  rw [← hd] at hk
  exact hk
end

/-- a row of values turned at some places: so many stay, one is laid anew -/
def fill : List (Nat ⊕ Value) → List Value → List Value
  | [], l => l
  | _ :: _, [] => []
  | .inl 0 :: s, x :: l => fill s (x :: l)
  | .inl (n + 1) :: s, x :: l => x :: fill (.inl n :: s) l
  | .inr v :: s, _ :: l => v :: fill s l
def spot : List (Nat ⊕ Value) → Nat → Option Value
  | [], _ => none
  | .inl n :: s, i => if i < n then none else spot s (i - n)
  | .inr v :: _, 0 => some v
  | .inr _ :: s, i + 1 => spot s i
theorem fill_nil (l : List Value) : fill [] l = l := by simp [fill]
theorem fill_none (s : List (Nat ⊕ Value)) : fill s [] = [] := by cases s <;> simp [fill]
theorem fill_zero (s : List (Nat ⊕ Value)) (l : List Value) : fill (.inl 0 :: s) l = fill s l := by
  cases l with
  | nil => rw [fill_none, fill_none]
  | cons x l => rw [fill]
theorem fill_skip (n : Nat) (s : List (Nat ⊕ Value)) (x : Value) (l : List Value) : fill (.inl (n + 1) :: s) (x :: l) = x :: fill (.inl n :: s) l := by rw [fill]
theorem fill_lay (v : Value) (s : List (Nat ⊕ Value)) (x : Value) (l : List Value) : fill (.inr v :: s) (x :: l) = v :: fill s l := by rw [fill]
theorem fill_at : ∀ (s : List (Nat ⊕ Value)) (l : List Value) (i : Nat), i < l.length → (fill s l)[i]? = some ((spot s i).getD (l.getD i undef))
  | [], l, i, h => by simp [fill_nil, spot, h]
  | .inl n :: s, l, i, h => by
    induction n generalizing l i with
    | zero => rw [fill_zero]; simpa [spot] using fill_at s l i h
    | succ n ih =>
      cases l with
      | nil => simp at h
      | cons x l =>
        rw [fill_skip]
        cases i with
        | zero => simp [spot]
        | succ i =>
          have := ih l i (by simpa using h)
          simp only [List.getElem?_cons_succ, this, spot, Nat.add_lt_add_iff_right, Nat.add_sub_add_right, List.getD_cons_succ]
  | .inr v :: s, l, i, h => by
    cases l with
    | nil => simp at h
    | cons x l =>
      rw [fill_lay]
      cases i with
      | zero => simp [spot]
      | succ i =>
        have := fill_at s l i (by simpa using h)
        simpa [spot] using this
theorem fill_len : ∀ (s : List (Nat ⊕ Value)) (l : List Value), (fill s l).length = l.length
  | [], l => by rw [fill_nil]
  | .inl n :: s, l => by
    induction n generalizing l with
    | zero => rw [fill_zero]; exact fill_len s l
    | succ n ih =>
      cases l with
      | nil => rw [fill_none]
      | cons x l => rw [fill_skip, List.length_cons, ih, List.length_cons]
  | .inr v :: s, l => by
    cases l with
    | nil => rw [fill_none]
    | cons x l => rw [fill_lay, List.length_cons, fill_len s l, List.length_cons]

/-- a frame of which it is known where it has turned -/
theorem fill_eq {a a' : Act} (s : List (Nat ⊕ Value)) (D : List Nat) (n : Nat) (hn : a.tmps.size = n) (hs : a'.tmps.size = a.tmps.size) (hd : a'.defers = a.defers) (hk : ∀ k, k ∉ D → a'.tmps[k]? = a.tmps[k]?)
    (hout : (List.range n).all (fun i => D.contains i || !(spot s i).isSome) = true) (hin : ∀ k ∈ D, spot s k = some (a'.eval (.tmp k))) : a' = ⟨(fill s a.tmps.toList).toArray, a.defers⟩ := by
  obtain ⟨t', d'⟩ := a'
  simp only at hd hs hk
  subst hd
  congr 1
  apply Array.ext_getElem?
  intro i
  have e : (fill s a.tmps.toList).toArray[i]? = (fill s a.tmps.toList)[i]? := by simp
  rw [e]
  clear e
  by_cases hi : i < a.tmps.size
  · rw [fill_at s _ i (by simpa using hi)]
    by_cases hD : i ∈ D
    · rw [hin i hD]
      simp [Act.eval, show i < t'.size by omega]
    · have h1 := List.all_eq_true.1 hout i (List.mem_range.2 (by omega))
      have h2 : D.contains i = false := by simpa using hD
      rw [h2] at h1
      have h3 : spot s i = none := by simpa using h1
      rw [h3, hk i hD]
      simp [hi]
  · rw [Array.getElem?_eq_none (by omega), List.getElem?_eq_none (by rw [fill_len]; simp; omega)]

def D30 : List Nat := [167, 171, 176, 177, 181, 186, 7, 8]
def D30' : List Nat := [167, 168, 169, 170, 171, 172, 173, 174, 175, 176, 177, 178, 179, 180, 181, 182, 183, 184, 185, 186, 7, 8]
def D25 : List Nat := [148, 149, 150, 151, 152, 153, 154, 155, 156, 157, 7, 8]

set_option maxHeartbeats 4000000 in
theorem reg30b {ops : Array Oper} {a : Act} {w5 W0 : World} {Q : Exit → Act → World → Prop} {A7 A8 : Option Addr} {c7 c8 m L b7 b8 : Nat} {zs ys : List Int} {listed : Array Bool}
    (hops : code30 = .region 30 ops true) (hlisted : listed = #[false, true, true, true, false, true, true, true, true, false, false, true, true, true, false, true, true, true, true, false, false, false])
    (hQ : ∀ c (b : Act) (d : Nat) v w, Q (.panic c) (b.put (some d) v) w → Q (.panic c) b w) (hs : a.tmps.size = 294)
    (e170 : a.eval (.tmp 170) = .slice A7 L c7) (e175 : a.eval (.tmp 175) = .slice (R A7 c7 L) (m - (L + 1)) (c7 - (L + 1))) (e180 : a.eval (.tmp 180) = .slice A8 L c8) (e185 : a.eval (.tmp 185) = .slice (R A8 c8 L) (m - (L + 1)) (c8 - (L + 1)))
    (ho7 : w5.ownsRow b7 3 1 (.slice A7 m c7) m (ints zs)) (hl7 : zs.length = m) (hk1 : m ≤ c7) (ho8 : w5.ownsRow b8 3 1 (.slice A8 m c8) m (ints ys)) (hl8 : ys.length = m) (hk3 : m ≤ c8) (hLn : L < m) (hm : m ≤ 1000)
    (hb0 : Below w5.heap.size w5 W0)
    (hK : ∀ (a' : Act) (Z : World) (A5 : Option Addr) (c5 : Nat) (A9 : Option Addr) (c9 : Nat), Fin w5 zs ys L m A5 c5 A9 c9 Z → a'.tmps.size = a.tmps.size → a'.defers = a.defers → (∀ k, k ∉ D30 → a'.tmps[k]? = a.tmps[k]?) → a'.eval (.tmp 7) = .slice A5 (m - 1) c5 → a'.eval (.tmp 8) = .slice A9 (m - 1) c9 → Q .normal a' Z) :
    wpAny Try.prog .any ops Q 8 listed a W0 := by
  subst hlisted
  have hops' := hops
  unfold code30 at hops'
  conv at hops' => lhs; whnf
  injection hops' with _ hops'
  subst hops'
  clear hops
  have o3 := own_empty W0 w5.heap.size hb0.size
  obtain ⟨e4, e4c, eW4, re4, ⟨e5, e5c, eW5, e8, e8c, eW8, e9, e9c, eZ, re5, re8, re9, Fe⟩, f5, f5c, fW5, f8, f8c, fW8, f9, f9c, fZ, rf5, rf8, rf9, Ff⟩ := ordBC ho7 hl7 hk1 ho8 hl8 hk3 hLn hm (hb0.alloc hb0.size (.cells #[] 3)) o3
  have oN : ((W0.alloc (.cells #[] 3)).alloc (.cells #[] 3)).ownsRow w5.heap.size 3 1 (.slice (some ⟨W0.heap.size, 0, none⟩) 0 0) 0 (ints []) := World.ownsRow.alloc (w := W0.alloc (.cells #[] 3)) o3 _
  have oM : ((W0.alloc (.cells #[] 3)).alloc (.cells #[] 3)).ownsRow w5.heap.size 3 1 (.slice (some ⟨(W0.alloc (.cells #[] 3)).heap.size, 0, none⟩) 0 0) 0 (ints []) := own_empty (W0.alloc (.cells #[] 3)) w5.heap.size (hb0.alloc hb0.size (.cells #[] 3)).size
  have hx1 : Below w5.heap.size w5 ((W0.alloc (.cells #[] 3)).alloc (.cells #[] 3)) := (hb0.alloc hb0.size (.cells #[] 3)).alloc (hb0.alloc hb0.size (.cells #[] 3)).size _
  obtain ⟨a4, a4c, aW4, a5, a5c, aW5, a8, a8c, aW8, a9, a9c, aZ, ra4, ra5, ra8, ra9, Fa⟩ := ordA ho7 hl7 hk1 ho8 hl8 hk3 hLn hm hx1 oN oM (by simp)
  obtain ⟨b4, b4c, bW4, b5, b5c, bW5, b8, b8c, bW8, b9, b9c, bZ, rb4, rb5, rb8, rb9, Fb⟩ := ordA ho7 hl7 hk1 ho8 hl8 hk3 hLn hm hx1 oM oN (by simp)
  clear o3 oN oM hx1 ho7 ho8
  refine wpAny_all (rs := [0, 10]) (by kernel_rfl) (by simp) (fun i hi => ?_)
  simp only [List.mem_cons, List.not_mem_nil, or_false] at hi
  rcases hi with rfl | rfl
  · skip
    refine op_build (d := 167) rfl rfl rfl rfl ?_
    refine wpAny_all (rs := [4, 10]) (by kernel_rfl) (by simp) (fun i hi => ?_)
    simp only [List.mem_cons, List.not_mem_nil, or_false] at hi
    rcases hi with rfl | rfl
    · skip
      refine op_append (d := 171) (s := 167) (x := 170) rfl rfl rfl rfl rfl (v := (.slice (some ⟨W0.heap.size, 0, none⟩) 0 0)) (u := (.slice A7 L c7)) (by simp [ev_same, ev_ne, sz_put, hs, e170, e175, e180, e185]) (by simp [ev_same, ev_ne, sz_put, hs, e170, e175, e180, e185]) re4 ?_
      refine wpAny_all (rs := [9, 10]) (by kernel_rfl) (by simp) (fun i hi => ?_)
      simp only [List.mem_cons, List.not_mem_nil, or_false] at hi
      rcases hi with rfl | rfl
      · skip
        refine op_append (d := 176) (s := 171) (x := 175) rfl rfl rfl rfl rfl (v := (.slice e4 L e4c)) (u := (.slice (R A7 c7 L) (m - (L + 1)) (c7 - (L + 1)))) (by simp [ev_same, ev_ne, sz_put, hs, e170, e175, e180, e185]) (by simp [ev_same, ev_ne, sz_put, hs, e170, e175, e180, e185]) rf5 ?_
        refine wpAny_all (rs := [10]) (by kernel_rfl) (by simp) (fun i hi => ?_)
        obtain rfl := List.mem_singleton.1 hi
        refine op_build (d := 177) rfl rfl rfl rfl ?_
        refine wpAny_all (rs := [14]) (by kernel_rfl) (by simp) (fun i hi => ?_)
        obtain rfl := List.mem_singleton.1 hi
        refine op_append (d := 181) (s := 177) (x := 180) rfl rfl rfl rfl rfl (v := (.slice (some ⟨fW5.heap.size, 0, none⟩) 0 0)) (u := (.slice A8 L c8)) (by simp [ev_same, ev_ne, sz_put, hs, e170, e175, e180, e185]) (by simp [ev_same, ev_ne, sz_put, hs, e170, e175, e180, e185]) rf8 ?_
        refine wpAny_all (rs := [19]) (by kernel_rfl) (by simp) (fun i hi => ?_)
        obtain rfl := List.mem_singleton.1 hi
        refine op_append (d := 186) (s := 181) (x := 185) rfl rfl rfl rfl rfl (v := (.slice f8 L f8c)) (u := (.slice (R A8 c8 L) (m - (L + 1)) (c8 - (L + 1)))) (by simp [ev_same, ev_ne, sz_put, hs, e170, e175, e180, e185]) (by simp [ev_same, ev_ne, sz_put, hs, e170, e175, e180, e185]) rf9 ?_
        refine take_ (i := 20) (d := 7) (v := (.slice f5 (m - 1) f5c)) rfl rfl (by kernel_rfl) (by kernel_rfl) (by kernel_rfl) hQ (y_assign rfl rfl (by simp [ev_same, ev_ne, sz_put, hs, e170, e175, e180, e185])) ?_
        refine take_ (i := 21) (d := 8) (v := (.slice f9 (m - 1) f9c)) rfl rfl (by kernel_rfl) (by kernel_rfl) (by kernel_rfl) hQ (y_assign rfl rfl (by simp [ev_same, ev_ne, sz_put, hs, e170, e175, e180, e185])) ?_
        refine wpAny_done (by kernel_rfl) ?_ _
        refine hK _ _ _ _ _ _ Ff (by simp only [sz_put]) (by simp only [df_put]) (fun k hk => ?_) (by simp [ev_same, ev_ne, sz_put, hs]) (by simp [ev_same, ev_ne, sz_put, hs])
        simp only [D30, List.mem_cons, List.not_mem_nil, or_false, not_or] at hk
        obtain ⟨k1, k2, k3, k4, k5, k6, k7, k8⟩ := hk
        simp [out_ne, Ne.symm k1, Ne.symm k2, Ne.symm k3, Ne.symm k4, Ne.symm k5, Ne.symm k6, Ne.symm k7, Ne.symm k8]
      · skip
        refine op_build (d := 177) rfl rfl rfl rfl ?_
        refine wpAny_all (rs := [9]) (by kernel_rfl) (by simp) (fun i hi => ?_)
        obtain rfl := List.mem_singleton.1 hi
        refine op_append (d := 176) (s := 171) (x := 175) rfl rfl rfl rfl rfl (v := (.slice e4 L e4c)) (u := (.slice (R A7 c7 L) (m - (L + 1)) (c7 - (L + 1)))) (by simp [ev_same, ev_ne, sz_put, hs, e170, e175, e180, e185]) (by simp [ev_same, ev_ne, sz_put, hs, e170, e175, e180, e185]) re5 ?_
        refine wpAny_all (rs := [14]) (by kernel_rfl) (by simp) (fun i hi => ?_)
        obtain rfl := List.mem_singleton.1 hi
        refine op_append (d := 181) (s := 177) (x := 180) rfl rfl rfl rfl rfl (v := (.slice (some ⟨eW4.heap.size, 0, none⟩) 0 0)) (u := (.slice A8 L c8)) (by simp [ev_same, ev_ne, sz_put, hs, e170, e175, e180, e185]) (by simp [ev_same, ev_ne, sz_put, hs, e170, e175, e180, e185]) re8 ?_
        refine wpAny_all (rs := [19]) (by kernel_rfl) (by simp) (fun i hi => ?_)
        obtain rfl := List.mem_singleton.1 hi
        refine op_append (d := 186) (s := 181) (x := 185) rfl rfl rfl rfl rfl (v := (.slice e8 L e8c)) (u := (.slice (R A8 c8 L) (m - (L + 1)) (c8 - (L + 1)))) (by simp [ev_same, ev_ne, sz_put, hs, e170, e175, e180, e185]) (by simp [ev_same, ev_ne, sz_put, hs, e170, e175, e180, e185]) re9 ?_
        refine take_ (i := 20) (d := 7) (v := (.slice e5 (m - 1) e5c)) rfl rfl (by kernel_rfl) (by kernel_rfl) (by kernel_rfl) hQ (y_assign rfl rfl (by simp [ev_same, ev_ne, sz_put, hs, e170, e175, e180, e185])) ?_
        refine take_ (i := 21) (d := 8) (v := (.slice e9 (m - 1) e9c)) rfl rfl (by kernel_rfl) (by kernel_rfl) (by kernel_rfl) hQ (y_assign rfl rfl (by simp [ev_same, ev_ne, sz_put, hs, e170, e175, e180, e185])) ?_
        refine wpAny_done (by kernel_rfl) ?_ _
        refine hK _ _ _ _ _ _ Fe (by simp only [sz_put]) (by simp only [df_put]) (fun k hk => ?_) (by simp [ev_same, ev_ne, sz_put, hs]) (by simp [ev_same, ev_ne, sz_put, hs])
        simp only [D30, List.mem_cons, List.not_mem_nil, or_false, not_or] at hk
        obtain ⟨k1, k2, k3, k4, k5, k6, k7, k8⟩ := hk
        simp [out_ne, Ne.symm k1, Ne.symm k2, Ne.symm k3, Ne.symm k4, Ne.symm k5, Ne.symm k6, Ne.symm k7, Ne.symm k8]
    · skip
      refine op_build (d := 177) rfl rfl rfl rfl ?_
      refine wpAny_all (rs := [4]) (by kernel_rfl) (by simp) (fun i hi => ?_)
      obtain rfl := List.mem_singleton.1 hi
      refine op_append (d := 171) (s := 167) (x := 170) rfl rfl rfl rfl rfl (v := (.slice (some ⟨W0.heap.size, 0, none⟩) 0 0)) (u := (.slice A7 L c7)) (by simp [ev_same, ev_ne, sz_put, hs, e170, e175, e180, e185]) (by simp [ev_same, ev_ne, sz_put, hs, e170, e175, e180, e185]) ra4 ?_
      refine wpAny_all (rs := [9]) (by kernel_rfl) (by simp) (fun i hi => ?_)
      obtain rfl := List.mem_singleton.1 hi
      refine op_append (d := 176) (s := 171) (x := 175) rfl rfl rfl rfl rfl (v := (.slice a4 L a4c)) (u := (.slice (R A7 c7 L) (m - (L + 1)) (c7 - (L + 1)))) (by simp [ev_same, ev_ne, sz_put, hs, e170, e175, e180, e185]) (by simp [ev_same, ev_ne, sz_put, hs, e170, e175, e180, e185]) ra5 ?_
      refine wpAny_all (rs := [14]) (by kernel_rfl) (by simp) (fun i hi => ?_)
      obtain rfl := List.mem_singleton.1 hi
      refine op_append (d := 181) (s := 177) (x := 180) rfl rfl rfl rfl rfl (v := (.slice (some ⟨(W0.alloc (.cells #[] 3)).heap.size, 0, none⟩) 0 0)) (u := (.slice A8 L c8)) (by simp [ev_same, ev_ne, sz_put, hs, e170, e175, e180, e185]) (by simp [ev_same, ev_ne, sz_put, hs, e170, e175, e180, e185]) ra8 ?_
      refine wpAny_all (rs := [19]) (by kernel_rfl) (by simp) (fun i hi => ?_)
      obtain rfl := List.mem_singleton.1 hi
      refine op_append (d := 186) (s := 181) (x := 185) rfl rfl rfl rfl rfl (v := (.slice a8 L a8c)) (u := (.slice (R A8 c8 L) (m - (L + 1)) (c8 - (L + 1)))) (by simp [ev_same, ev_ne, sz_put, hs, e170, e175, e180, e185]) (by simp [ev_same, ev_ne, sz_put, hs, e170, e175, e180, e185]) ra9 ?_
      refine take_ (i := 20) (d := 7) (v := (.slice a5 (m - 1) a5c)) rfl rfl (by kernel_rfl) (by kernel_rfl) (by kernel_rfl) hQ (y_assign rfl rfl (by simp [ev_same, ev_ne, sz_put, hs, e170, e175, e180, e185])) ?_
      refine take_ (i := 21) (d := 8) (v := (.slice a9 (m - 1) a9c)) rfl rfl (by kernel_rfl) (by kernel_rfl) (by kernel_rfl) hQ (y_assign rfl rfl (by simp [ev_same, ev_ne, sz_put, hs, e170, e175, e180, e185])) ?_
      refine wpAny_done (by kernel_rfl) ?_ _
      refine hK _ _ _ _ _ _ Fa (by simp only [sz_put]) (by simp only [df_put]) (fun k hk => ?_) (by simp [ev_same, ev_ne, sz_put, hs]) (by simp [ev_same, ev_ne, sz_put, hs])
      simp only [D30, List.mem_cons, List.not_mem_nil, or_false, not_or] at hk
      obtain ⟨k1, k2, k3, k4, k5, k6, k7, k8⟩ := hk
      simp [out_ne, Ne.symm k1, Ne.symm k2, Ne.symm k3, Ne.symm k4, Ne.symm k5, Ne.symm k6, Ne.symm k7, Ne.symm k8]
  · skip
    refine op_build (d := 177) rfl rfl rfl rfl ?_
    refine wpAny_all (rs := [0]) (by kernel_rfl) (by simp) (fun i hi => ?_)
    obtain rfl := List.mem_singleton.1 hi
    refine op_build (d := 167) rfl rfl rfl rfl ?_
    refine wpAny_all (rs := [4]) (by kernel_rfl) (by simp) (fun i hi => ?_)
    obtain rfl := List.mem_singleton.1 hi
    refine op_append (d := 171) (s := 167) (x := 170) rfl rfl rfl rfl rfl (v := (.slice (some ⟨(W0.alloc (.cells #[] 3)).heap.size, 0, none⟩) 0 0)) (u := (.slice A7 L c7)) (by simp [ev_same, ev_ne, sz_put, hs, e170, e175, e180, e185]) (by simp [ev_same, ev_ne, sz_put, hs, e170, e175, e180, e185]) rb4 ?_
    refine wpAny_all (rs := [9]) (by kernel_rfl) (by simp) (fun i hi => ?_)
    obtain rfl := List.mem_singleton.1 hi
    refine op_append (d := 176) (s := 171) (x := 175) rfl rfl rfl rfl rfl (v := (.slice b4 L b4c)) (u := (.slice (R A7 c7 L) (m - (L + 1)) (c7 - (L + 1)))) (by simp [ev_same, ev_ne, sz_put, hs, e170, e175, e180, e185]) (by simp [ev_same, ev_ne, sz_put, hs, e170, e175, e180, e185]) rb5 ?_
    refine wpAny_all (rs := [14]) (by kernel_rfl) (by simp) (fun i hi => ?_)
    obtain rfl := List.mem_singleton.1 hi
    refine op_append (d := 181) (s := 177) (x := 180) rfl rfl rfl rfl rfl (v := (.slice (some ⟨W0.heap.size, 0, none⟩) 0 0)) (u := (.slice A8 L c8)) (by simp [ev_same, ev_ne, sz_put, hs, e170, e175, e180, e185]) (by simp [ev_same, ev_ne, sz_put, hs, e170, e175, e180, e185]) rb8 ?_
    refine wpAny_all (rs := [19]) (by kernel_rfl) (by simp) (fun i hi => ?_)
    obtain rfl := List.mem_singleton.1 hi
    refine op_append (d := 186) (s := 181) (x := 185) rfl rfl rfl rfl rfl (v := (.slice b8 L b8c)) (u := (.slice (R A8 c8 L) (m - (L + 1)) (c8 - (L + 1)))) (by simp [ev_same, ev_ne, sz_put, hs, e170, e175, e180, e185]) (by simp [ev_same, ev_ne, sz_put, hs, e170, e175, e180, e185]) rb9 ?_
    refine take_ (i := 20) (d := 7) (v := (.slice b5 (m - 1) b5c)) rfl rfl (by kernel_rfl) (by kernel_rfl) (by kernel_rfl) hQ (y_assign rfl rfl (by simp [ev_same, ev_ne, sz_put, hs, e170, e175, e180, e185])) ?_
    refine take_ (i := 21) (d := 8) (v := (.slice b9 (m - 1) b9c)) rfl rfl (by kernel_rfl) (by kernel_rfl) (by kernel_rfl) hQ (y_assign rfl rfl (by simp [ev_same, ev_ne, sz_put, hs, e170, e175, e180, e185])) ?_
    refine wpAny_done (by kernel_rfl) ?_ _
    refine hK _ _ _ _ _ _ Fb (by simp only [sz_put]) (by simp only [df_put]) (fun k hk => ?_) (by simp [ev_same, ev_ne, sz_put, hs]) (by simp [ev_same, ev_ne, sz_put, hs])
    simp only [D30, List.mem_cons, List.not_mem_nil, or_false, not_or] at hk
    obtain ⟨k1, k2, k3, k4, k5, k6, k7, k8⟩ := hk
    simp [out_ne, Ne.symm k1, Ne.symm k2, Ne.symm k3, Ne.symm k4, Ne.symm k5, Ne.symm k6, Ne.symm k7, Ne.symm k8]

set_option maxHeartbeats 4000000 in
/-- the cut out of both rows: whatever order its operations come in -/
theorem reg30 {a : Act} {w5 : World} {Q : Exit → Act → World → Prop} {A7 A8 : Option Addr} {c7 c8 m L b7 b8 : Nat} {zs ys : List Int}
    (hQ : ∀ c (b : Act) (d : Nat) v w, Q (.panic c) (b.put (some d) v) w → Q (.panic c) b w) (hs : a.tmps.size = 294)
    (h7 : a.eval (.tmp 7) = .slice A7 m c7) (h8 : a.eval (.tmp 8) = .slice A8 m c8) (h11 : a.eval (.tmp 11) = .int .i64 L)
    (ho7 : w5.ownsRow b7 3 1 (.slice A7 m c7) m (ints zs)) (hl7 : zs.length = m) (hk1 : m ≤ c7) (ho8 : w5.ownsRow b8 3 1 (.slice A8 m c8) m (ints ys)) (hl8 : ys.length = m) (hk3 : m ≤ c8) (hLn : L < m) (hm : m ≤ 1000)
    (hK : ∀ (Z : World) (A5 : Option Addr) (c5 : Nat) (A9 : Option Addr) (c9 : Nat) (u167 u168 u169 u170 u171 u172 u173 u174 u175 u176 u177 u178 u179 u180 u181 u182 u183 u184 u185 u186 : Value), Fin w5 zs ys L m A5 c5 A9 c9 Z → Q .normal ⟨(fill [.inl 7, .inr (.slice A5 (m - 1) c5), .inr (.slice A9 (m - 1) c9), .inl 158, .inr u167, .inr u168, .inr u169, .inr u170, .inr u171, .inr u172, .inr u173, .inr u174, .inr u175, .inr u176, .inr u177, .inr u178, .inr u179, .inr u180, .inr u181, .inr u182, .inr u183, .inr u184, .inr u185, .inr u186] a.tmps.toList).toArray, a.defers⟩ Z) :
    code30.wp Try.prog Q a w5 := by
  have hi4 : IntKind.i64.wrap ((L : Int) + 1) = (L : Int) + 1 := by rw [IntKind.wrap_i64]; omega
  have hi3 : (L : Int) + 1 ≤ (m : Int) := by omega
  have hi7 : L ≤ c7 := by omega
  have hi8 : L ≤ c8 := by omega
  unfold code30
  conv => arg 2; whnf
  refine wp_region_any (by kernel_rfl) ?_
  show wpAny _ _ _ _ 22 _ _ w5.drew
  refine take_ (i := 1) (d := 168) (v := (.slice A7 m c7)) rfl rfl (by kernel_rfl) (by kernel_rfl) (by kernel_rfl) hQ (y_move rfl rfl (by simp [ev_same, ev_ne, sz_put, hs, h7, h8, h11])) ?_
  refine take_ (i := 2) (d := 169) (v := (.int .i64 L)) rfl rfl (by kernel_rfl) (by kernel_rfl) (by kernel_rfl) hQ (y_move rfl rfl (by simp [ev_same, ev_ne, sz_put, hs, h7, h8, h11])) ?_
  refine take_ (i := 3) (d := 170) (v := (.slice A7 L c7)) rfl rfl (by kernel_rfl) (by kernel_rfl) (by kernel_rfl) hQ (y_high (m := m) rfl rfl (by simp [ev_same, ev_ne, sz_put, hs, h7, h8, h11]) (by simp [ev_same, ev_ne, sz_put, hs, h7, h8, h11]) hi7) ?_
  refine take_ (i := 5) (d := 172) (v := (.slice A7 m c7)) rfl rfl (by kernel_rfl) (by kernel_rfl) (by kernel_rfl) hQ (y_move rfl rfl (by simp [ev_same, ev_ne, sz_put, hs, h7, h8, h11])) ?_
  refine take_ (i := 6) (d := 173) (v := (.int .i64 L)) rfl rfl (by kernel_rfl) (by kernel_rfl) (by kernel_rfl) hQ (y_move rfl rfl (by simp [ev_same, ev_ne, sz_put, hs, h7, h8, h11])) ?_
  refine take_ (i := 7) (d := 174) (v := (.int .i64 ((L : Int) + 1))) rfl rfl (by kernel_rfl) (by kernel_rfl) (by kernel_rfl) hQ (y_add rfl rfl (by simp [ev_same, ev_ne, sz_put, hs, h7, h8, h11]) hi4) ?_
  refine take_ (i := 8) (d := 175) (v := (.slice (R A7 c7 L) (m - (L + 1)) (c7 - (L + 1)))) rfl rfl (by kernel_rfl) (by kernel_rfl) (by kernel_rfl) hQ (y_low rfl rfl (by simp [ev_same, ev_ne, sz_put, hs, h7, h8, h11]) (by simp [ev_same, ev_ne, sz_put, hs, h7, h8, h11]) hi3) ?_
  refine take_ (i := 11) (d := 178) (v := (.slice A8 m c8)) rfl rfl (by kernel_rfl) (by kernel_rfl) (by kernel_rfl) hQ (y_move rfl rfl (by simp [ev_same, ev_ne, sz_put, hs, h7, h8, h11])) ?_
  refine take_ (i := 12) (d := 179) (v := (.int .i64 L)) rfl rfl (by kernel_rfl) (by kernel_rfl) (by kernel_rfl) hQ (y_move rfl rfl (by simp [ev_same, ev_ne, sz_put, hs, h7, h8, h11])) ?_
  refine take_ (i := 13) (d := 180) (v := (.slice A8 L c8)) rfl rfl (by kernel_rfl) (by kernel_rfl) (by kernel_rfl) hQ (y_high (m := m) rfl rfl (by simp [ev_same, ev_ne, sz_put, hs, h7, h8, h11]) (by simp [ev_same, ev_ne, sz_put, hs, h7, h8, h11]) hi8) ?_
  refine take_ (i := 15) (d := 182) (v := (.slice A8 m c8)) rfl rfl (by kernel_rfl) (by kernel_rfl) (by kernel_rfl) hQ (y_move rfl rfl (by simp [ev_same, ev_ne, sz_put, hs, h7, h8, h11])) ?_
  refine take_ (i := 16) (d := 183) (v := (.int .i64 L)) rfl rfl (by kernel_rfl) (by kernel_rfl) (by kernel_rfl) hQ (y_move rfl rfl (by simp [ev_same, ev_ne, sz_put, hs, h7, h8, h11])) ?_
  refine take_ (i := 17) (d := 184) (v := (.int .i64 ((L : Int) + 1))) rfl rfl (by kernel_rfl) (by kernel_rfl) (by kernel_rfl) hQ (y_add rfl rfl (by simp [ev_same, ev_ne, sz_put, hs, h7, h8, h11]) hi4) ?_
  refine take_ (i := 18) (d := 185) (v := (.slice (R A8 c8 L) (m - (L + 1)) (c8 - (L + 1)))) rfl rfl (by kernel_rfl) (by kernel_rfl) (by kernel_rfl) hQ (y_low rfl rfl (by simp [ev_same, ev_ne, sz_put, hs, h7, h8, h11]) (by simp [ev_same, ev_ne, sz_put, hs, h7, h8, h11]) hi3) ?_
  refine reg30b (by unfold code30; conv => lhs; whnf) (by kernel_rfl) hQ (by simp only [sz_put]; exact hs) (by simp [ev_same, ev_ne, sz_put, hs, h7, h8, h11]) (by simp [ev_same, ev_ne, sz_put, hs, h7, h8, h11]) (by simp [ev_same, ev_ne, sz_put, hs, h7, h8, h11]) (by simp [ev_same, ev_ne, sz_put, hs, h7, h8, h11]) ho7 hl7 hk1 ho8 hl8 hk3 hLn hm ((Below.refl _ _).drew) ?_
  intro a' Z A5 c5 A9 c9 hF hsz hdf hk e7 e8
  have ha : a' = _ := fill_eq (a := a) [.inl 7, .inr (a'.eval (.tmp 7)), .inr (a'.eval (.tmp 8)), .inl 158, .inr (a'.eval (.tmp 167)), .inr (a'.eval (.tmp 168)), .inr (a'.eval (.tmp 169)), .inr (a'.eval (.tmp 170)), .inr (a'.eval (.tmp 171)), .inr (a'.eval (.tmp 172)), .inr (a'.eval (.tmp 173)), .inr (a'.eval (.tmp 174)), .inr (a'.eval (.tmp 175)), .inr (a'.eval (.tmp 176)), .inr (a'.eval (.tmp 177)), .inr (a'.eval (.tmp 178)), .inr (a'.eval (.tmp 179)), .inr (a'.eval (.tmp 180)), .inr (a'.eval (.tmp 181)), .inr (a'.eval (.tmp 182)), .inr (a'.eval (.tmp 183)), .inr (a'.eval (.tmp 184)), .inr (a'.eval (.tmp 185)), .inr (a'.eval (.tmp 186))] D30' 294 hs (by rw [hsz]; simp only [sz_put]) (by rw [hdf]; simp only [df_put]) (fun k hkD => ?_) (by kernel_rfl) (fun k hk => ?_)
  · rw [ha, e7, e8]
    exact hK Z A5 c5 A9 c9 _ _ _ _ _ _ _ _ _ _ _ _ _ _ _ _ _ _ _ _ hF
  rotate_left
  · simp only [D30', List.mem_cons, List.not_mem_nil, or_false] at hk
    rcases hk with rfl | rfl | rfl | rfl | rfl | rfl | rfl | rfl | rfl | rfl | rfl | rfl | rfl | rfl | rfl | rfl | rfl | rfl | rfl | rfl | rfl | rfl <;> rfl
  simp only [D30', List.mem_cons, List.not_mem_nil, or_false, not_or] at hkD
  obtain ⟨k1, k2, k3, k4, k5, k6, k7, k8, k9, k10, k11, k12, k13, k14, k15, k16, k17, k18, k19, k20, k21, k22⟩ := hkD
  rw [hk k (by simp [D30, *])]
  simp [out_ne, Ne.symm k1, Ne.symm k2, Ne.symm k3, Ne.symm k4, Ne.symm k5, Ne.symm k6, Ne.symm k7, Ne.symm k8, Ne.symm k9, Ne.symm k10, Ne.symm k11, Ne.symm k12, Ne.symm k13, Ne.symm k14, Ne.symm k15, Ne.symm k16, Ne.symm k17, Ne.symm k18, Ne.symm k19, Ne.symm k20, Ne.symm k21, Ne.symm k22]

set_option maxHeartbeats 4000000 in
/-- what is put into both rows: whatever order its operations come in -/
theorem reg25 {a : Act} {w5 : World} {Q : Exit → Act → World → Prop} {A7 A8 : Option Addr} {c7 c8 m L b7 b8 P : Nat} {zs ys : List Int} {k v : Int}
    (hQ : ∀ c (b : Act) (d : Nat) v w, Q (.panic c) (b.put (some d) v) w → Q (.panic c) b w) (hs : a.tmps.size = 294)
    (h7 : a.eval (.tmp 7) = .slice A7 m c7) (h8 : a.eval (.tmp 8) = .slice A8 m c8) (h10 : a.eval (.tmp 10) = .pointer (some ⟨P, 0, none⟩)) (h11 : a.eval (.tmp 11) = .int .i64 L)
    (ho7 : w5.ownsRow b7 3 1 (.slice A7 m c7) m (ints zs)) (hl7 : zs.length = m) (ho8 : w5.ownsRow b8 3 1 (.slice A8 m c8) m (ints ys)) (hl8 : ys.length = m) (hLn : L ≤ m) (hm : m ≤ 1000)
    (hP : P < w5.heap.size) (hq1 : w5.cell? ⟨P, 1, none⟩ = some (.int .i64 k)) (hq2 : w5.cell? ⟨P, 2, none⟩ = some (.int .i64 v))
    (hK : ∀ (W5 W6 : World) (A5 : Option Addr) (c5 : Nat) (A6 : Option Addr) (c6 : Nat) (u148 u149 u150 u151 u152 u153 u154 u155 u156 u157 : Value), W5.ownsRow w5.heap.size 3 1 (.slice A5 (m + 1) c5) (m + 1) (ints (zs.take L ++ k :: zs.drop L)) → Below w5.heap.size w5 W5 →
      W6.ownsRow W5.heap.size 3 1 (.slice A6 (m + 1) c6) (m + 1) (ints (ys.take L ++ v :: ys.drop L)) → Below W5.heap.size W5 W6 → Q .normal ⟨(fill [.inl 7, .inr (.slice A5 (m + 1) c5), .inr (.slice A6 (m + 1) c6), .inl 139, .inr u148, .inr u149, .inr u150, .inr u151, .inr u152, .inr u153, .inr u154, .inr u155, .inr u156, .inr u157] a.tmps.toList).toArray, a.defers⟩ W6) :
    code25.wp Try.prog Q a w5 := by
  have hK' : ∀ (a' : Act) (W5 W6 : World) (A5 : Option Addr) (c5 : Nat) (A6 : Option Addr) (c6 : Nat), W5.ownsRow w5.heap.size 3 1 (.slice A5 (m + 1) c5) (m + 1) (ints (zs.take L ++ k :: zs.drop L)) → Below w5.heap.size w5 W5 →
      W6.ownsRow W5.heap.size 3 1 (.slice A6 (m + 1) c6) (m + 1) (ints (ys.take L ++ v :: ys.drop L)) → Below W5.heap.size W5 W6 → a'.tmps.size = a.tmps.size → a'.defers = a.defers → (∀ k, k ∉ D25 → a'.tmps[k]? = a.tmps[k]?) → a'.eval (.tmp 7) = .slice A5 (m + 1) c5 → a'.eval (.tmp 8) = .slice A6 (m + 1) c6 → Q .normal a' W6 := by
    intro a' W5 W6 A5 c5 A6 c6 h1 h2 h3 h4 hsz hdf hk e7 e8
    have ha : a' = _ := fill_eq (a := a) [.inl 7, .inr (a'.eval (.tmp 7)), .inr (a'.eval (.tmp 8)), .inl 139, .inr (a'.eval (.tmp 148)), .inr (a'.eval (.tmp 149)), .inr (a'.eval (.tmp 150)), .inr (a'.eval (.tmp 151)), .inr (a'.eval (.tmp 152)), .inr (a'.eval (.tmp 153)), .inr (a'.eval (.tmp 154)), .inr (a'.eval (.tmp 155)), .inr (a'.eval (.tmp 156)), .inr (a'.eval (.tmp 157))] D25 294 hs hsz hdf hk (by kernel_rfl) (fun k hk => by
      simp only [D25, List.mem_cons, List.not_mem_nil, or_false] at hk
      rcases hk with rfl | rfl | rfl | rfl | rfl | rfl | rfl | rfl | rfl | rfl | rfl | rfl <;> rfl)
    rw [ha, e7, e8]
    exact hK W5 W6 A5 c5 A6 c6 _ _ _ _ _ _ _ _ _ _ h1 h2 h3 h4
  clear hK
  unfold code25
  conv => arg 2; whnf
  refine wp_region_any (by kernel_rfl) ?_
  show wpAny _ _ _ _ 12 _ _ w5.drew
  refine take_ (i := 0) (d := 148) (v := (.slice A7 m c7)) rfl rfl (by kernel_rfl) (by kernel_rfl) (by kernel_rfl) hQ (y_move rfl rfl (by simp [ev_same, ev_ne, sz_put, hs, h7, h8, h10, h11])) ?_
  refine take_ (i := 1) (d := 149) (v := (.int .i64 L)) rfl rfl (by kernel_rfl) (by kernel_rfl) (by kernel_rfl) hQ (y_move rfl rfl (by simp [ev_same, ev_ne, sz_put, hs, h7, h8, h10, h11])) ?_
  refine take_ (i := 2) (d := 150) (v := (.pointer (some ⟨P, 1, none⟩))) rfl rfl (by kernel_rfl) (by kernel_rfl) (by kernel_rfl) hQ (y_field rfl rfl (.inl rfl) (by simp [ev_same, ev_ne, sz_put, hs, h7, h8, h10, h11])) ?_
  refine take_ (i := 5) (d := 153) (v := (.slice A8 m c8)) rfl rfl (by kernel_rfl) (by kernel_rfl) (by kernel_rfl) hQ (y_move rfl rfl (by simp [ev_same, ev_ne, sz_put, hs, h7, h8, h10, h11])) ?_
  refine take_ (i := 6) (d := 154) (v := (.int .i64 L)) rfl rfl (by kernel_rfl) (by kernel_rfl) (by kernel_rfl) hQ (y_move rfl rfl (by simp [ev_same, ev_ne, sz_put, hs, h7, h8, h10, h11])) ?_
  refine take_ (i := 7) (d := 155) (v := (.pointer (some ⟨P, 2, none⟩))) rfl rfl (by kernel_rfl) (by kernel_rfl) (by kernel_rfl) hQ (y_field rfl rfl (.inr rfl) (by simp [ev_same, ev_ne, sz_put, hs, h7, h8, h10, h11])) ?_
  refine wpAny_all (rs := [3, 8]) (by kernel_rfl) (by simp) (fun i hi => ?_)
  simp only [List.mem_cons, List.not_mem_nil, or_false] at hi
  rcases hi with rfl | rfl
  · skip
    refine op_load (d := 151) (s := 150) rfl rfl rfl rfl (by simp [ev_same, ev_ne, sz_put, hs, h7, h8, h10, h11]) (show w5.drew.cell? ⟨P, 1, none⟩ = _ from hq1) ?_
    refine wpAny_all (rs := [4, 8]) (by kernel_rfl) (by simp) (fun i hi => ?_)
    simp only [List.mem_cons, List.not_mem_nil, or_false] at hi
    rcases hi with rfl | rfl
    · skip
      refine op_call (d := 152) (s := 148) (x := 149) (y := 151) rfl rfl rfl rfl (by simp [ev_same, ev_ne, sz_put, hs, h7, h8, h10, h11]) (by simp [ev_same, ev_ne, sz_put, hs, h7, h8, h10, h11]) (by simp [ev_same, ev_ne, sz_put, hs, h7, h8, h10, h11]) (insert_m w5.drew b7 A7 c7 L m zs k ho7 hl7 hLn hm) (fun e w6 he => ?_)
      obtain ⟨A5, c5, rfl, ho5, hb5⟩ := he
      replace hb5 := below_undrew hb5
      refine ⟨_, rfl, ?_⟩
      refine wpAny_all (rs := [8]) (by kernel_rfl) (by simp) (fun i hi => ?_)
      obtain rfl := List.mem_singleton.1 hi
      refine op_load (d := 156) (s := 155) rfl rfl rfl rfl (by simp [ev_same, ev_ne, sz_put, hs, h7, h8, h10, h11]) ((hb5.cell (p := ⟨P, 2, none⟩) hP).trans hq2) ?_
      refine wpAny_all (rs := [9]) (by kernel_rfl) (by simp) (fun i hi => ?_)
      obtain rfl := List.mem_singleton.1 hi
      refine op_call (d := 157) (s := 153) (x := 154) (y := 156) rfl rfl rfl rfl (by simp [ev_same, ev_ne, sz_put, hs, h7, h8, h10, h11]) (by simp [ev_same, ev_ne, sz_put, hs, h7, h8, h10, h11]) (by simp [ev_same, ev_ne, sz_put, hs, h7, h8, h10, h11]) (insert_m w6 b8 A8 c8 L m ys v (TI.owns_below hb5 ho8) hl8 hLn hm) (fun e w7 he => ?_)
      obtain ⟨A6, c6, rfl, ho6, hb6⟩ := he
      refine ⟨_, rfl, ?_⟩
      refine take_ (i := 10) (d := 7) (v := (.slice A5 (m + 1) c5)) rfl rfl (by kernel_rfl) (by kernel_rfl) (by kernel_rfl) hQ (y_assign rfl rfl (by simp [ev_same, ev_ne, sz_put, hs, h7, h8, h10, h11])) ?_
      refine take_ (i := 11) (d := 8) (v := (.slice A6 (m + 1) c6)) rfl rfl (by kernel_rfl) (by kernel_rfl) (by kernel_rfl) hQ (y_assign rfl rfl (by simp [ev_same, ev_ne, sz_put, hs, h7, h8, h10, h11])) ?_
      refine wpAny_done (by kernel_rfl) ?_ _
      refine hK' _ _ _ _ _ _ _ ho5 hb5 ho6 hb6 (by simp only [sz_put]) (by simp only [df_put]) (fun k hk => ?_) (by simp [ev_same, ev_ne, sz_put, hs]) (by simp [ev_same, ev_ne, sz_put, hs])
      simp only [D25, List.mem_cons, List.not_mem_nil, or_false, not_or] at hk
      obtain ⟨k1, k2, k3, k4, k5, k6, k7, k8, k9, k10, k11, k12⟩ := hk
      simp [out_ne, Ne.symm k1, Ne.symm k2, Ne.symm k3, Ne.symm k4, Ne.symm k5, Ne.symm k6, Ne.symm k7, Ne.symm k8, Ne.symm k9, Ne.symm k10, Ne.symm k11, Ne.symm k12]
    · skip
      refine op_load (d := 156) (s := 155) rfl rfl rfl rfl (by simp [ev_same, ev_ne, sz_put, hs, h7, h8, h10, h11]) (show w5.drew.cell? ⟨P, 2, none⟩ = _ from hq2) ?_
      refine wpAny_all (rs := [4]) (by kernel_rfl) (by simp) (fun i hi => ?_)
      obtain rfl := List.mem_singleton.1 hi
      refine op_call (d := 152) (s := 148) (x := 149) (y := 151) rfl rfl rfl rfl (by simp [ev_same, ev_ne, sz_put, hs, h7, h8, h10, h11]) (by simp [ev_same, ev_ne, sz_put, hs, h7, h8, h10, h11]) (by simp [ev_same, ev_ne, sz_put, hs, h7, h8, h10, h11]) (insert_m w5.drew b7 A7 c7 L m zs k ho7 hl7 hLn hm) (fun e w6 he => ?_)
      obtain ⟨A5, c5, rfl, ho5, hb5⟩ := he
      replace hb5 := below_undrew hb5
      refine ⟨_, rfl, ?_⟩
      refine wpAny_all (rs := [9]) (by kernel_rfl) (by simp) (fun i hi => ?_)
      obtain rfl := List.mem_singleton.1 hi
      refine op_call (d := 157) (s := 153) (x := 154) (y := 156) rfl rfl rfl rfl (by simp [ev_same, ev_ne, sz_put, hs, h7, h8, h10, h11]) (by simp [ev_same, ev_ne, sz_put, hs, h7, h8, h10, h11]) (by simp [ev_same, ev_ne, sz_put, hs, h7, h8, h10, h11]) (insert_m w6 b8 A8 c8 L m ys v (TI.owns_below hb5 ho8) hl8 hLn hm) (fun e w7 he => ?_)
      obtain ⟨A6, c6, rfl, ho6, hb6⟩ := he
      refine ⟨_, rfl, ?_⟩
      refine take_ (i := 10) (d := 7) (v := (.slice A5 (m + 1) c5)) rfl rfl (by kernel_rfl) (by kernel_rfl) (by kernel_rfl) hQ (y_assign rfl rfl (by simp [ev_same, ev_ne, sz_put, hs, h7, h8, h10, h11])) ?_
      refine take_ (i := 11) (d := 8) (v := (.slice A6 (m + 1) c6)) rfl rfl (by kernel_rfl) (by kernel_rfl) (by kernel_rfl) hQ (y_assign rfl rfl (by simp [ev_same, ev_ne, sz_put, hs, h7, h8, h10, h11])) ?_
      refine wpAny_done (by kernel_rfl) ?_ _
      refine hK' _ _ _ _ _ _ _ ho5 hb5 ho6 hb6 (by simp only [sz_put]) (by simp only [df_put]) (fun k hk => ?_) (by simp [ev_same, ev_ne, sz_put, hs]) (by simp [ev_same, ev_ne, sz_put, hs])
      simp only [D25, List.mem_cons, List.not_mem_nil, or_false, not_or] at hk
      obtain ⟨k1, k2, k3, k4, k5, k6, k7, k8, k9, k10, k11, k12⟩ := hk
      simp [out_ne, Ne.symm k1, Ne.symm k2, Ne.symm k3, Ne.symm k4, Ne.symm k5, Ne.symm k6, Ne.symm k7, Ne.symm k8, Ne.symm k9, Ne.symm k10, Ne.symm k11, Ne.symm k12]
  · skip
    refine op_load (d := 156) (s := 155) rfl rfl rfl rfl (by simp [ev_same, ev_ne, sz_put, hs, h7, h8, h10, h11]) (show w5.drew.cell? ⟨P, 2, none⟩ = _ from hq2) ?_
    refine wpAny_all (rs := [3]) (by kernel_rfl) (by simp) (fun i hi => ?_)
    obtain rfl := List.mem_singleton.1 hi
    refine op_load (d := 151) (s := 150) rfl rfl rfl rfl (by simp [ev_same, ev_ne, sz_put, hs, h7, h8, h10, h11]) (show w5.drew.cell? ⟨P, 1, none⟩ = _ from hq1) ?_
    refine wpAny_all (rs := [4]) (by kernel_rfl) (by simp) (fun i hi => ?_)
    obtain rfl := List.mem_singleton.1 hi
    refine op_call (d := 152) (s := 148) (x := 149) (y := 151) rfl rfl rfl rfl (by simp [ev_same, ev_ne, sz_put, hs, h7, h8, h10, h11]) (by simp [ev_same, ev_ne, sz_put, hs, h7, h8, h10, h11]) (by simp [ev_same, ev_ne, sz_put, hs, h7, h8, h10, h11]) (insert_m w5.drew b7 A7 c7 L m zs k ho7 hl7 hLn hm) (fun e w6 he => ?_)
    obtain ⟨A5, c5, rfl, ho5, hb5⟩ := he
    replace hb5 := below_undrew hb5
    refine ⟨_, rfl, ?_⟩
    refine wpAny_all (rs := [9]) (by kernel_rfl) (by simp) (fun i hi => ?_)
    obtain rfl := List.mem_singleton.1 hi
    refine op_call (d := 157) (s := 153) (x := 154) (y := 156) rfl rfl rfl rfl (by simp [ev_same, ev_ne, sz_put, hs, h7, h8, h10, h11]) (by simp [ev_same, ev_ne, sz_put, hs, h7, h8, h10, h11]) (by simp [ev_same, ev_ne, sz_put, hs, h7, h8, h10, h11]) (insert_m w6 b8 A8 c8 L m ys v (TI.owns_below hb5 ho8) hl8 hLn hm) (fun e w7 he => ?_)
    obtain ⟨A6, c6, rfl, ho6, hb6⟩ := he
    refine ⟨_, rfl, ?_⟩
    refine take_ (i := 10) (d := 7) (v := (.slice A5 (m + 1) c5)) rfl rfl (by kernel_rfl) (by kernel_rfl) (by kernel_rfl) hQ (y_assign rfl rfl (by simp [ev_same, ev_ne, sz_put, hs, h7, h8, h10, h11])) ?_
    refine take_ (i := 11) (d := 8) (v := (.slice A6 (m + 1) c6)) rfl rfl (by kernel_rfl) (by kernel_rfl) (by kernel_rfl) hQ (y_assign rfl rfl (by simp [ev_same, ev_ne, sz_put, hs, h7, h8, h10, h11])) ?_
    refine wpAny_done (by kernel_rfl) ?_ _
    refine hK' _ _ _ _ _ _ _ ho5 hb5 ho6 hb6 (by simp only [sz_put]) (by simp only [df_put]) (fun k hk => ?_) (by simp [ev_same, ev_ne, sz_put, hs]) (by simp [ev_same, ev_ne, sz_put, hs])
    simp only [D25, List.mem_cons, List.not_mem_nil, or_false, not_or] at hk
    obtain ⟨k1, k2, k3, k4, k5, k6, k7, k8, k9, k10, k11, k12⟩ := hk
    simp [out_ne, Ne.symm k1, Ne.symm k2, Ne.symm k3, Ne.symm k4, Ne.symm k5, Ne.symm k6, Ne.symm k7, Ne.symm k8, Ne.symm k9, Ne.symm k10, Ne.symm k11, Ne.symm k12]

end Go.Proofs.Ytnijiimljpbgpaa.PL
