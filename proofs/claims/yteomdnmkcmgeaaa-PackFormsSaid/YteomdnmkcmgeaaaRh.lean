/-
  The statement's region: whatever order its operations come in; in three parts, each over a frame that is not written out.
-/
import Derived.Test.YteomdnmkcmgeaaaR
set_option linter.unusedVariables false
set_option linter.unusedSimpArgs false
namespace Go.Proofs.Yteomdnmkcmgeaaa.Rg
open Go.RowKit Go.Proofs.Yteomdnmkcmgeaaa.Kit Go.Proofs.Yteomdnmkcmgeaaa.A Go.Proofs.Yteomdnmkcmgeaaa.B Go.Proofs.Yteomdnmkcmgeaaa.C Go.Proofs.Yteomdnmkcmgeaaa.R

def findRegion (n : Nat) : Code → Option Code
  | .region id ops d => if id = n then some (.region id ops d) else none
  | .loop c => findRegion n c
  | .seq a b => match findRegion n a with
    | some c => some c
    | none => findRegion n b
  | .block _ c => findRegion n c
  | .scope c => findRegion n c
  | .cond _ a b => match findRegion n a with
    | some c => some c
    | none => findRegion n b
  | _ => none
noncomputable def code3 : Code := ((Try.f3.body.bind (findRegion 3)).getD .skip)

section
variable {ops : Array Oper} {Q : Exit → Act → World → Prop} {o : Oper} {a : Act} {w : World} {i d s x t : Nat}
theorem ev_same {v : Value} (h : d < a.tmps.size) : (a.put (some d) v).eval (.tmp d) = v := by simp [Act.eval, Act.put, h]
theorem ev_ne {v : Value} {k : Nat} (h : d ≠ k) : (a.put (some d) v).eval (.tmp k) = a.eval (.tmp k) := by simp [Act.eval, Act.put, Array.getElem?_setIfInBounds_ne h]
theorem df_put {v : Value} : (a.put (some d) v).defers = a.defers := rfl
theorem sz_put {v : Value} : (a.put (some d) v).tmps.size = a.tmps.size := by simp [Act.put]
/-- The guard lets it by. -/
def Wt (ops : Array Oper) (o : Oper) (a : Act) : Prop := Region.wanted o (yielded ops a.tmps) = true
theorem w_none (hg : o.guard = none) : Wt ops o a := by simp [Wt, Region.wanted, hg]
theorem w_some {j : Nat} (hg : o.guard = some (j, true)) (hj : (ops[j]?).bind (·.dst) = some t) (hb : a.eval (.tmp t) = .bool true) : Wt ops o a := by
  unfold Wt
  have h : a.tmps[t]? = some (.bool true) := by
    unfold Act.eval at hb
    cases ht : a.tmps[t]? with
    | none => simp [ht, undef] at hb
    | some v => simp [ht] at hb; rw [hb]
  simp only [Region.wanted, hg, yielded, hj, Option.bind_some, h]
  rfl
/-- An operation that comes up now (as a structure: nothing lays it open by itself). -/
structure Wo (ops : Array Oper) (Q : Exit → Act → World → Prop) (i : Nat) (K : Act → World → Prop) (a : Act) (w : World) : Prop where
  out : wpOp Try.prog ops Q i K a w
theorem all_ {rs : List Nat} {fuel : Nat} {listed : Array Bool} (hr : Region.ready .any ops listed = rs) (hne : rs ≠ [])
    (h : ∀ i ∈ rs, Wo ops Q i (wpAny Try.prog .any ops Q fuel (listed.setIfInBounds i true)) a w) : wpAny Try.prog .any ops Q (fuel + 1) listed a w :=
  wpAny_all hr hne fun i hi => (h i hi).out
theorem take_ {fuel : Nat} {listed : Array Bool} {v : Value} (hi : ops[i]? = some o) (hd : o.dst = some d) (hs : Region.noSelect ops = true) (hf : Region.free .any ops listed i = true) (hr : (Region.ready .any ops listed).contains i = true)
    (hQ : ∀ c (b : Act) (d : Nat) v w, Q (.panic c) (b.put (some d) v) w → Q (.panic c) b w) (hy : Yields Try.prog ops o v a) (h : wpAny Try.prog .any ops Q fuel (listed.setIfInBounds i true) (a.put (some d) v) w) : wpAny Try.prog .any ops Q (fuel + 1) listed a w :=
  wpAny_take hi hs hf hr (fun _ _ _ h => by rw [hd] at h; exact hQ _ _ _ _ _ h) hy (by rw [hd]; exact h)
theorem y_of {v : Value} (hw : Wt ops o a) (h : ∀ w, (execOp a.eval o).run Try.prog w = .ok (.value v) w) : Yields Try.prog ops o v a := .inl ⟨hw, h⟩
theorem y_move {v : Value} (hop : o.op = .move (.tmp s)) (hw : Wt ops o a) (h : a.eval (.tmp s) = v) : Yields Try.prog ops o v a := y_of hw fun w => by simp [execOp, hop, h]
theorem y_assign {v : Value} (hop : o.op = .assign (.tmp s)) (hw : Wt ops o a) (h : a.eval (.tmp s) = v) : Yields Try.prog ops o v a := y_of hw fun w => by simp [execOp, hop, h]
theorem y_eql {S : ByteArray} (hop : o.op = .binOp .eql 9 (.tmp s) (.tmp x) 9) (hw : Wt ops o a) (h1 : a.eval (.tmp s) = .string S) (h2 : a.eval (.tmp x) = .string S) : Yields Try.prog ops o (.bool true) a :=
  y_of hw fun w => by
    simp only [execOp, hop, h1, h2]
    go_simp
theorem y_pick (hop : o.op = .pick (.tmp s) (.tmp x) (.const (.bool false))) (hw : Wt ops o a) (h1 : a.eval (.tmp s) = .bool true) (h2 : a.eval (.tmp x) = .bool true) : Yields Try.prog ops o (.bool true) a :=
  y_of hw fun w => by
    simp only [execOp, hop, h1, h2]
    go_simp
theorem op_of {K : Act → World → Prop} {v : Value} {w' : World} (hi : ops[i]? = some o) (hd : o.dst = some d) (hw : Wt ops o a) (hr : (execOp a.eval o).run Try.prog w = .ok (.value v) w')
    (h : K (a.put (some d) v) w') : Wo ops Q i K a w := by
  refine ⟨?_⟩
  unfold wpOp
  simp only [hi]
  rw [if_pos (show Region.wanted o (yielded ops a.tmps) = true from hw)]
  refine .inl ?_
  rw [← hd] at h
  unfold Oper.wp
  rw [hr]
  exact h
theorem op_build {K : Act → World → Prop} (hi : ops[i]? = some o) (hd : o.dst = some d) (hw : Wt ops o a) (hop : o.op = .buildSlice 22 0 #[])
    (h : K (a.put (some d) (.slice (some ⟨w.heap.size, 0, none⟩) 0 0)) (w.alloc (.cells #[] 5))) : Wo ops Q i K a w := by
  refine op_of hi hd hw ?_ h
  simp only [execOp, hop]
  go_simp
theorem op_conv {K : Act → World → Prop} {v u : Value} (hi : ops[i]? = some o) (hd : o.dst = some d) (hw : Wt ops o a) (hop : o.op = .convert 22 9 (.tmp s)) (hv : a.eval (.tmp s) = v) (hr : (convert 22 9 v).run Try.prog w = .ok u w)
    (h : K (a.put (some d) u) w) : Wo ops Q i K a w := by
  refine op_of hi hd hw ?_ h
  simp only [execOp, hop, hv]
  simp [hr]
theorem op_append {K : Act → World → Prop} (hi : ops[i]? = some o) (hd : o.dst = some d) (hw : Wt ops o a) (hop : o.op = Op.call { callee := Callee.builtin Builtin.append, args := #[.tmp s, .tmp x], argTypes := #[22, 22] }) (ht : o.type = 22)
    {v u : Value} (hv : a.eval (.tmp s) = v) (hu : a.eval (.tmp x) = u) {v' : Value} {w' : World} (hr : (Builtin.append_ #[22, 22] 22 #[v, u]).run Try.prog w = .ok v' w') (h : K (a.put (some d) v') w') : Wo ops Q i K a w := by
  refine ⟨?_⟩
  unfold wpOp
  simp only [hi]
  rw [if_pos (show Region.wanted o (yielded ops a.tmps) = true from hw)]
  refine .inl ?_
  rw [← hd] at h
  unfold Oper.wp execOp
  simp only [hop, resolve, invoke, builtin, Sem.run_bind, Sem.run_pure, Result.andThen_ok, List.map_toArray, List.map_cons, List.map_nil, hv, hu, ht, hr]
  exact h
theorem op_call2 {K : Act → World → Prop} {f : Nat} {ts : Array TypeId} {u1 u2 : Value} {Rr : Ending → World → Prop} (hi : ops[i]? = some o) (hd : o.dst = some d) (hw : Wt ops o a)
    (hop : o.op = Op.call { callee := Callee.value (.func f), args := #[.tmp s, .tmp x], argTypes := ts })
    (hf : ∀ (args : Array Value) (w : World), (callFunc f args).run Try.prog w = .ok (.enter f args) w) (h1 : a.eval (.tmp s) = u1) (h2 : a.eval (.tmp x) = u2) (hc : Calls Try.prog f #[u1, u2] w Rr) (h : ∀ e w', Rr e w' → ∃ v, e = .returned v ∧ K (a.put (some d) v) w') : Wo ops Q i K a w := by
  refine ⟨?_⟩
  unfold wpOp
  simp only [hi]
  rw [if_pos (show Region.wanted o (yielded ops a.tmps) = true from hw)]
  refine .inl ?_
  have hr : (execOp a.eval o).run Try.prog w = .ok (.enter f #[u1, u2]) w := by
    simp only [execOp, hop]
    go_simp
    exact ⟨by simpa [Act.eval] using h1, by simpa [Act.eval] using h2⟩
  unfold Oper.wp
  rw [hr]
  refine Calls.mono hc fun e w' he => ?_
  obtain ⟨v, rfl, hk⟩ := h e w' he
  rw [← hd] at hk
  exact hk
theorem op_call0 {K : Act → World → Prop} {f : Nat} {Rr : Ending → World → Prop} (hi : ops[i]? = some o) (hd : o.dst = some d) (hw : Wt ops o a)
    (hop : o.op = Op.call { callee := Callee.value (.func f), args := #[], argTypes := #[] })
    (hf : ∀ (args : Array Value) (w : World), (callFunc f args).run Try.prog w = .ok (.enter f args) w) (hc : Calls Try.prog f #[] w Rr) (h : ∀ e w', Rr e w' → ∃ v, e = .returned v ∧ K (a.put (some d) v) w') : Wo ops Q i K a w := by
  refine ⟨?_⟩
  unfold wpOp
  simp only [hi]
  rw [if_pos (show Region.wanted o (yielded ops a.tmps) = true from hw)]
  refine .inl ?_
  have hr : (execOp a.eval o).run Try.prog w = .ok (.enter f #[]) w := by
    simp only [execOp, hop]
    go_simp
  unfold Oper.wp
  rw [hr]
  refine Calls.mono hc fun e w' he => ?_
  obtain ⟨v, rfl, hk⟩ := h e w' he
  rw [← hd] at hk
  exact hk
end

/-- The frame's slots that a part needs. -/
structure SA (v0 v1 v2 : Value) (a : Act) : Prop where
  sz : a.tmps.size = 56
  df : a.defers = []
  e0 : a.eval (.tmp 0) = v0
  e1 : a.eval (.tmp 1) = v1
  e2 : a.eval (.tmp 2) = v2
/-- The bytes that came in, behind what has turned. -/
structure WB (w wa : World) (A : Option Addr) (n : Nat) (b : List UInt8) : Prop where
  bel : Below w.heap.size w wa
  z : BytesAt wa w.heap.size A n b
/-- A row that was made: its bytes; another row's block is not its. -/
structure PR (wa : World) (A1 : Option Addr) (N : Nat) (l : List UInt8) (v : Value) : Prop where
  z : BytesAt wa wa.heap.size A1 N l
  ne : ∀ ad, A1 = some ad → v.ownBlock ≠ some ad.block
theorem PR.row {wa wb : World} {A1 : Option Addr} {N : Nat} {l : List UInt8} {v v' : Value} (h : PR wa A1 N l v) (hN : 0 < N) (hg : wa.grownBy wb v.ownBlock) (hat : v'.ownBlock = v.ownBlock ∨ v'.ownBlock = some wa.heap.size) : PR wb A1 N l v' := by
  refine ⟨(h.z.row hg h.ne).more hg.size, fun ad e he => ?_⟩
  rcases hat with h1 | h1
  · exact h.ne ad e (h1.symm.trans he)
  · obtain ⟨ad', e', hlt, _⟩ := h.z.2 hN
    rw [e] at e'
    injection e' with e'
    subst e'
    rw [h1] at he
    injection he with he
    omega
theorem WB.row {w wa wb : World} {A : Option Addr} {n base : Nat} {b : List UInt8} {v : Value} {m : Nat} {xs : List Value} (h : WB w wa A n b) (ho : wa.ownsRow w.heap.size 5 1 v m xs) (hg : wa.grownBy wb v.ownBlock) : WB w wb A n b := by
  have hb : Below w.heap.size w wb := h.bel.grown hg h.bel.size (fun k e => (ho.lt k e).1)
  exact ⟨hb, h.z.keep (fun p hp => by
    refine World.cell?_of_block (hg.block p.block (Nat.lt_of_lt_of_le hp h.bel.size) (fun e => ?_))
    have := (ho.lt p.block e.symm).1
    omega)⟩
theorem WB.alloc {w wa : World} {A : Option Addr} {n : Nat} {b : List UInt8} (h : WB w wa A n b) (o : Obj) : WB w (wa.alloc o) A n b := ⟨h.bel.alloc h.bel.size o, h.z.alloc h.bel.size o⟩
theorem WB.below {w wa wb : World} {A : Option Addr} {n : Nat} {b : List UInt8} (h : WB w wa A n b) (hb : Below wa.heap.size wa wb) : WB w wb A n b := ⟨h.bel.trans (hb.mono h.bel.size), h.z.below hb h.bel.size⟩
theorem own_none (wa : World) {base : Nat} (hb : base ≤ wa.heap.size) : (wa.alloc (.cells #[] 5)).ownsRow base 5 1 (.slice (some ⟨wa.heap.size, 0, none⟩) 0 0) 0 (by_ []) :=
  World.ownsRow_lit wa #[] 0 hb (by decide) rfl
theorem own_up {w : World} {base n : Nat} {v : Value} {xs : List Value} (h : w.ownsRow 0 5 1 v n xs) (hb : ∀ k, v.ownBlock = some k → base ≤ k) : w.ownsRow base 5 1 v n xs := by
  refine ⟨h.1, ?_⟩
  rcases h.2 with hn | ⟨g, cap, cur, hv, hbg, r⟩
  · exact .inl hn
  · refine .inr ⟨g, cap, cur, hv, hb g (by rw [hv]; rfl), r⟩
/-- What the program's own call gives. -/
def PPost (wa : World) (l : List UInt8) (e : Ending) (w' : World) : Prop := ∃ A1 c1, e = .returned (.slice A1 l.length c1) ∧ BytesAt w' w'.heap.size A1 l.length l ∧ Below wa.heap.size wa w' ∧ ∀ ad, A1 = some ad → 0 < l.length → wa.heap.size ≤ ad.block
theorem ppost {wa w' : World} {l : List UInt8} {e : Ending} (h : Gives wa.heap.size wa l e w') : PPost wa l e w' := by
  obtain ⟨v, rfl, O⟩ := h
  obtain ⟨A, c, rfl, hc⟩ := own_slice O.own
  refine ⟨A, c, rfl, O.at_, O.bel, fun ad e hl => ?_⟩
  obtain ⟨g, cap, hv, hb, _⟩ := own_form O.own hl
  injection hv with hv
  rw [hv] at e
  injection e with e
  rw [← e]
  exact hb
theorem puts_z {wa w' : World} {v : Value} {l : List UInt8} {e : Ending} (h : Puts wa v l e w') : ∃ A2 c2, e = .returned (.slice A2 l.length c2) ∧ BytesAt w' w'.heap.size A2 l.length l ∧ wa.grownBy w' v.ownBlock := by
  obtain ⟨v', rfl, ho, hg⟩ := h
  obtain ⟨A, c, rfl, hc⟩ := own_slice ho
  exact ⟨A, c, rfl, bytesAt_own ho, hg⟩
end Go.Proofs.Yteomdnmkcmgeaaa.Rg
