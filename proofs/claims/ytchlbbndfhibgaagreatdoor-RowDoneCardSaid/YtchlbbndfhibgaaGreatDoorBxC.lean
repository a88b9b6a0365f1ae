/-
  Rows of the call's own written; Copy and CopyBox.
-/
import Derived.Test.YtchlbbndfhibgaaGreatDoorBxR
import Derived.OneCell
import Derived.Laws.Rows
import Derived.Laws.ResultCell
import Derived.Deep.RegionHeld3
set_option linter.unusedVariables false
set_option linter.unusedSimpArgs false
namespace Go.Proofs.YtchlbbndfhibgaaGreatDoor.BxC
open Go.RowKit Go.Proofs.YtchlbbndfhibgaaGreatDoor.BxD Go.Proofs.YtchlbbndfhibgaaGreatDoor.BxKit Go.Proofs.YtchlbbndfhibgaaGreatDoor.BxA Go.Proofs.YtchlbbndfhibgaaGreatDoor.BxR

section
variable {w : World} {base e sz n g : Nat} {v : Value} {xs : List Value}
theorem own_set (h : w.ownsRow base e sz v n xs) (hv : v.ownBlock = some g) (j : Nat) (u : Value) : (w.setCell ⟨g, j, none⟩ u).ownsRow base e sz v n (xs.set j u) := by
  obtain ⟨h1, h2⟩ := h
  refine ⟨by rw [List.length_set]; exact h1, ?_⟩
  rcases h2 with ⟨rfl, _⟩ | ⟨g', cap, cur, rfl, hb, hg, hn, hm, hs, ht⟩
  · simp [Value.ownBlock] at hv
  · obtain rfl : g' = g := by simpa [Value.ownBlock] using hv
    refine .inr ⟨g', cap, cur.setIfInBounds j u, rfl, hb, ?_, hn, hm, by simpa using hs, ?_⟩
    · simp [World.setCell, Array.getElem?_modify, hg]
    · rw [Array.toList_setIfInBounds, List.take_set, ht]
theorem own_free (h : w.ownsRow base e sz v n xs) (hv : v.ownBlock = some g) (j : Nat) : w.frozen? ⟨g, j, none⟩ = false := by
  rcases h.2 with ⟨rfl, _⟩ | ⟨g', cap, cur, rfl, hb, hg, hn, hm, hs, ht⟩
  · simp [Value.ownBlock] at hv
  · obtain rfl : g' = g := by simpa [Value.ownBlock] using hv
    simp [World.frozen?, hg]
theorem own_cell (h : w.ownsRow base e sz v n xs) (hv : v.ownBlock = some g) {j : Nat} {u : Value} (hj : xs[j]? = some u) : w.cell? ⟨g, j, none⟩ = some u := by
  rw [← add_new]
  exact h.cells hv j u hj
theorem own_other (h : w.ownsRow base e sz v n xs) (hv : v.ownBlock ≠ some g) (j : Nat) (u : Value) : (w.setCell ⟨g, j, none⟩ u).ownsRow base e sz v n xs := ownsRow_setCell_other h (a := ⟨g, j, none⟩) hv u
theorem own_base {base' : Nat} (h : w.ownsRow base e sz v n xs) (hb : base' ≤ base) : w.ownsRow base' e sz v n xs := by
  obtain ⟨h1, h2⟩ := h
  refine ⟨h1, ?_⟩
  rcases h2 with h2 | ⟨g', cap, cur, rfl, hb2, r⟩
  · exact .inl h2
  · exact .inr ⟨g', cap, cur, rfl, by omega, r⟩
/-- A row stays where its block stays. -/
theorem own_block {w' : World} (h : w.ownsRow base e sz v n xs) (hb : ∀ g, v.ownBlock = some g → w'.heap[g]? = w.heap[g]?) : w'.ownsRow base e sz v n xs := by
  obtain ⟨h1, h2⟩ := h
  refine ⟨h1, ?_⟩
  rcases h2 with h2 | ⟨g', cap, cur, rfl, hb2, hg, r⟩
  · exact .inl h2
  · exact .inr ⟨g', cap, cur, rfl, hb2, (hb g' rfl).trans hg, r⟩
/-- Rows of two types lie in two blocks. -/
theorem own_ne {base' e' sz' n' : Nat} {v' : Value} {ys : List Value} (h : w.ownsRow base e sz v n xs) (h' : w.ownsRow base' e' sz' v' n' ys) (hv : v'.ownBlock = some g) (he : e ≠ e') : v.ownBlock ≠ some g := by
  intro hv2
  rcases h.2 with ⟨rfl, _⟩ | ⟨g1, cap, cur, rfl, _, hg, _⟩
  · simp [Value.ownBlock] at hv2
  · rcases h'.2 with ⟨rfl, _⟩ | ⟨g2, cap', cur', rfl, _, hg', _⟩
    · simp [Value.ownBlock] at hv
    · obtain rfl : g1 = g := by simpa [Value.ownBlock] using hv2
      obtain rfl : g2 = g1 := by simpa [Value.ownBlock] using hv
      rw [hg] at hg'
      injection hg' with hg'
      injection hg' with _ h2
      exact he h2
end
theorem mc_set : ∀ (l : List Raw) (i : Nat) (r : Raw) (K : Option Addr) (c : Nat), l[i]? = some r → (mc l).set (i * 7 + 5) (.slice K r.m.keys.length c) = mc (l.set i ⟨r.m, K, c⟩)
  | r0 :: l, 0, r, K, c, h => by
    obtain rfl : r0 = r := by simpa using h
    rfl
  | r0 :: l, i + 1, r, K, c, h => by
    have := mc_set l i r K c (by simpa using h)
    unfold mc at this ⊢
    rw [List.set_cons_succ, List.flatMap_cons, List.flatMap_cons, ← this, List.set_append_right _ _ (by simp [cell7]; omega)]
    congr 2
    simp [cell7]; omega
theorem map_set_raw {l : List Raw} {i : Nat} {r : Raw} (K : Option Addr) (c : Nat) (h : l[i]? = some r) : (l.set i ⟨r.m, K, c⟩).map Raw.m = l.map Raw.m := by
  rw [List.map_set]
  refine List.ext_getElem? fun j => ?_
  rw [List.getElem?_set]
  split
  · rename_i e
    subst e
    split
    · rw [List.getElem?_map, h]; rfl
    · rename_i hj
      rw [List.getElem?_eq_none (by omega)]
  · rfl

/-- A message's keys lie in a row of the call's own, none of the block og. -/
def KO1 (w : World) (base : Nat) (og : Option Nat) (r : Raw) : Prop :=
  w.ownsRow base 3 1 (.slice r.K r.m.keys.length r.c) r.m.keys.length (r.m.keys.map (Value.int .i64)) ∧ ((Value.slice r.K r.m.keys.length r.c).ownBlock = none ∨ (Value.slice r.K r.m.keys.length r.c).ownBlock ≠ og)
/-- What a copy is: a box whose rows lie in memory of its own. -/
def CpPost (bid : ByteArray) (bv bn bh : Int) (wn mn : Nat) (ws : List ByteArray) (ms : List Msg) (w : World) (e : Ending) (w' : World) : Prop :=
  ∃ vw vm rs, e = .returned (.agg #[.string bid, .int .i64 bv, .int .i64 bn, .int .i64 bh, vw, vm]) ∧ Below w.heap.size w w' ∧ w'.ownsRow w.heap.size 9 1 vw wn (ws.map Value.string) ∧
    w'.ownsRow w.heap.size 28 7 vm mn (mc rs) ∧ rs.map Raw.m = ms ∧ ∀ r ∈ rs, KO1 w' w.heap.size vm.ownBlock r
/-- The same, where nothing is asked of the keys' blocks. -/
def CqPost (bid : ByteArray) (bv bn bh : Int) (wn mn : Nat) (ws : List ByteArray) (ms : List Msg) (w : World) (e : Ending) (w' : World) : Prop :=
  ∃ vw vm rs, e = .returned (.agg #[.string bid, .int .i64 bv, .int .i64 bn, .int .i64 bh, vw, vm]) ∧ Below w.heap.size w w' ∧ w'.ownsRow w.heap.size 9 1 vw wn (ws.map Value.string) ∧
    w'.ownsRow w.heap.size 28 7 vm mn (mc rs) ∧ rs.map Raw.m = ms ∧ ∀ r ∈ rs, KO1 w' w.heap.size none r
/-- The box in its block, the room for the answer behind it. -/
structure PI (bid : ByteArray) (bv bn bh : Int) (w wr : World) (vw vm : Value) : Prop where
  bel : Below w.heap.size w wr
  blk : wr.heap[w.heap.size]? = some (.cells #[.string bid, .int .i64 bv, .int .i64 bn, .int .i64 bh, vw, vm] 25 (0, 0))
  res : wr.heap[w.heap.size + 1]? = some (.cells #[.string ⟨#[]⟩, .int .i64 0, .int .i64 0, .int .i64 0, .slice none 0 0, .slice none 0 0] 25 (0, 0))
section
variable {bid : ByteArray} {bv bn bh : Int} {w wr w3 : World} {vw vm : Value}
theorem PI.start (bid : ByteArray) (bv bn bh : Int) (w : World) (vw vm : Value) : PI bid bv bn bh w ((w.alloc (.cells #[.string bid, .int .i64 bv, .int .i64 bn, .int .i64 bh, vw, vm] 25)).alloc (.cells #[.string ⟨#[]⟩, .int .i64 0, .int .i64 0, .int .i64 0, .slice none 0 0, .slice none 0 0] 25)) vw vm := by
  refine ⟨((Below.refl _ _).alloc (Nat.le_refl _) _).alloc (by simp) _, ?_, ?_⟩
  · exact (heap_alloc_old _ _ (by simp)).trans (heap_alloc_new w _)
  · have := heap_alloc_new (w.alloc (.cells #[.string bid, .int .i64 bv, .int .i64 bn, .int .i64 bh, vw, vm] 25)) (.cells #[.string ⟨#[]⟩, .int .i64 0, .int .i64 0, .int .i64 0, .slice none 0 0, .slice none 0 0] 25)
    simpa using this
theorem PI.size (h : PI bid bv bn bh w wr vw vm) : w.heap.size + 2 ≤ wr.heap.size := (Array.getElem?_eq_some_iff.1 h.res).1
theorem PI.cells (h : PI bid bv bn bh w wr vw vm) : wr.cell? { block := w.heap.size, off := 0 } = some (.string bid) ∧ wr.cell? { block := w.heap.size, off := 1 } = some (.int .i64 bv) ∧ wr.cell? { block := w.heap.size, off := 2 } = some (.int .i64 bn) ∧
    wr.cell? { block := w.heap.size, off := 3 } = some (.int .i64 bh) ∧ wr.cell? { block := w.heap.size, off := 4 } = some vw ∧ wr.cell? { block := w.heap.size, off := 5 } = some vm := by
  have c : ∀ o, wr.cell? { block := w.heap.size, off := o } = (#[.string bid, .int .i64 bv, .int .i64 bn, .int .i64 bh, vw, vm] : Array Value)[o]? := fun o => cell_of_row wr _ o _ _ _ h.blk
  exact ⟨(c 0).trans rfl, (c 1).trans rfl, (c 2).trans rfl, (c 3).trans rfl, (c 4).trans rfl, (c 5).trans rfl⟩
theorem PI.free (h : PI bid bv bn bh w wr vw vm) (o : Nat) : wr.frozen? { block := w.heap.size, off := o } = false := by simp [World.frozen?, h.blk]
/-- The room for the answer may be written. -/
theorem PI.room (h : PI bid bv bn bh w wr vw vm) : wr.cell? { block := w.heap.size + 1, off := 0 } = some (.string ⟨#[]⟩) ∧ wr.cell? { block := w.heap.size + 1, off := 1 } = some (.int .i64 0) ∧ wr.cell? { block := w.heap.size + 1, off := 2 } = some (.int .i64 0) ∧
    wr.cell? { block := w.heap.size + 1, off := 3 } = some (.int .i64 0) ∧ wr.cell? { block := w.heap.size + 1, off := 4 } = some (.slice none 0 0) ∧ wr.cell? { block := w.heap.size + 1, off := 5 } = some (.slice none 0 0) ∧
    wr.frozen? { block := w.heap.size + 1, off := 0 } = false ∧ wr.frozen? { block := w.heap.size + 1, off := 1 } = false ∧ wr.frozen? { block := w.heap.size + 1, off := 2 } = false ∧ wr.frozen? { block := w.heap.size + 1, off := 3 } = false ∧ wr.frozen? { block := w.heap.size + 1, off := 4 } = false ∧ wr.frozen? { block := w.heap.size + 1, off := 5 } = false := by
  have c : ∀ o, wr.cell? { block := w.heap.size + 1, off := o } = (#[.string ⟨#[]⟩, .int .i64 0, .int .i64 0, .int .i64 0, .slice none 0 0, .slice none 0 0] : Array Value)[o]? := fun o => cell_of_row wr _ o _ _ _ h.res
  have f : ∀ o, wr.frozen? { block := w.heap.size + 1, off := o } = false := fun o => by simp [World.frozen?, h.res]
  exact ⟨(c 0).trans rfl, (c 1).trans rfl, (c 2).trans rfl, (c 3).trans rfl, (c 4).trans rfl, (c 5).trans rfl, f 0, f 1, f 2, f 3, f 4, f 5⟩
theorem PI.go (h : PI bid bv bn bh w wr vw vm) (hb : Below wr.heap.size wr w3) : PI bid bv bn bh w w3 vw vm := by
  have := h.size
  exact ⟨h.bel.trans (hb.mono (by omega)), (hb.block _ (by omega)).trans h.blk, (hb.block _ (by omega)).trans h.res⟩
theorem PI.set4 (h : PI bid bv bn bh w wr vw vm) (v : Value) : PI bid bv bn bh w (wr.setCell { block := w.heap.size, off := 4 } v) v vm :=
  ⟨h.bel.setCell (Nat.le_refl _) _, by simp [World.setCell, Array.getElem?_modify, h.blk], (Below.heap_setCell _ _ _ _ (by show w.heap.size + 1 ≠ w.heap.size; omega)).trans h.res⟩
theorem PI.set5 (h : PI bid bv bn bh w wr vw vm) (v : Value) : PI bid bv bn bh w (wr.setCell { block := w.heap.size, off := 5 } v) vw v :=
  ⟨h.bel.setCell (Nat.le_refl _) _, by simp [World.setCell, Array.getElem?_modify, h.blk], (Below.heap_setCell _ _ _ _ (by show w.heap.size + 1 ≠ w.heap.size; omega)).trans h.res⟩
/-- The answer laid. -/
theorem PI.ret (h : PI bid bv bn bh w wr vw vm) : ∃ W, W = ((((((wr.setCell { block := w.heap.size + 1, off := 0 } (.string bid)).setCell { block := w.heap.size + 1, off := 1 } (.int .i64 bv)).setCell { block := w.heap.size + 1, off := 2 } (.int .i64 bn)).setCell { block := w.heap.size + 1, off := 3 } (.int .i64 bh)).setCell { block := w.heap.size + 1, off := 4 } vw).setCell { block := w.heap.size + 1, off := 5 } vm) ∧
    W.cell? { block := w.heap.size + 1, off := 0 } = some (.string bid) ∧ W.cell? { block := w.heap.size + 1, off := 1 } = some (.int .i64 bv) ∧ W.cell? { block := w.heap.size + 1, off := 2 } = some (.int .i64 bn) ∧
    W.cell? { block := w.heap.size + 1, off := 3 } = some (.int .i64 bh) ∧ W.cell? { block := w.heap.size + 1, off := 4 } = some vw ∧ W.cell? { block := w.heap.size + 1, off := 5 } = some vm ∧
    Below w.heap.size w W ∧ ∀ b, w.heap.size + 2 ≤ b → W.heap[b]? = wr.heap[b]? := by
  refine ⟨_, rfl, ?_⟩
  have hb : ((((((wr.setCell { block := w.heap.size + 1, off := 0 } (.string bid)).setCell { block := w.heap.size + 1, off := 1 } (.int .i64 bv)).setCell { block := w.heap.size + 1, off := 2 } (.int .i64 bn)).setCell { block := w.heap.size + 1, off := 3 } (.int .i64 bh)).setCell { block := w.heap.size + 1, off := 4 } vw).setCell { block := w.heap.size + 1, off := 5 } vm).heap[w.heap.size + 1]? = some (.cells #[.string bid, .int .i64 bv, .int .i64 bn, .int .i64 bh, vw, vm] 25 (0, 0)) := by
    simp [World.setCell, Array.getElem?_modify, h.res]
  have c := fun o => cell_of_row _ (w.heap.size + 1) o _ _ _ hb
  refine ⟨(c 0).trans rfl, (c 1).trans rfl, (c 2).trans rfl, (c 3).trans rfl, (c 4).trans rfl, (c 5).trans rfl, ((((((h.bel.setCell ?_ _).setCell ?_ _).setCell ?_ _).setCell ?_ _).setCell ?_ _).setCell ?_ _), fun b hb => ?_⟩
  iterate 6 (show w.heap.size ≤ w.heap.size + 1; omega)
  iterate 6 rw [Below.heap_setCell _ _ _ _ (by show b ≠ w.heap.size + 1; omega)]
end
/-- Words and messages in rows of the call's own, the keys of the first k messages too. -/
structure CI (bid : ByteArray) (bv bn bh : Int) (w wr : World) (B0 k : Nat) (vw vm : Value) (wn mn : Nat) (ws : List ByteArray) (ms : List Msg) (rs : List Raw) : Prop where
  pi : PI bid bv bn bh w wr vw vm
  ow : wr.ownsRow (w.heap.size + 2) 9 1 vw wn (ws.map Value.string)
  om : wr.ownsRow (w.heap.size + 2) 28 7 vm mn (mc rs)
  rm : rs.map Raw.m = ms
  done : ∀ i r, i < k → rs[i]? = some r → KO1 wr (w.heap.size + 2) vm.ownBlock r
  old : ∀ i r, k ≤ i → rs[i]? = some r → IntsAt wr B0 r.K r.m.keys.length r.m.keys
section
variable {bid : ByteArray} {bv bn bh : Int} {w wr w3 : World} {B0 k wn mn : Nat} {vw vm : Value} {wsl : List ByteArray} {msl : List Msg} {rs : List Raw}
theorem CI.len (h : CI bid bv bn bh w wr B0 k vw vm wn mn wsl msl rs) : rs.length = mn := by
  have := h.om.1
  rw [mc_length] at this
  omega
theorem CI.go (h : CI bid bv bn bh w wr B0 k vw vm wn mn wsl msl rs) (hB : B0 ≤ w.heap.size) (hb : Below wr.heap.size wr w3) : CI bid bv bn bh w w3 B0 k vw vm wn mn wsl msl rs := by
  have hs := h.pi.size
  refine ⟨h.pi.go hb, own_block h.ow fun g e => hb.block _ (h.ow.lt g e).2, own_block h.om fun g e => hb.block _ (h.om.lt g e).2, h.rm, fun i r hi hr => ?_, fun i r hi hr => ?_⟩
  · have := h.done i r hi hr
    exact ⟨own_block this.1 fun g e => hb.block _ (this.1.lt g e).2, this.2⟩
  · exact IntsAt.below (h.old i r hi hr) hb (by omega)
/-- The messages laid, no key yet. -/
theorem CI.first {vm0 : Value} (h : PI bid bv bn bh w wr vw vm0) (ho : wr.ownsRow (w.heap.size + 2) 9 1 vw wn (wsl.map Value.string)) (hrm : rs.map Raw.m = msl) (hko : KeysOk wr B0 rs) (hB : B0 ≤ w.heap.size) (hb : Below wr.heap.size wr w3)
    (h3 : w3.ownsRow (w.heap.size + 2) 28 7 vm mn (mc rs)) : CI bid bv bn bh w (w3.setCell { block := w.heap.size, off := 5 } vm) B0 0 vw vm wn mn wsl msl rs := by
  have hs := h.size
  refine ⟨(h.go hb).set5 vm, ownsRow_setCell_below (own_block ho fun g e => hb.block _ (ho.lt g e).2) (by show w.heap.size < _; omega) _, ownsRow_setCell_below h3 (by show w.heap.size < _; omega) _, hrm, fun i r hi _ => absurd hi (Nat.not_lt_zero _), fun i r _ hr => ?_⟩
  exact IntsAt.keep (hko r (List.mem_of_getElem? hr)).1 (Nat.le_refl _) fun p hp => World.cell?_of_block (Eq.trans (Below.heap_setCell _ _ _ _ (by show p.block ≠ w.heap.size; omega)) (hb.block _ (by omega)))
/-- One message's keys laid anew. -/
theorem CI.step {g c' : Nat} {r : Raw} {K' : Option Addr} (h : CI bid bv bn bh w wr B0 k vw vm wn mn wsl msl rs) (hB : B0 ≤ w.heap.size) (hv : vm.ownBlock = some g) (hr : rs[k]? = some r) (hb : Below wr.heap.size wr w3)
    (hown : w3.ownsRow wr.heap.size 3 1 (.slice K' r.m.keys.length c') r.m.keys.length (r.m.keys.map (Value.int .i64))) :
    CI bid bv bn bh w (w3.setCell ⟨g, k * 7 + 5, none⟩ (.slice K' r.m.keys.length c')) B0 (k + 1) vw vm wn mn wsl msl (rs.set k ⟨r.m, K', c'⟩) := by
  have h3 := h.go hB hb
  have hs := h.pi.size
  have hg := h.om.lt g hv
  have hgs := h3.pi.size
  have hne : ∀ b, b < w.heap.size + 2 → (w3.setCell ⟨g, k * 7 + 5, none⟩ (.slice K' r.m.keys.length c')).heap[b]? = w3.heap[b]? := fun b hlt => Below.heap_setCell _ _ _ _ (by show b ≠ g; omega)
  have hKn : (Value.slice K' r.m.keys.length c').ownBlock ≠ some g := fun e => by have := (hown.lt g e).1; omega
  refine ⟨⟨h3.pi.bel.setCell (by show w.heap.size ≤ g; omega) _, (hne _ (by omega)).trans h3.pi.blk, (hne _ (by omega)).trans h3.pi.res⟩, ?_, ?_, ?_, fun i r' hi hr' => ?_, fun i r' hi hr' => ?_⟩
  · exact own_other h3.ow (own_ne h3.ow h3.om hv (by decide)) _ _
  · rw [← mc_set rs k r K' c' hr]
    exact own_set h3.om hv _ _
  · rw [map_set_raw K' c' hr]; exact h3.rm
  · by_cases e : i = k
    · subst e
      rw [List.getElem?_set_self (List.getElem?_eq_some_iff.1 hr).1] at hr'
      obtain rfl := Option.some.inj hr'
      exact ⟨own_base (own_other hown hKn _ _) (by omega), .inr (by rw [hv]; exact hKn)⟩
    · rw [List.getElem?_set_ne (Ne.symm e)] at hr'
      obtain ⟨q1, q2⟩ := h3.done i r' (by omega) hr'
      refine ⟨own_other q1 (fun e2 => ?_) _ _, q2⟩
      rcases q2 with q2 | q2
      · rw [q2] at e2; cases e2
      · exact q2 (e2.trans hv.symm)
  · rw [List.getElem?_set_ne (by omega)] at hr'
    exact IntsAt.keep (h3.old i r' (by omega) hr') (Nat.le_refl _) fun p hp => World.cell?_of_block (hne p.block (by omega))
/-- At the end. -/
theorem CI.post (h : CI bid bv bn bh w wr B0 k vw vm wn mn wsl msl rs) (hk : mn ≤ k) {w4 : World} (hb : Below w.heap.size w w4) (hw : ∀ b, w.heap.size + 2 ≤ b → w4.heap[b]? = wr.heap[b]?) :
    CpPost bid bv bn bh wn mn wsl msl w (.returned (.agg #[.string bid, .int .i64 bv, .int .i64 bn, .int .i64 bh, vw, vm])) w4 := by
  refine ⟨vw, vm, rs, rfl, hb, own_base (own_block h.ow fun g e => hw g (h.ow.lt g e).1) (by omega), own_base (own_block h.om fun g e => hw g (h.om.lt g e).1) (by omega), h.rm, fun r hr => ?_⟩
  obtain ⟨i, hi⟩ := List.mem_iff_getElem?.1 hr
  have hl := (List.getElem?_eq_some_iff.1 hi).1
  have := h.done i r (by have := h.len; omega) hi
  exact ⟨own_base (own_block this.1 fun g e => hw g (this.1.lt g e).1) (by omega), this.2⟩
end
end Go.Proofs.YtchlbbndfhibgaaGreatDoor.BxC
