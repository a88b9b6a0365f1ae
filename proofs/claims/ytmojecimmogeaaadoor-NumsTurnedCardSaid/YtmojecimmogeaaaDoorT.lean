/-
  Two rows of the call's own, apart; a span turned, a span whose stars are filled in.
-/
import Derived.Test.YtmojecimmogeaaaDoorI
namespace Go.Proofs.YtmojecimmogeaaaDoor.T
open Go.RowKit Go.Proofs.YtmojecimmogeaaaDoor.Kit Go.Proofs.YtmojecimmogeaaaDoor.A Go.Proofs.YtmojecimmogeaaaDoor.B Go.Proofs.YtmojecimmogeaaaDoor.F Go.Proofs.YtmojecimmogeaaaDoor.I

def R (w wr : World) (v7 : Value) (n7 : Nat) (xs : List Sp) (v8 : Value) (n8 : Nat) (ys : List Sp) : Prop :=
  wr.ownsRow w.heap.size 32 2 v7 n7 (cells xs) ∧ wr.ownsRow w.heap.size 32 2 v8 n8 (cells ys) ∧ Below w.heap.size w wr ∧ (v7.ownBlock = none ∨ v7.ownBlock ≠ v8.ownBlock)

variable {w wr w2 : World} {v7 v8 v' : Value} {n7 n8 : Nat} {xs ys : List Sp} {z : Sp}
theorem R.alloc (h : R w wr v7 n7 xs v8 n8 ys) (o : Obj) : R w (wr.alloc o) v7 n7 xs v8 n8 ys := ⟨h.1.alloc o, h.2.1.alloc o, h.2.2.1.alloc h.2.2.1.size o, h.2.2.2⟩
theorem R.app7 (h : R w wr v7 n7 xs v8 n8 ys) (hown : w2.ownsRow w.heap.size 32 2 v' (n7 + 1) (cells xs ++ cells [z])) (hg : wr.grownBy w2 v7.ownBlock) (hat : v'.ownBlock = v7.ownBlock ∨ v'.ownBlock = some wr.heap.size) :
    R w w2 v' (n7 + 1) (xs ++ [z]) v8 n8 ys := by
  have h8 : v8.ownBlock = none ∨ v8.ownBlock ≠ v7.ownBlock := by
    rcases h.2.2.2 with e | e
    · cases hv : v8.ownBlock with
      | none => exact .inl rfl
      | some g => rw [e]; exact .inr (by simp)
    · exact .inr (fun e' => e e'.symm)
  refine ⟨by rw [cells_append]; exact hown, h.2.1.kept hg h8, h.2.2.1.grown hg h.2.2.1.size (fun g e => (h.1.lt g e).1), ?_⟩
  rcases hat with e | e
  · rw [e]; exact h.2.2.2
  · rw [e]
    refine .inr (fun e' => ?_)
    have := (h.2.1.lt _ e'.symm).2
    omega
theorem R.app8 (h : R w wr v7 n7 xs v8 n8 ys) (hown : w2.ownsRow w.heap.size 32 2 v' (n8 + 1) (cells ys ++ cells [z])) (hg : wr.grownBy w2 v8.ownBlock) (hat : v'.ownBlock = v8.ownBlock ∨ v'.ownBlock = some wr.heap.size) :
    R w w2 v7 n7 xs v' (n8 + 1) (ys ++ [z]) := by
  refine ⟨h.1.kept hg h.2.2.2, by rw [cells_append]; exact hown, h.2.2.1.grown hg h.2.2.1.size (fun g e => (h.2.1.lt g e).1), ?_⟩
  rcases hat with e | e
  · rw [e]; exact h.2.2.2
  · rw [e]
    refine .inr (fun e' => ?_)
    have := (h.1.lt _ e').2
    omega
theorem set_grown (w : World) (a : Addr) (u : Value) : w.grownBy (w.setCell a u) (some a.block) :=
  ⟨rfl, rfl, rfl, by simp [World.setCell], fun k _ hk => Below.heap_setCell _ _ _ _ (fun e => hk (by rw [e]))⟩
/-- A store beside both. -/
theorem R.set (h : R w wr v7 n7 xs v8 n8 ys) {a : Addr} (u : Value) (h0 : w.heap.size ≤ a.block) (h7 : v7.ownBlock ≠ some a.block) (h8 : v8.ownBlock ≠ some a.block) : R w (wr.setCell a u) v7 n7 xs v8 n8 ys :=
  ⟨h.1.kept (set_grown _ _ _) (.inr h7), h.2.1.kept (set_grown _ _ _) (.inr h8), h.2.2.1.setCell h0 u, h.2.2.2⟩
/-- What was laid ahead of an append lies there still. -/
theorem laid_still {row : Option Nat} {o : Obj} {x y : Int} (hg : ((wr.alloc (.cells #[.int .i64 x, .int .i64 y] 32)).alloc o).grownBy w2 row) (hr : ∀ g, row = some g → g < wr.heap.size) :
    w2.cell? { block := wr.heap.size, off := 0 } = some (.int .i64 x) ∧ w2.cell? { block := wr.heap.size, off := 1 } = some (.int .i64 y) ∧
      w2.frozen? { block := wr.heap.size, off := 0 } = false ∧ w2.frozen? { block := wr.heap.size, off := 1 } = false := by
  have hb : w2.heap[wr.heap.size]? = ((wr.alloc (.cells #[.int .i64 x, .int .i64 y] 32)).alloc o).heap[wr.heap.size]? := hg.block _ (by simp; omega) (fun e => by have := hr _ e.symm; omega)
  have hc : ((wr.alloc (.cells #[.int .i64 x, .int .i64 y] 32)).alloc o).heap[wr.heap.size]? = some (.cells #[.int .i64 x, .int .i64 y] 32 (0, 0)) := by
    show ((wr.heap.push _).push _)[wr.heap.size]? = _
    rw [Array.getElem?_push, if_neg (by simp), Array.getElem?_push, if_pos rfl]
  rw [hc] at hb
  refine ⟨?_, ?_, ?_, ?_⟩ <;> simp [World.cell?, World.frozen?, hb]

def swap (s : Sp) : Sp := (s.2, s.1)
def fill (m : Int) (s : Sp) : Sp := (if s.1 = 0 then m else s.1, if s.2 = 0 then m else s.2)
def ts (ls : List Sp) (k : Nat) : List Sp := (ls.reverse.take k).map swap
def us (m : Int) (ls : List Sp) (k : Nat) : List Sp := (ls.reverse.take k).map (fill m)
theorem rev_at {ls : List Sp} {n k j : Nat} {z : Sp} (hn : ls.length = n) (hk : k < n) (hj : j + k + 1 = n) (hz : ls[j]? = some z) : ls.reverse[k]? = some z := by
  rw [List.getElem?_reverse (by omega), ← hz]
  congr 1
  omega
theorem ts_snoc {ls : List Sp} {k : Nat} {z : Sp} (hz : ls.reverse[k]? = some z) : ts ls (k + 1) = ts ls k ++ [swap z] := by
  obtain ⟨hl, rfl⟩ := List.getElem?_eq_some_iff.1 hz
  unfold ts
  rw [List.take_succ_eq_append_getElem hl, List.map_append]; rfl
theorem us_snoc {m : Int} {ls : List Sp} {k : Nat} {z : Sp} (hz : ls.reverse[k]? = some z) : us m ls (k + 1) = us m ls k ++ [fill m z] := by
  obtain ⟨hl, rfl⟩ := List.getElem?_eq_some_iff.1 hz
  unfold us
  rw [List.take_succ_eq_append_getElem hl, List.map_append]; rfl
theorem ts_all {ls : List Sp} {n : Nat} (hn : ls.length = n) : ts ls n = ls.reverse.map swap := by
  unfold ts
  rw [List.take_of_length_le (by simp; omega)]
theorem us_all {m : Int} {ls : List Sp} {n : Nat} (hn : ls.length = n) : us m ls n = ls.reverse.map (fill m) := by
  unfold us
  rw [List.take_of_length_le (by simp; omega)]
theorem okS_swap (s : Sp) : okS (swap s) = okS s := by unfold okS swap; exact Bool.and_comm _ _
theorem inB_comm (f t n : Int) : inB f t n = inB t f n := by
  unfold inB
  rw [Bool.eq_iff_iff, decide_eq_true_eq, decide_eq_true_eq]
  omega
theorem may_map {ls : List Sp} {f : Sp → Sp} (hf : ∀ s ∈ ls, okS (f s) = okS s) : mayB (ls.reverse.map f) = mayB ls := by
  unfold mayB
  rw [List.length_map, List.length_reverse, List.all_map, List.all_reverse]
  congr 1
  rw [Bool.eq_iff_iff, List.all_eq_true, List.all_eq_true]
  constructor
  · intro h s hs; rw [← hf s hs]; exact h s hs
  · intro h s hs; show okS (f s) = true; rw [hf s hs]; exact h s hs
theorem any_map' {ls : List Sp} {f : Sp → Sp} {p q : Sp → Bool} (h : ∀ s, p (f s) = q s) : (ls.reverse.map f).any p = ls.any q := by
  rw [List.any_map, List.any_reverse]
  congr 1
  funext s
  exact h s
theorem has_turned (ls : List Sp) (n most : Int) : hasB (ls.reverse.map swap) n most = hasB ls n most := by
  unfold hasB
  rw [may_map (fun s _ => okS_swap s), any_map' (q := fun s => spB s n most)]
  intro s
  unfold spB swap
  exact inB_comm _ _ _
theorem okE_true {n : Int} (h : okE n = true) : 0 ≤ n ∧ n ≤ 1000000 := of_decide_eq_true h
theorem has_filled {ls : List Sp} {n most : Int} (hm : mayB ls = true) (h1 : 1 ≤ most) (h2 : most ≤ 1000000) : hasB (ls.reverse.map (fill most)) n 0 = hasB ls n most := by
  unfold hasB
  rw [may_map (fun s hs => ?_), any_map' (q := fun s => spB s n most)]
  · intro s
    unfold spB fill
    have e1 : ∀ a : Int, (if (if a = 0 then most else a) = 0 then (0 : Int) else if a = 0 then most else a) = if a = 0 then most else a := by
      intro a
      by_cases h : a = 0
      · rw [if_pos h, if_neg (by omega)]
      · rw [if_neg h, if_neg h]
    simp only [e1]
  · have h := may_all hm s hs
    rw [h]
    unfold okS at h ⊢
    rw [Bool.and_eq_true] at h ⊢
    have e1 : ∀ a : Int, okE a = true → okE (if a = 0 then most else a) = true := by
      intro a ha
      have := okE_true ha
      refine decide_eq_true ?_
      split <;> omega
    exact ⟨e1 _ h.1, e1 _ h.2⟩
end Go.Proofs.YtmojecimmogeaaaDoor.T
