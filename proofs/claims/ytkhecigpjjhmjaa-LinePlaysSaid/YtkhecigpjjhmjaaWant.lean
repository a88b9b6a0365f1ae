/-
  A slice of ints of the call's own, wherever it begins in its row: cut at its head, appended to; and a line beside it.
-/
import Derived.Test.YtkhecigpjjhmjaaKitB
import Derived.Lib.AppendZeros
namespace Go.Proofs.Ytkhecigpjjhmjaa.PL
open Go.RowKit Go.Conc Go.Proofs.Ytkhecigpjjhmjaa.Kit Go.Proofs.Ytkhecigpjjhmjaa.Arg Go.Proofs.Ytkhecigpjjhmjaa.LI

def Want (w : World) (base : Nat) (A : Option Addr) (cp : Nat) (ys : List Int) : Prop :=
  (A = none ∧ cp = 0 ∧ ys = []) ∨ ∃ (g off : Nat) (cur : Array Value), A = some ⟨g, off, none⟩ ∧ base ≤ g ∧ w.heap[g]? = some (Obj.cells cur 3 (0, 0)) ∧ ys.length ≤ cp ∧ cp ≤ maxLen ∧ off + cp ≤ cur.size ∧ (cur.toList.drop off).take ys.length = ints ys

/-- no block of the things is the slice's -/
def Away (A : Option Addr) (bs : List Nat) : Prop := ∀ g off, A = some ⟨g, off, none⟩ → g ∉ bs

section
variable {w w' : World} {base : Nat} {A : Option Addr} {cp : Nat} {ys : List Int}
theorem Want.nil (w : World) (base : Nat) : Want w base none 0 [] := .inl ⟨rfl, rfl, rfl⟩
theorem Want.le (h : Want w base A cp ys) : ys.length ≤ cp := by
  rcases h with ⟨rfl, rfl, rfl⟩ | ⟨g, off, cur, rfl, hb, hg, hl, hm, hs, ht⟩
  · exact Nat.le_refl _
  · exact hl
theorem Want.block (h : Want w base A cp ys) {g off : Nat} (e : A = some ⟨g, off, none⟩) : base ≤ g ∧ g < w.heap.size := by
  rcases h with ⟨rfl, rfl, rfl⟩ | ⟨g', off', cur, rfl, hb, hg, hl, hm, hs, ht⟩
  · cases e
  · injection e with e
    injection e with e1 e2
    subst e1
    exact ⟨hb, heap_lt hg⟩
theorem Want.kept {row : Option Nat} (h : Want w base A cp ys) (hg : w.grownBy w' row) (hr : ∀ g off, A = some ⟨g, off, none⟩ → some g ≠ row) : Want w' base A cp ys := by
  rcases h with ⟨rfl, rfl, rfl⟩ | ⟨g, off, cur, rfl, hb, hgg, hl, hm, hs, ht⟩
  · exact Want.nil _ _
  · exact .inr ⟨g, off, cur, rfl, hb, by rw [hg.block g (heap_lt hgg) (hr g off rfl)]; exact hgg, hl, hm, hs, ht⟩
theorem Want.below (h : Want w base A cp ys) (hb : Below w.heap.size w w') : Want w' base A cp ys := h.kept (row := none) (grown_below hb) (fun _ _ _ => by simp)

theorem Want.cellAt {g off : Nat} {cur : Array Value} (hg : w.heap[g]? = some (Obj.cells cur 3 (0, 0))) (ht : (cur.toList.drop off).take ys.length = ints ys) {j : Nat} {u : Value} (hj : (ints ys)[j]? = some u) :
    w.cell? ((⟨g, off, none⟩ : Addr).add j) = some u := by
  have hadd : (⟨g, off, none⟩ : Addr).add j = ⟨g, off + j, none⟩ := by unfold Addr.add; split <;> simp_all
  rw [hadd, cell_of_row w g (off + j) cur 3 (0, 0) hg]
  rw [← ht, List.getElem?_take] at hj
  split at hj
  · rw [List.getElem?_drop] at hj
    simpa using hj
  · cases hj

theorem Want.ints (h : Want w base A cp ys) : IntsAt w A ys.length ys := by
  rcases h with ⟨rfl, rfl, rfl⟩ | ⟨g, off, cur, rfl, hb, hg, hl, hm, hs, ht⟩
  · exact ⟨rfl, fun h => absurd h (Nat.lt_irrefl 0)⟩
  · refine ⟨rfl, fun _ => ⟨_, rfl, heap_lt hg, fun j z hj => ?_⟩⟩
    exact Want.cellAt hg ht (by unfold LI.ints; rw [List.getElem?_map, hj]; rfl)

theorem Want.tail {y : Int} (h : Want w base A cp (y :: ys)) : Want w base (if cp = 1 then A else A.map (fun x : Addr => x.add 1)) (cp - 1) ys := by
  rcases h with ⟨rfl, rfl, h⟩ | ⟨g, off, cur, rfl, hb, hg, hl, hm, hs, ht⟩
  · cases h
  · simp only [List.length_cons] at hl
    by_cases h1 : cp = 1
    · rw [if_pos h1]
      refine .inr ⟨g, off, cur, rfl, hb, hg, by omega, by omega, by omega, ?_⟩
      obtain rfl : ys = [] := List.eq_nil_of_length_eq_zero (by omega)
      simp [LI.ints]
    · rw [if_neg h1]
      have hadd : (⟨g, off, none⟩ : Addr).add 1 = ⟨g, off + 1, none⟩ := by unfold Addr.add; split <;> simp_all
      refine .inr ⟨g, off + 1, cur, by rw [Option.map_some, hadd], hb, hg, by omega, by omega, by omega, ?_⟩
      have h2 := congrArg List.tail ht
      have hlen : 0 < (cur.toList.drop off).length := by simp; omega
      obtain ⟨c0, rest, hc⟩ : ∃ c0 rest, cur.toList.drop off = c0 :: rest := by
        cases hd : cur.toList.drop off with
        | nil => rw [hd] at hlen; simp at hlen
        | cons c0 rest => exact ⟨c0, rest, rfl⟩
      rw [hc] at h2
      have hc1 : cur.toList.drop (off + 1) = rest := by rw [← List.tail_drop, hc]; rfl
      rw [hc1]
      simpa [LI.ints] using h2

/-- an append of one int: where the new slice lies, and what may have turned -/
theorem Want.append (h : Want w base A cp ys) (hbase : base ≤ w.heap.size) (hn : ys.length ≤ 1000) (x : Int) (ty : TypeId) (a : Addr) (c : Nat) (hx : w.cell? a = some (.int .i64 x)) :
    ∃ A' cp' w', (Builtin.append_ #[26, 26] ty #[.slice A ys.length cp, .slice (some a) 1 c]).run Try.prog w = .ok (.slice A' (ys.length + 1) cp') w' ∧ Want w' base A' cp' (ys ++ [x]) ∧
      ((∃ g off, A = some ⟨g, off, none⟩ ∧ A' = some ⟨g, off, none⟩ ∧ w.grownBy w' (some g)) ∨ (A' = some ⟨w.heap.size, 0, none⟩ ∧ Below w.heap.size w w')) := by
  obtain ⟨i0, hi0, hz0, hz1, hz2⟩ := info_parts kinfo
  have hnews : ∀ j u, [Value.int .i64 x][j]? = some u → w.cell? (a.add j) = some u := by
    intro j u hj
    match j, hj with
    | 0, hj =>
      simp at hj
      subst hj
      have : a.add 0 = a := by unfold Addr.add; split <;> simp_all
      rw [this]; exact hx
  have grown : ∀ (olds : List Value) (need old : Nat), olds = LI.ints ys → need = ys.length + 1 →
      Want (w.drew.alloc (.cells (olds.toArray ++ [Value.int .i64 x].toArray ++ Builtin.zeroCells (Value.int .i64 0).cells (grownCap w need old 3 - need)) 3)) base (some ⟨w.heap.size, 0, none⟩) (grownCap w need old 3) (ys ++ [x]) := by
    intro olds need old ho hne
    subst ho
    have hge := grownCap_ge w need old 3
    have hcm : grownCap w need old 3 ≤ maxLen := grownCap_le_maxLen w need old 3 (by unfold maxLen; omega)
    refine .inr ⟨w.heap.size, 0, _, rfl, hbase, heap_alloc_new w.drew _, by simp; omega, hcm, ?_, ?_⟩
    · simp only [Array.size_append, List.size_toArray, size_zeroCells, ints_length, List.length_cons, List.length_nil]
      simp [Value.cells]
      omega
    · rw [List.drop_zero]
      simp only [Array.toList_append, List.append_assoc]
      rw [← List.append_assoc, ← ints_snoc]
      have e : (ys ++ [x]).length = (LI.ints (ys ++ [x])).length := by rw [ints_length]
      rw [e]
      exact List.take_left
  rcases h with ⟨rfl, rfl, rfl⟩ | ⟨g, off, cur, rfl, hb, hg, hl, hm, hs, ht⟩
  · have hr := run_append_nil (P := Try.prog) w 26 ty 3 i0 (.int .i64 0) Try.underlying26 hi0 hz0 a 1 c [.int .i64 x] (by simp [hz1]) hnews (by omega) (by omega) (by rw [hz2]; omega)
    have hw := grown [] 1 0 rfl rfl
    simp only [List.nil_append, Array.empty_append] at hw
    refine ⟨_, _, _, hr, hw, .inr ⟨rfl, ?_⟩⟩
    exact ((Below.refl _ _).drew).alloc (Nat.le_refl _) _
  · by_cases hroom : ys.length + 1 ≤ cp
    · have hf := run_firstCells_some (P := Try.prog) w 1 1 a 1 c [.int .i64 x] rfl hnews
      have hst := run_storeCells_at Try.prog g (off + ys.length) 3 [.int .i64 x] 0 cur w hg (by simp; omega) (by simp [Value.oneCell'])
      simp only [Nat.add_zero] at hst
      refine ⟨some ⟨g, off, none⟩, cp, w.setRow g (cur.toList.take (off + ys.length) ++ [Value.int .i64 x] ++ cur.toList.drop (off + ys.length + [Value.int .i64 x].length)).toArray, ?_, ?_, .inl ⟨g, off, rfl, rfl, ?_⟩⟩
      · have hadd : ((⟨g, off, none⟩ : Addr).add ys.length) = ⟨g, off + ys.length, none⟩ := by unfold Addr.add; split <;> simp_all
        simp [Builtin.append_, run_underlying Try.underlying26, sizeOf, typeInfo, hi0, hz1, Builtin.lenOf, hroom, hf, hadd, hst]
      · refine .inr ⟨g, off, _, rfl, hb, setRow_heap w g cur _ 3 (0, 0) hg, by simp; omega, hm, ?_, ?_⟩
        · simp
          omega
        · simp only [List.append_assoc]
          rw [List.drop_append_of_le_length (by simp; omega)]
          have h1 : (cur.toList.take (off + ys.length)).drop off = (cur.toList.drop off).take ys.length := by rw [List.drop_take]; congr 1; omega
          rw [h1, ht, ints_snoc, ← List.append_assoc]
          have e : (ys ++ [x]).length = (LI.ints ys ++ [Value.int .i64 x]).length := by simp [ints_length]
          rw [e]
          exact List.take_left
      · exact ⟨rfl, rfl, rfl, by simp [World.setRow], fun k _ hne => setRow_other w g k _ (fun e => hne (by rw [e]))⟩
    · have holds : ∀ j u, (LI.ints ys)[j]? = some u → w.cell? ((⟨g, off, none⟩ : Addr).add j) = some u := fun j u hj => Want.cellAt hg ht hj
      have hr := run_append_grow (P := Try.prog) w 26 ty 3 i0 (.int .i64 0) Try.underlying26 hi0 hz0 ⟨g, off, none⟩ ys.length cp (LI.ints ys) (by rw [ints_length, hz1]; omega) holds a 1 c [.int .i64 x] (by simp [hz1]) hnews (by omega) (by omega) (growslice_fits (by omega) (by rw [hz2]; omega))
      refine ⟨_, _, _, hr, grown (LI.ints ys) _ cp rfl rfl, .inr ⟨rfl, ?_⟩⟩
      exact ((Below.refl _ _).drew).alloc (Nat.le_refl _) _
end
end Go.Proofs.Ytkhecigpjjhmjaa.PL
