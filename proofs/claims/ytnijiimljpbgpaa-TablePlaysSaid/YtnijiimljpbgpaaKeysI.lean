/-
  A table over ints and ints: Keys.
-/
import Derived.Test.YtnijiimljpbgpaaTabI
import Derived.OwnWalk
import Derived.Laws.NewBlocks
namespace Go.Proofs.Ytnijiimljpbgpaa.TI
open Go.RowKit Go.Proofs.Ytnijiimljpbgpaa.Kit

theorem kinfo : (Try.prog.info? 3).map (fun i => (i.zero, i.size, i.bytes)) = some (some (.int .i64 0), 1, 8) := by kernel_rfl

/-- the row of names while it is filled -/
def keysRow (ps : List PR) (j : Nat) : List Value := (ps.take j).map (fun p => (Value.int .i64 (p.1))) ++ List.replicate (ps.length - j) (.int .i64 0)

theorem keysRow_at (ps : List PR) (j : Nat) (h : j < ps.length) : (keysRow ps j)[j]? = some (.int .i64 0) := by
  unfold keysRow
  rw [List.getElem?_append_right (by simp; omega), List.getElem?_replicate, if_pos (by simp; omega)]
theorem keysRow_step (ps : List PR) (j : Nat) (p : PR) (h : ps[j]? = some p) : (keysRow ps j).set j (Value.int .i64 (p.1)) = keysRow ps (j + 1) := by
  have hl := (List.getElem?_eq_some_iff.1 h).1
  unfold keysRow
  rw [List.set_append_right _ _ (by simp; omega)]
  rw [List.take_succ_eq_append_getElem hl, (List.getElem?_eq_some_iff.1 h).2]
  rw [show ps.length - j = (ps.length - (j + 1)) + 1 by omega, List.replicate_succ]
  simp [Nat.min_eq_left (Nat.le_of_lt hl)]
theorem keysRow_len (ps : List PR) (j : Nat) (h : j ≤ ps.length) : (keysRow ps j).length = ps.length := by unfold keysRow; simp; omega
theorem keysRow_zero (ps : List PR) : keysRow ps 0 = List.replicate ps.length (.int .i64 0) := by simp [keysRow]
theorem keysRow_all (ps : List PR) : keysRow ps ps.length = ps.map (fun p => (Value.int .i64 (p.1))) := by simp [keysRow]

/-- What Keys tells: a row of its own with the names in order; nothing that was there has turned. -/
def KeysPost (w : World) (ps : List PR) (e : Ending) (w' : World) : Prop :=
  ∃ A c, e = .returned (.slice A ps.length c) ∧ w'.ownsRow w.heap.size 3 1 (.slice A ps.length c) ps.length (ps.map (fun p => (Value.int .i64 (p.1)))) ∧ Below w.heap.size w w'

set_option maxHeartbeats 1000000 in
theorem keys_ {w : World} {base T room : Nat} {ps : List PR} (h : Tab w base T room ps) :
    Calls Try.prog 18 #[.pointer (some ⟨T, 0, none⟩)] w (KeysPost w ps) := by
  have hL := Lib.hid (len_ h)
  obtain ⟨hs, hl, hrm, V, hT, hB, ho⟩ := h
  have hc1 : w.cell? ⟨T, 1, none⟩ = some V := hT.cell 1
  have hTlt := hT.lt
  have HT := Lib.hid hT
  rcases owns_cases ho with ⟨rfl, h0, -⟩ | ⟨g, cap, rest, rfl, hb, hr, hnc, hcm, hl1, hl2⟩
  · obtain rfl : ps = [] := List.eq_nil_of_length_eq_zero h0
    clear hs hl hrm hT hB ho h0
    go_enter Try.func18, Try.ntmps18
    go_wp2_with (go_at_call 17; refine hL.out.mono ?_; rintro e w' ⟨rfl, rfl⟩)
    go_ret
    exact ⟨none, 0, rfl, World.ownsRow_nil _ _ _ _, Below.refl _ _⟩
  · by_cases h0 : ps.length = 0
    · have hps := List.eq_nil_of_length_eq_zero h0
      subst hps
      clear hs hl hrm hT hB ho h0 hb hr hnc hcm hl1 hl2
      go_enter Try.func18, Try.ntmps18
      go_wp2_with (go_at_call 17; refine hL.out.mono ?_; rintro e w' ⟨rfl, rfl⟩)
      go_ret
      exact ⟨none, 0, rfl, World.ownsRow_nil _ _ _ _, Below.refl _ _⟩
    · obtain ⟨i0, hi0, hz0, hz1, hz2⟩ := info_parts kinfo
      have hne : (((ps.length : Nat) : Int) == 0) = false := by rw [beq_eq_false_iff_ne]; omega
      have hcell : ∀ j, j < ps.length → ∃ p, ps[j]? = some p ∧ ∀ wr, Below w.heap.size w wr → wr.cell? ⟨g, j * 2, none⟩ = some (Value.int .i64 (p.1)) ∧ wr.cell? ⟨g, j * 2 + 1, none⟩ = some (Value.int .i64 (p.2)) := by
        intro j hj
        refine ⟨ps[j], List.getElem?_eq_getElem hj, fun wr hb => ?_⟩
        have h2 := cells_at ps j _ (List.getElem?_eq_getElem hj)
        have hr' := hr.below hb hr.lt
        have hl := cells_length ps
        rw [hr'.cell, hr'.cell, List.getElem?_append_left (by omega), List.getElem?_append_left (by omega)]
        exact h2
      have HC := Lib.hid hcell
      have HKZ := Lib.hid (keysRow_zero ps)
      have HKA := Lib.hid (keysRow_all ps)
      have HKL := Lib.hid (fun j hj => keysRow_len ps j hj)
      have hmk : ∀ W : World, (Instr.makeSlice 26 (.int .i64 (ps.length : Nat)) (.int .i64 (ps.length : Nat))).run Try.prog W = .ok (.slice (some ⟨W.heap.size, 0, none⟩) ps.length ps.length) (W.alloc (.cells (keysRow ps 0).toArray 3)) := by
        intro W
        have hr := run_make (P := Try.prog) W 26 3 i0 (.int .i64 0) Try.underlying26 hi0 hz0 .i64 .i64 (ps.length : Nat) (ps.length : Nat) (by omega) (by omega) (by rw [hz2]; omega) (by omega)
        rw [hr, keysRow_zero, ← toList_madeCells_one]
        simp [hz1, Value.cells]
      obtain ⟨N, hN⟩ : ∃ N, N = w.heap.size := ⟨_, rfl⟩
      have HN := Lib.hid hN
      have hgl : g < N := by rw [hN]; exact hr.lt
      have hst : Hid (Row (w.alloc (.cells (keysRow ps 0).toArray 3)) N 3 (keysRow ps 0)) := by show Row _ _ _ _; rw [hN]; exact heap_alloc_new w _
      have hbst := Lib.hid (below_alloc w (.cells (keysRow ps 0).toArray 3))
      have hTN : T < N := by rw [hN]; exact hTlt
      have HFIN : Hid (∀ wr, Row wr N 3 (keysRow ps ps.length) → Below w.heap.size w wr → wr.ownsRow w.heap.size 3 1 (.slice (some ⟨N, 0, none⟩) ps.length ps.length) ps.length (ps.map (fun p => (Value.int .i64 (p.1))))) := by
        intro wr h1 h2
        rw [keysRow_all] at h1
        have h3 := owns_mk (s := 1) (base := w.heap.size) (n := ps.length) (cap := ps.length) (rest := []) (Nat.le_of_eq hN.symm) (by rw [List.append_nil]; exact h1) (Nat.le_refl _) (by unfold maxLen; omega) (by simp) (by simp)
        exact h3
      have HSTEP : Hid (∀ wr j p v, j < ps.length → ps[j]? = some p → Row wr N 3 (keysRow ps j) → Below w.heap.size w wr →
          (wr.cell? ⟨N, j, none⟩ = some (.int .i64 0) ∧ wr.frozen? ⟨N, j, none⟩ = false ∧ N < wr.heap.size) ∧
          Row ((wr.setCell ⟨N, j, none⟩ (Value.int .i64 (p.1))).alloc (.cells v 60)) N 3 (keysRow ps (j + 1)) ∧ Below w.heap.size w ((wr.setCell ⟨N, j, none⟩ (Value.int .i64 (p.1))).alloc (.cells v 60))) := by
        intro wr j p v hj hp h1 h2
        refine ⟨⟨(h1.cell j).trans (keysRow_at ps j hj), h1.frozen j, h1.lt⟩, ?_, ?_⟩
        · rw [← keysRow_step ps j p hp]
          exact (h1.stored j _).alloc _
        · exact (h2.setCell (p := ⟨N, j, none⟩) (Nat.le_of_eq hN.symm) _).alloc (by simpa [World.setCell] using h2.size) _
      generalize hR0 : keysRow ps 0 = R0 at hmk hst hbst HKZ
      have HR0 := Lib.hid hR0
      clear hR0
      have hn1 : ps.length ≤ 1000 := by omega
      have hc1' : (w.alloc (.cells R0.toArray 3)).cell? ⟨T, 1, none⟩ = some (.slice (some ⟨g, 0, none⟩) ps.length cap) := (hT.alloc _).cell 1
      have hmkw := hmk w
      rw [← hN] at hmkw
      clear hmk
      generalize hn : ps.length = n at *
      have HLN := Lib.hid hn
      clear hs hl hT hB ho hb hr hnc hcm hl1 hl2 hcell h0 hi0 hz0 hz1 hz2 hN hn
      go_enter Try.func18, Try.ntmps18
      go_wp2_with (go_at_call 17; refine hL.out.mono ?_; rintro e w' ⟨rfl, rfl⟩)
      go_loopw [20] (fun s20 wr => ∃ j : Nat, j ≤ n ∧ s20 = .int .i64 j ∧ Hid (Row wr N 3 (keysRow ps j)) ∧ Hid (Below w.heap.size w wr)) (fun s20 _ => n - (intOf s20).toNat)
      case atStart => exact ⟨0, Nat.zero_le _, rfl, by rw [HR0.out]; exact hst, hbst⟩
      case round =>
        obtain ⟨j, hj, rfl, hR, hB⟩ := hrel
        by_cases hlt : j < n
        · obtain ⟨p, hp, hpc⟩ := HC.out j hlt
          obtain ⟨hc2, hc3⟩ := hpc wr hB.out
          obtain ⟨⟨hc4, hf4, hNl⟩, hR2, hB2⟩ := HSTEP.out wr j p #[(Value.int .i64 (p.1)), (Value.int .i64 (p.2))] hlt hp hR.out hB.out
          have HR2 := Lib.hid hR2
          have HB2 := Lib.hid hB2
          clear hp hpc hR2 hB2 hst hbst
          go_wp2
          go_roundw
          case rel => exact ⟨j + 1, by omega, by go_num, HR2, HB2⟩
          case measure => simp [intOf]; omega
        · obtain rfl : n = j := by omega
          go_wp2
          go_ret
          unfold KeysPost
          rw [HLN.out]
          exact ⟨_, _, rfl, HFIN.out _ hR.out hB.out, hB.out⟩
end Go.Proofs.Ytnijiimljpbgpaa.TI
