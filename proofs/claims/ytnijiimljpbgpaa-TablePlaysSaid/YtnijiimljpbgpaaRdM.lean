/-
  A table over texts and ints: what is asked of it.
-/
import Derived.Test.YtnijiimljpbgpaaTabM
namespace Go.Proofs.Ytnijiimljpbgpaa.TM
open Go.RowKit Go.Proofs.Ytnijiimljpbgpaa.Kit

theorem drewN_below (w : World) (n : Nat) : Below w.heap.size w (w.drewN n) := ⟨rfl, rfl, rfl, Nat.le_refl _, fun _ _ => rfl⟩

set_option maxHeartbeats 400000 in
theorem at_yes {w : World} {base T room : Nat} {ps : List PR} (h : Tab w base T room ps) (i : Nat) (p : PR) (hp : ps[i]? = some p) :
    Calls Try.prog 26 #[.pointer (some ⟨T, 0, none⟩), .int .i64 i] w fun e w' => e = .returned (.tuple #[(Value.string (p.1)), (Value.int .i64 (p.2)), .bool true]) ∧ Below w.heap.size w w' := by
  have hL := Lib.hid (len_ h)
  obtain ⟨hs, hl, hrm, V, hT, hB, ho⟩ := h
  have hilt := (List.getElem?_eq_some_iff.1 hp).1
  have hc1 : w.cell? ⟨T, 1, none⟩ = some V := hT.cell 1
  rcases owns_cases ho with ⟨rfl, h0, -⟩ | ⟨g, cap, rest, rfl, hb, hr, hnc, hcm, hl1, hl2⟩
  · omega
  · have hcc := cells_at ps i p hp
    have hcl := cells_length ps
    have hc2 : w.cell? ⟨g, i * 2, none⟩ = some (Value.string (p.1)) := by rw [hr.cell, List.getElem?_append_left (by omega)]; exact hcc.1
    have hc3 : w.cell? ⟨g, i * 2 + 1, none⟩ = some (Value.int .i64 (p.2)) := by rw [hr.cell, List.getElem?_append_left (by omega)]; exact hcc.2
    generalize ps.length = n at *
    have h1 : decide ((i : Int) < 0) = false := by simp
    have h2 : decide ((n : Int) ≤ (i : Int)) = false := by simp; omega
    have h3 : (0 : Int) ≤ (i : Int) := by omega
    have h4 : (i : Int) < (n : Int) := by omega
    clear hs hl hrm hT hB ho hp hcc hcl hb hr hnc hcm hl1 hl2
    go_enter Try.func26, Try.ntmps26
    go_wp2_with (go_at_call 27; refine hL.out.mono ?_; rintro e w' ⟨rfl, rfl⟩)
    go_quiet (fail)
    go_wp2
    go_ret3
    exact ⟨rfl, drewN_below _ _⟩

set_option maxHeartbeats 400000 in
theorem at_no {w : World} {base T room : Nat} {ps : List PR} (h : Tab w base T room ps) (i : Int) (hi : i < 0 ∨ (ps.length : Int) ≤ i) :
    Calls Try.prog 26 #[.pointer (some ⟨T, 0, none⟩), .int .i64 i] w fun e w' => e = .returned (.tuple #[(.string ⟨#[]⟩), (.int .i64 0), .bool false]) ∧ Below w.heap.size w w' := by
  have hL := Lib.hid (len_ h)
  clear h
  by_cases h0 : i < 0
  · have h1 : decide (i < 0) = true := by simpa using h0
    go_enter Try.func26, Try.ntmps26
    go_wp2_with (go_at_call 27; refine hL.out.mono ?_; rintro e w' ⟨rfl, rfl⟩)
    go_ret3
    exact ⟨rfl, Below.refl _ _⟩
  · have h1 : decide (i < 0) = false := by simpa using h0
    have h2 : decide ((ps.length : Int) ≤ i) = true := by simp; omega
    clear hi
    go_enter Try.func26, Try.ntmps26
    go_wp2_with (go_at_call 27; refine hL.out.mono ?_; rintro e w' ⟨rfl, rfl⟩)
    go_ret3
    exact ⟨rfl, Below.refl _ _⟩


end Go.Proofs.Ytnijiimljpbgpaa.TM
