/-
  A table over ints and ints: what is asked of it.
-/
import Derived.Test.YtnijiimljpbgpaaTabI
namespace Go.Proofs.Ytnijiimljpbgpaa.TI
open Go.RowKit Go.Proofs.Ytnijiimljpbgpaa.Kit

theorem drewN_below (w : World) (n : Nat) : Below w.heap.size w (w.drewN n) := ⟨rfl, rfl, rfl, Nat.le_refl _, fun _ _ => rfl⟩

set_option maxHeartbeats 400000 in
theorem at_yes {w : World} {base T room : Nat} {ps : List PR} (h : Tab w base T room ps) (i : Nat) (p : PR) (hp : ps[i]? = some p) :
    Calls Try.prog 16 #[.pointer (some ⟨T, 0, none⟩), .int .i64 i] w fun e w' => e = .returned (.tuple #[(Value.int .i64 (p.1)), (Value.int .i64 (p.2)), .bool true]) ∧ Below w.heap.size w w' := by
  have hL := Lib.hid (len_ h)
  obtain ⟨hs, hl, hrm, V, hT, hB, ho⟩ := h
  have hilt := (List.getElem?_eq_some_iff.1 hp).1
  have hc1 : w.cell? ⟨T, 1, none⟩ = some V := hT.cell 1
  rcases owns_cases ho with ⟨rfl, h0, -⟩ | ⟨g, cap, rest, rfl, hb, hr, hnc, hcm, hl1, hl2⟩
  · omega
  · have hcc := cells_at ps i p hp
    have hcl := cells_length ps
    have hc2 : w.cell? ⟨g, i * 2, none⟩ = some (Value.int .i64 (p.1)) := by rw [hr.cell, List.getElem?_append_left (by omega)]; exact hcc.1
    have hc3 : w.cell? ⟨g, i * 2 + 1, none⟩ = some (Value.int .i64 (p.2)) := by rw [hr.cell, List.getElem?_append_left (by omega)]; exact hcc.2
    generalize ps.length = n at *
    have h1 : decide ((i : Int) < 0) = false := by simp
    have h2 : decide ((n : Int) ≤ (i : Int)) = false := by simp; omega
    have h3 : (0 : Int) ≤ (i : Int) := by omega
    have h4 : (i : Int) < (n : Int) := by omega
    clear hs hl hrm hT hB ho hp hcc hcl hb hr hnc hcm hl1 hl2
    go_enter Try.func16, Try.ntmps16
    go_wp2_with (go_at_call 17; refine hL.out.mono ?_; rintro e w' ⟨rfl, rfl⟩)
    go_quiet (fail)
    go_wp2
    go_ret3
    exact ⟨rfl, drewN_below _ _⟩

set_option maxHeartbeats 400000 in
theorem at_no {w : World} {base T room : Nat} {ps : List PR} (h : Tab w base T room ps) (i : Int) (hi : i < 0 ∨ (ps.length : Int) ≤ i) :
    Calls Try.prog 16 #[.pointer (some ⟨T, 0, none⟩), .int .i64 i] w fun e w' => e = .returned (.tuple #[(.int .i64 0), (.int .i64 0), .bool false]) ∧ Below w.heap.size w w' := by
  have hL := Lib.hid (len_ h)
  clear h
  by_cases h0 : i < 0
  · have h1 : decide (i < 0) = true := by simpa using h0
    go_enter Try.func16, Try.ntmps16
    go_wp2_with (go_at_call 17; refine hL.out.mono ?_; rintro e w' ⟨rfl, rfl⟩)
    go_ret3
    exact ⟨rfl, Below.refl _ _⟩
  · have h1 : decide (i < 0) = false := by simpa using h0
    have h2 : decide ((ps.length : Int) ≤ i) = true := by simp; omega
    clear hi
    go_enter Try.func16, Try.ntmps16
    go_wp2_with (go_at_call 17; refine hL.out.mono ?_; rintro e w' ⟨rfl, rfl⟩)
    go_ret3
    exact ⟨rfl, Below.refl _ _⟩

set_option maxHeartbeats 400000 in
theorem get_yes {w : World} {base T room : Nat} {ps : List PR} (h : Tab w base T room ps) (k : Int) (v : Int) (hh : ps[lo Cmp.cmpI k ps]? = some (k, v)) :
    Calls Try.prog 14 #[.pointer (some ⟨T, 0, none⟩), (Value.int .i64 (k))] w fun e w' => e = .returned (.tuple #[(Value.int .i64 (v)), .bool true]) ∧ Below w.heap.size w w' := by
  have hS := Lib.hid (search h k)
  rw [(hit_iff Cmp.ordI).2 ⟨v, hh⟩] at hS
  have Hw := Lib.hid h
  generalize lo Cmp.cmpI k ps = i at hS hh
  have HH := Lib.hid hh
  have hilt := (List.getElem?_eq_some_iff.1 hh).1
  clear hh h
  go_enter Try.func14, Try.ntmps14
  go_wp2_with fail
  refine hS.out.mono ?_
  rintro e w1 ⟨rfl, hb1⟩
  obtain ⟨hs, hl, hrm, V, hT, hB, ho⟩ := Hw.out.below hb1
  have HB1 := Lib.hid hb1
  clear hb1
  have hc1 : w1.cell? ⟨T, 1, none⟩ = some V := hT.cell 1
  rcases owns_cases ho with ⟨rfl, h0, -⟩ | ⟨g, cap, rest, rfl, hb, hr, hnc, hcm, hl1, hl2⟩
  · omega
  · have hcc := cells_at ps i _ HH.out
    have hcl := cells_length ps
    have hc3 : w1.cell? ⟨g, i * 2 + 1, none⟩ = some (Value.int .i64 (v)) := by rw [hr.cell, List.getElem?_append_left (by omega)]; exact hcc.2
    generalize ps.length = n at *
    have h4 : (i : Int) < (n : Int) := by omega
    clear hs hl hrm hT hB ho hcc hcl hb hr hnc hcm hl1 hl2
    go_wp2
    go_ret2
    exact ⟨rfl, HB1.out⟩

set_option maxHeartbeats 400000 in
theorem get_no {w : World} {base T room : Nat} {ps : List PR} (h : Tab w base T room ps) (k : Int) (hh : hit Cmp.cmpI k ps = false) :
    Calls Try.prog 14 #[.pointer (some ⟨T, 0, none⟩), (Value.int .i64 (k))] w fun e w' => e = .returned (.tuple #[(.int .i64 0), .bool false]) ∧ Below w.heap.size w w' := by
  have hS := Lib.hid (search h k)
  rw [hh] at hS
  clear hh h
  go_enter Try.func14, Try.ntmps14
  go_wp2_with fail
  refine hS.out.mono ?_
  rintro e w1 ⟨rfl, hb1⟩
  have HB1 := Lib.hid hb1
  clear hb1
  go_wp2
  go_ret2
  exact ⟨rfl, HB1.out⟩

set_option maxHeartbeats 400000 in
theorem from_yes {w : World} {base T room : Nat} {ps : List PR} (h : Tab w base T room ps) (k : Int) (p : PR) (hp : ps[lo Cmp.cmpI k ps]? = some p) :
    Calls Try.prog 15 #[.pointer (some ⟨T, 0, none⟩), (Value.int .i64 (k))] w fun e w' => e = .returned (.tuple #[(Value.int .i64 (p.1)), (Value.int .i64 (p.2)), .bool true]) ∧ Below w.heap.size w w' := by
  have hS := Lib.hid (search h k)
  have Hw := Lib.hid h
  have HP := Lib.hid hp
  clear hp h
  go_enter Try.func15, Try.ntmps15
  go_wp2_with fail
  refine hS.out.mono ?_
  rintro e w1 ⟨rfl, hb1⟩
  have HA := Lib.hid (at_yes (Hw.out.below hb1) _ p HP.out)
  have HB1 := Lib.hid hb1
  clear hb1
  go_wp2_with fail
  refine HA.out.mono ?_
  rintro e w2 ⟨rfl, hb2⟩
  have HB2 := Lib.hid (HB1.out.trans (hb2.mono HB1.out.size))
  clear hb2
  go_wp2
  go_ret3
  exact ⟨rfl, HB2.out⟩

set_option maxHeartbeats 400000 in
theorem from_no {w : World} {base T room : Nat} {ps : List PR} (h : Tab w base T room ps) (k : Int) (hp : lo Cmp.cmpI k ps = ps.length) :
    Calls Try.prog 15 #[.pointer (some ⟨T, 0, none⟩), (Value.int .i64 (k))] w fun e w' => e = .returned (.tuple #[(.int .i64 0), (.int .i64 0), .bool false]) ∧ Below w.heap.size w w' := by
  have hS := Lib.hid (search h k)
  have Hw := Lib.hid h
  have HP := Lib.hid hp
  clear hp h
  go_enter Try.func15, Try.ntmps15
  go_wp2_with fail
  refine hS.out.mono ?_
  rintro e w1 ⟨rfl, hb1⟩
  have HA := Lib.hid (at_no (Hw.out.below hb1) (lo Cmp.cmpI k ps : Nat) (by rw [HP.out]; omega))
  have HB1 := Lib.hid hb1
  clear hb1
  go_wp2_with fail
  refine HA.out.mono ?_
  rintro e w2 ⟨rfl, hb2⟩
  have HB2 := Lib.hid (HB1.out.trans (hb2.mono HB1.out.size))
  clear hb2
  go_wp2
  go_ret3
  exact ⟨rfl, HB2.out⟩
end Go.Proofs.Ytnijiimljpbgpaa.TI
