/-
  A table over texts and texts: what is asked of it.
-/
import Derived.Test.YtnijiimljpbgpaaTabS
namespace Go.Proofs.Ytnijiimljpbgpaa.TS
open Go.RowKit Go.Proofs.Ytnijiimljpbgpaa.Kit

theorem drewN_below (w : World) (n : Nat) : Below w.heap.size w (w.drewN n) := ⟨rfl, rfl, rfl, Nat.le_refl _, fun _ _ => rfl⟩


set_option maxHeartbeats 400000 in
theorem get_yes {w : World} {base T room : Nat} {ps : List PR} (h : Tab w base T room ps) (k : ByteArray) (v : ByteArray) (hh : ps[lo Cmp.cmpS k ps]? = some (k, v)) :
    Calls Try.prog 23 #[.pointer (some ⟨T, 0, none⟩), (Value.string (k))] w fun e w' => e = .returned (.tuple #[(Value.string (v)), .bool true]) ∧ Below w.heap.size w w' := by
  have hS := Lib.hid (search h k)
  rw [(hit_iff Cmp.ordS).2 ⟨v, hh⟩] at hS
  have Hw := Lib.hid h
  generalize lo Cmp.cmpS k ps = i at hS hh
  have HH := Lib.hid hh
  have hilt := (List.getElem?_eq_some_iff.1 hh).1
  clear hh h
  go_enter Try.func23, Try.ntmps23
  go_wp2_with fail
  refine hS.out.mono ?_
  rintro e w1 ⟨rfl, hb1⟩
  obtain ⟨hs, hl, hrm, V, hT, hB, ho⟩ := Hw.out.below hb1
  have HB1 := Lib.hid hb1
  clear hb1
  have hc1 : w1.cell? ⟨T, 1, none⟩ = some V := hT.cell 1
  rcases owns_cases ho with ⟨rfl, h0, -⟩ | ⟨g, cap, rest, rfl, hb, hr, hnc, hcm, hl1, hl2⟩
  · omega
  · have hcc := cells_at ps i _ HH.out
    have hcl := cells_length ps
    have hc3 : w1.cell? ⟨g, i * 2 + 1, none⟩ = some (Value.string (v)) := by rw [hr.cell, List.getElem?_append_left (by omega)]; exact hcc.2
    generalize ps.length = n at *
    have h4 : (i : Int) < (n : Int) := by omega
    clear hs hl hrm hT hB ho hcc hcl hb hr hnc hcm hl1 hl2
    go_wp2
    go_ret2
    exact ⟨rfl, HB1.out⟩

set_option maxHeartbeats 400000 in
theorem get_no {w : World} {base T room : Nat} {ps : List PR} (h : Tab w base T room ps) (k : ByteArray) (hh : hit Cmp.cmpS k ps = false) :
    Calls Try.prog 23 #[.pointer (some ⟨T, 0, none⟩), (Value.string (k))] w fun e w' => e = .returned (.tuple #[(.string ⟨#[]⟩), .bool false]) ∧ Below w.heap.size w w' := by
  have hS := Lib.hid (search h k)
  rw [hh] at hS
  clear hh h
  go_enter Try.func23, Try.ntmps23
  go_wp2_with fail
  refine hS.out.mono ?_
  rintro e w1 ⟨rfl, hb1⟩
  have HB1 := Lib.hid hb1
  clear hb1
  go_wp2
  go_ret2
  exact ⟨rfl, HB1.out⟩

end Go.Proofs.Ytnijiimljpbgpaa.TS
