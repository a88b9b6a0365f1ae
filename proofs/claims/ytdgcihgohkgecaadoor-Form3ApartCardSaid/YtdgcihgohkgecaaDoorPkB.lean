/-
  Numbers and texts as bytes: Number, Text; by the program, and by the document's own answer.
-/
import Derived.Test.YtdgcihgohkgecaaDoorPkA
namespace Go.Proofs.YtdgcihgohkgecaaDoor.PkB
open Go.RowKit Go.Proofs.YtdgcihgohkgecaaDoor.PkKit Go.Proofs.YtdgcihgohkgecaaDoor.PkA

set_option maxRecDepth 100000 in
theorem cl_nat {m : Nat} (h : m ≤ 1099511627776) : cl (m : Int) = m := by unfold cl; omega
set_option maxRecDepth 100000 in
theorem gives_of {base n : Nat} {w w' : World} {v : Value} {l : List UInt8} (h : OB base w w' n v l) : Gives base w l (.returned v) w' := ⟨v, rfl, by rw [h.len]; exact h⟩
set_option maxRecDepth 100000 in
theorem Gives.own {base : Nat} {w w' : World} {l : List UInt8} {e : Ending} (h : Gives base w l e w') : ∃ v, e = .returned v ∧ OB base w w' l.length v l := h

set_option maxRecDepth 100000 in
set_option maxHeartbeats 1000000 in
theorem number_any {w : World} {B n cp : Nat} {A : Option Addr} {l : List UInt8} (h : BytesAt w B A n l) (hB : B ≤ w.heap.size) (x : Int) (hn : n + 16 ≤ 140737488355328) :
    Calls Tryd.prog 86 #[.slice A n cp, .int .i64 x] w (Gives w.heap.size w (l ++ Lib.uvarint (cl x))) := by
  have hl := h.1
  have C := copied_any (cp := cp) h hB (m := 6) (by omega)
  rw [show (((6 : Nat) : Int)) = 6 from rfl] at C
  have HC := Lib.hid C
  have HL := Lib.hid hl
  clear C hl h
  go_enter Tryd.func86, Tryd.ntmps86
  go_wp2_with fail
  refine HC.out.mono ?_
  rintro e w1 ⟨v1, rfl, O1⟩
  rw [HL.out] at O1
  have HA := Lib.hid (appendNumber_any O1 x (by omega))
  clear O1
  go_wp2_with fail
  refine HA.out.mono ?_
  rintro e w2 ⟨v2, rfl, O2⟩
  go_wp2_with fail
  go_ret
  exact gives_of O2

set_option maxRecDepth 100000 in
theorem strCells_by (s : ByteArray) : Lib.strCells s = by_ s.data.toList := rfl
/-- The text of a text: its number, its bytes. -/
def tx (s : ByteArray) : List UInt8 := Lib.uvarint s.size ++ s.data.toList

set_option maxRecDepth 100000 in
set_option maxHeartbeats 1000000 in
theorem text_any {w : World} {B n cp : Nat} {A : Option Addr} {l : List UInt8} (h : BytesAt w B A n l) (hB : B ≤ w.heap.size) (s : ByteArray) (hs : s.size ≤ 1099511627776) (hn : n ≤ 1099511627776) :
    Calls Tryd.prog 87 #[.slice A n cp, .string s] w (Gives w.heap.size w (l ++ tx s)) := by
  have hl := h.1
  have C := copied_any (cp := cp) h hB (m := 6 + s.size) (by omega)
  rw [show (((6 + s.size : Nat) : Int)) = 6 + (s.size : Int) by omega] at C
  obtain ⟨i0, hi, hz0, hz1, hz2⟩ := info_parts info5
  have HC := Lib.hid C
  have HL := Lib.hid hl
  have HI := Lib.hid hi
  have HI0 := Lib.hid hz0
  have HI1 := Lib.hid hz1
  have HI2 := Lib.hid hz2
  clear C hl h hi hz0 hz1 hz2
  go_enter Tryd.func87, Tryd.ntmps87
  go_wp2_with fail
  refine HC.out.mono ?_
  rintro e w1 ⟨v1, rfl, O1⟩
  rw [HL.out] at O1
  have HA := appendNumber_any O1 s.size (by omega)
  rw [cl_nat hs] at HA
  have HA := Lib.hid HA
  have hlen := uv_len hs
  clear O1
  go_wp2_with fail
  refine HA.out.mono ?_
  rintro e w2 ⟨v2, rfl, O2⟩
  have O2 := Lib.hid O2
  go_wp2_with (at_builtin; refine Lib.wpList_append_own_string _ rfl _ _ 45 9 rfl w.heap.size 5 i0 Tryd.underlying45 Tryd.underlying9 HI.out HI0.out HI1.out HI2.out _ _ _ rfl O2.out.own s rfl (by unfold maxLen; omega) (by omega) (O2.out.bel.size) ?_; intro v3 w3 hown3 hg3 hnil3)
  go_ret
  refine gives_of (n := n + (Lib.uvarint s.size).length + s.size) (v := v3) (O2.out.app ?_ hg3)
  unfold tx
  rw [← List.append_assoc, by_append, ← strCells_by]
  exact hown3
end Go.Proofs.YtdgcihgohkgecaaDoor.PkB
