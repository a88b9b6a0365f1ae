/-
  copied; a number put behind a row of the call's own, by the program and by the document's own answer.
-/
import Derived.Test.YtdgcihgohkgecaaDoorPkKit
import Derived.Laws.Bits128
import Derived.Lib.EndianBits
import Derived.WalkKit
import Derived.Laws.MakeOwn
namespace Go.Proofs.YtdgcihgohkgecaaDoor.PkA
open Go.RowKit Go.Proofs.YtdgcihgohkgecaaDoor.PkKit

/-- What comes back is a row of the call's own with these bytes. -/
def Gives (base : Nat) (w : World) (l : List UInt8) (e : Ending) (w' : World) : Prop := ∃ v, e = .returned v ∧ OB base w w' l.length v l

set_option maxRecDepth 100000 in
set_option maxHeartbeats 1000000 in
theorem copied_any {w : World} {B n cp : Nat} {A : Option Addr} {l : List UInt8} (h : BytesAt w B A n l) (hB : B ≤ w.heap.size) {m : Nat} (hm : n + m ≤ 140737488355328) :
    Calls Tryd.prog 107 #[.slice A n cp, .int .i64 (m : Nat)] w (Gives w.heap.size w l) := by
  have hl := h.1
  obtain ⟨i0, hi, hz0, hz1, hz2⟩ := info_parts info5
  obtain ⟨w1, hr, ho, hg⟩ := run_make_own (P := Tryd.prog) w w.heap.size 45 5 i0 (.int .u8 0) 1 Tryd.underlying45 hi hz0 hz1 .i64 .i64 (n + m) (by rw [hz2]; omega) (by unfold maxLen; omega) (Nat.le_refl _)
  rw [show ((n + m : Nat) : Int) = (n : Int) + (m : Int) by omega] at hr
  have hb1 : Below w.heap.size w w1 := ⟨hg.os, hg.tape, hg.output, hg.size, fun k hk => hg.block k hk (by simp)⟩
  have O1 := Lib.hid (show OB w.heap.size w w1 0 (.slice (some ⟨w.heap.size, 0, none⟩) 0 (n + m)) [] from ⟨ho, hb1, Nat.le_refl _⟩)
  have H := Lib.hid (h.below hb1 hB)
  have HL := Lib.hid hl
  have HB := Lib.hid hB
  obtain ⟨g, hgg⟩ : ∃ g, g = w.heap.size := ⟨_, rfl⟩
  rw [← hgg] at hr
  rw [← hgg] at O1
  rw [← hgg]
  clear ho hg hb1 h hl hi hz0 hz1 hz2 hB hgg
  go_enter Tryd.func107, Tryd.ntmps107
  go_wp2_with (at_builtin; refine wpList_by rfl _ _ rfl rfl rfl O1.out.own H.out (by omega) (Nat.le_trans O1.out.bas O1.out.bel.size) ?_; intro v' w3 hown3 hg3 hat3)
  go_ret
  refine ⟨v', rfl, ?_⟩
  rw [HL.out]
  have := O1.out.app (l' := l) (m := 0 + n) (by rw [show by_ l = by_ [] ++ by_ l from rfl]; exact hown3) hg3
  rwa [Nat.zero_add] at this

set_option maxRecDepth 100000 in
theorem i64_or_low (m : Nat) (h : m < 128) : bits .or .i64 (m : Int) 128 = ((m + 128 : Nat) : Int) := by
  have h1 := (bits_nat .i64 62 (by decide) (fun n h0 h1 => by rw [IntKind.wrap_i64]; omega) m 128 (by omega) (by decide)).2
  rw [show ((128 : Nat) : Int) = 128 from rfl] at h1
  rw [h1]
  have : m ||| 128 = m + 128 := by
    have := Lib.or128_nat ⟨m, by omega⟩
    simp only at this
    rw [this, Nat.mod_eq_of_lt h]
  rw [this]
/-- The number that is written. -/
def cl (n : Int) : Nat := (max 0 (min n 1099511627776)).toNat
set_option maxRecDepth 100000 in
theorem cl_le (n : Int) : cl n ≤ 1099511627776 := by unfold cl; omega
set_option maxRecDepth 100000 in
theorem uv_len {m : Nat} (h : m ≤ 1099511627776) : (Lib.uvarint m).length ≤ 6 := Lib.uvarint_length 5 m (by omega)


set_option maxHeartbeats 4000000 in
set_option maxRecDepth 100000 in
/-- A number is put behind a row of the call's own. -/
theorem appendNumber_any {base n : Nat} {w0 w : World} {v : Value} {l : List UInt8} (hO : OB base w0 w n v l) (x : Int) (hn : n + 10 ≤ 140737488355328) :
    Calls Tryd.prog 106 #[v, .int .i64 x] w fun e w' => ∃ v', e = .returned v' ∧ OB base w0 w' (n + (Lib.uvarint (cl x)).length) v' (l ++ Lib.uvarint (cl x)) := by
  have hcl := cl_le x
  have hx : (x < 0 ∧ cl x = 0) ∨ (x = 0 ∧ cl x = 0) ∨ (x = ((cl x : Nat) : Int) ∧ 0 < (cl x : Int)) ∨ (1099511627776 < x ∧ cl x = 1099511627776) := by unfold cl; omega
  obtain ⟨m, hm⟩ : ∃ m, m = cl x := ⟨_, rfl⟩
  rw [← hm] at hcl hx ⊢
  have hlen := uv_len hcl
  have HO := Lib.hid hO
  have hcli : (m : Int) ≤ 1099511627776 := by omega
  clear hm hO
  rcases hx with ⟨hx, hm0⟩ | ⟨hx, hm0⟩ | ⟨hm0, hx⟩ | ⟨hx, hm0⟩ <;>
  · have HM := Lib.hid hm0
    try subst x
    try clear hm0
    go_enter Tryd.func106, Tryd.ntmps106
    go_wp2_with fail
    go_loopw [0, 1] (fun s0 s1 wr => ∃ (v' : Value) (y : Nat) (pre : List UInt8), s0 = v' ∧ s1 = .int .i64 y ∧ y ≤ m ∧ Hid (Lib.uvarint m = pre ++ Lib.uvarint y) ∧ Hid (OB base w0 wr (n + pre.length) v' (l ++ pre))) (fun _ s1 _ => (intOf s1).toNat)
    case atStart => exact ⟨_, m, [], rfl, by first | rfl | (rw [HM.out]; rfl), Nat.le_refl _, rfl, by rw [List.append_nil]; exact HO.out⟩
    case round =>
      clear HO HM
      obtain ⟨v', y, pre, rfl, rfl, hy, HS, HO⟩ := hrel
      have hpl : pre.length + (Lib.uvarint y).length ≤ 6 := by
        have h2 := congrArg List.length HS.out
        rw [List.length_append] at h2
        omega
      have hyp := Lib.uvarint_pos y
      obtain ⟨pn, hpn⟩ : ∃ pn, pn = pre.length := ⟨_, rfl⟩
      rw [← hpn] at HO
      obtain ⟨A, cp, rfl, hcp⟩ := own_slice HO.out.own
      have hn6 : n + pn + 1 ≤ 140737488355328 := by omega
      have hws := Nat.le_trans HO.out.bas HO.out.bel.size
      by_cases h128 : 128 ≤ y
      · have hand := i64_and127 (y : Int)
        have hor : bits .or .i64 ((y : Int) % 128) 128 = ((y % 128 + 128 : Nat) : Int) := by
          rw [show (y : Int) % 128 = ((y % 128 : Nat) : Int) by omega]
          exact i64_or_low _ (by omega)
        have hconv : (((y % 128 + 128 : Nat) : Int)) % 256 = ((y % 128 + 128 : Nat) : Int) := by omega
        have hbig := Lib.uvarint_big h128
        obtain ⟨c, hc⟩ : ∃ c : Nat, c = y % 128 + 128 := ⟨_, rfl⟩
        have hc2 : c < 256 := by omega
        rw [← hc] at hor hconv hbig
        have hby : by_ [c.toUInt8] = [Value.int .u8 (c : Int)] := by
          have := Lib.byteCells_snoc [] hc2
          simpa [Lib.byteCells] using this
        have HPN := Lib.hid hpn
        have HBG := Lib.hid hbig
        have HBY := Lib.hid hby
        clear hpl hyp hlen hcl hc hbig hby hpn
        go_wp2_with (at_builtin; refine wpList_by rfl _ _ rfl rfl rfl (HO.out.own.alloc _) (bytesAt_new wr [c.toUInt8] rfl (Nat.lt_succ_self _) rfl HBY.out.symm) hn6 (Nat.le_trans (Nat.le_trans HO.out.bas HO.out.bel.size) (by simp)) ?_; intro v3 w3 hown3 hg3 hat3)
        have HO3 := Lib.hid (show OB base w0 w3 (n + pn + 1) v3 (l ++ (pre ++ [c.toUInt8])) from (HO.out.alloc _).app (by rw [← List.append_assoc, by_append]; exact hown3) hg3)
        clear hown3 hg3 hat3 HO
        go_wp2_with fail
        go_roundw
        case rel => exact ⟨v3, y / 128, pre ++ [c.toUInt8], rfl, by go_num, by omega, HS.out.trans (by rw [HBG.out]; simp), by rw [List.length_append, ← HPN.out]; exact HO3.out⟩
        case measure => simp [intOf]; omega
      · have hsm : Lib.uvarint y = [y.toUInt8] := Lib.uvarint_small (by omega)
        have hby : by_ [y.toUInt8] = [Value.int .u8 (y : Int)] := by
          have := Lib.byteCells_snoc [] (show y < 256 by omega)
          simpa [Lib.byteCells] using this
        have HPN := Lib.hid hpn
        have HSM := Lib.hid hsm
        have HBY := Lib.hid hby
        clear hpl hyp hlen hcl hsm hby hpn
        go_wp2_with (at_builtin; refine wpList_by rfl _ _ rfl rfl rfl (HO.out.own.alloc _) (bytesAt_new wr [y.toUInt8] rfl (Nat.lt_succ_self _) rfl HBY.out.symm) hn6 (Nat.le_trans (Nat.le_trans HO.out.bas HO.out.bel.size) (by simp)) ?_; intro v3 w3 hown3 hg3 hat3)
        go_ret
        refine ⟨v3, rfl, ?_⟩
        rw [HS.out, HSM.out, List.length_append, ← HPN.out, List.length_singleton, ← Nat.add_assoc]
        exact (HO.out.alloc _).app (by rw [← List.append_assoc, by_append]; exact hown3) hg3

end Go.Proofs.YtdgcihgohkgecaaDoor.PkA
