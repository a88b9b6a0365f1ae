/-
  The numbers that every program must know: awake answers true.
-/
import Derived.Test.YtmojecimmogeaaaDoorH
namespace Go.Proofs.YtmojecimmogeaaaDoor.I
open Go.RowKit Go.Proofs.YtmojecimmogeaaaDoor.Kit Go.Proofs.YtmojecimmogeaaaDoor.A Go.Proofs.YtmojecimmogeaaaDoor.B Go.Proofs.YtmojecimmogeaaaDoor.C Go.Proofs.YtmojecimmogeaaaDoor.D Go.Proofs.YtmojecimmogeaaaDoor.E Go.Proofs.YtmojecimmogeaaaDoor.F Go.Proofs.YtmojecimmogeaaaDoor.G Go.Proofs.YtmojecimmogeaaaDoor.H

def three : List Sp := [(5, 3), (9, 9), (0, 0)]
def sThree : ByteArray := ⟨#[53, 58, 51, 44, 57, 44, 42]⟩
theorem may3 : mayB three = true := by decide +kernel
theorem txt3 : txt three = [53, 58, 51, 44, 57, 44, 42] := by
  have e5 : endT 5 = [53] := by rw [endT_pos (by decide)]; exact Lib.decDigits_one (by decide)
  have e3 : endT 3 = [51] := by rw [endT_pos (by decide)]; exact Lib.decDigits_one (by decide)
  have e9 : endT 9 = [57] := by rw [endT_pos (by decide)]; exact Lib.decDigits_one (by decide)
  unfold three
  rw [txt_cons, txt_cons, txt_one, spT_two (by decide), spT_one rfl, spT_one rfl, e5, e3, e9]; rfl
theorem txB3 : txB three = sThree := by
  unfold txB
  rw [may3, if_pos rfl, txt3]; rfl
theorem h4 : hasB three 4 12 = true := by decide +kernel
theorem h12 : hasB three 12 12 = true := by decide +kernel
theorem h10 : hasB three 10 12 = false := by decide +kernel

/-- A row that lies in memory, as long as nothing below turns. -/
structure At (w wr : World) (A : Option Addr) (n : Nat) (zs : List Sp) : Prop where
  bel : Below w.heap.size w wr
  at_ : SpansAt wr A n zs
theorem At.go {w wr w2 : World} {A : Option Addr} {n : Nat} {zs : List Sp} (h : At w wr A n zs) (hb : Below wr.heap.size wr w2) : At w w2 A n zs :=
  ⟨h.bel.trans (hb.mono h.bel.size), h.at_.below hb⟩

set_option maxHeartbeats 2000000 in
set_option maxRecDepth 100000 in
theorem awake {w : World} (ht : Tab w) : Calls Tryd.prog 10 #[] w fun e w' => e = .returned (.bool true) ∧ Below w.heap.size w w' := by
  have P := parse_any may3 (n := 3) rfl w
  rw [show (⟨(txt three).toArray⟩ : ByteArray) = sThree by rw [txt3]; rfl] at P
  have HP := Lib.hid P
  have HT := Lib.hid ht
  have hk : (sThree.toList == [53, 58, 51, 44, 57, 44, 42]) = true := by rw [ByteArray.toList_eq]; rfl
  clear P ht
  go_enter Tryd.func10, Tryd.ntmps10
  go_wp2_with fail
  refine HP.out.mono ?_
  rintro e w1 ⟨A, cp, rfl, ho⟩
  have H1 := Lib.hid (show At w w1 A 3 three from ⟨ho.2, spansAt_own ho.1⟩)
  have C := has_any (cp := cp) (n := 4) (most := 12) H1.out.at_
  rw [h4] at C
  have HC := Lib.hid C
  clear ho C
  go_wp2_with fail
  refine HC.out.mono ?_
  rintro e w2 ⟨rfl, hb2⟩
  have H2 := Lib.hid (H1.out.go hb2)
  have C := has_any (cp := cp) (n := 12) (most := 12) H2.out.at_
  rw [h12] at C
  have HC := Lib.hid C
  clear hb2 C H1
  go_wp2_with fail
  refine HC.out.mono ?_
  rintro e w3 ⟨rfl, hb3⟩
  have H3 := Lib.hid (H2.out.go hb3)
  have C := has_any (cp := cp) (n := 10) (most := 12) H3.out.at_
  rw [h10] at C
  have HC := Lib.hid C
  clear hb3 C H2
  go_wp2_with fail
  refine HC.out.mono ?_
  rintro e w4 ⟨rfl, hb4⟩
  have H4 := Lib.hid (H3.out.go hb4)
  have C := text_any (cp := cp) H4.out.at_ (HT.out.below H4.out.bel (Nat.le_refl _))
  rw [txB3] at C
  have HC := Lib.hid C
  clear hb4 C H3
  go_wp2_with fail
  refine HC.out.mono ?_
  rintro e w5 ⟨rfl, hb5⟩
  have H5 := Lib.hid (H4.out.go hb5)
  go_wp2_with fail
  go_ret
  exact ⟨rfl, H5.out.bel⟩
end Go.Proofs.YtmojecimmogeaaaDoor.I
