/-
  The line that every program must know: two texts put, a third has no room; the first one is taken.
-/
import Derived.Test.YtkhecigpjjhmjaaLnS
namespace Go.Proofs.Ytkhecigpjjhmjaa.AW
open Go.RowKit Go.Conc Go.Proofs.Ytkhecigpjjhmjaa.Kit

theorem rm2 : LS.rm 2 = 2 := by decide

set_option maxHeartbeats 400000 in
theorem awake (w : World) : Calls Try.prog 7 #[] w fun e w' => e = .returned (.bool true) ∧ Below w.heap.size w w' := by
  have hN := LS.new 2 w
  rw [rm2] at hN
  have HN := Lib.hid hN
  clear hN
  go_enter Try.func7, Try.ntmps7
  go_wp2_with fail
  refine HN.out.mono ?_
  rintro e w1 ⟨rfl, hl1, hb1⟩
  have P1 := Lib.hid (LS.put_room hl1 (by simp) ⟨#[120]⟩)
  have HB1 := Lib.hid hb1
  clear hb1 hl1
  go_wp2_with fail
  refine P1.out.mono ?_
  rintro e w2 ⟨rfl, hl2, hg2⟩
  have P2 := Lib.hid (LS.put_room hl2 (by simp) ⟨#[121]⟩)
  have HG2 := Lib.hid hg2
  clear hl2 hg2
  go_wp2_with fail
  refine P2.out.mono ?_
  rintro e w3 ⟨rfl, hl3, hg3⟩
  have P3 := Lib.hid (LS.put_full hl3 (by simp) ⟨#[122]⟩)
  have HG3 := Lib.hid hg3
  have HL3 := Lib.hid hl3
  clear hl3 hg3
  go_wp2_with fail
  refine P3.out.mono ?_
  rintro e w4 ⟨rfl, hb4⟩
  have hl4 := HL3.out.below hb4
  have T4 := Lib.hid (LS.take_some hl4)
  have HB4 := Lib.hid hb4
  clear hl4 hb4
  go_wp2_with fail
  refine T4.out.mono ?_
  rintro e w5 ⟨rfl, hl5, hg5⟩
  have N5 := Lib.hid (LS.len_ hl5)
  have HL5 := Lib.hid hl5
  have HG5 := Lib.hid hg5
  clear hl5 hg5
  have hkk : ((⟨#[120]⟩ : ByteArray).toList == (⟨#[120]⟩ : ByteArray).toList) = true := by simp
  go_wp2_with fail
  refine N5.out.mono ?_
  rintro e w6 ⟨rfl, rfl⟩
  have R5 := Lib.hid (LS.room_ HL5.out)
  go_wp2_with fail
  refine R5.out.mono ?_
  rintro e w6 ⟨rfl, hb6⟩
  have HB6 := Lib.hid hb6
  clear hb6
  go_wp2
  go_ret
  refine ⟨rfl, ?_⟩
  have g := grown_trans (grown_trans HG2.out HG3.out) (grown_trans (grown_below HB4.out) HG5.out)
  have b := below_of_grown (B := w.heap.size) g HB1.out.size (fun g e => by injection e; omega)
  exact (HB1.out.trans b).trans (HB6.out.mono ((HB1.out.trans b).size))
end Go.Proofs.Ytkhecigpjjhmjaa.AW
