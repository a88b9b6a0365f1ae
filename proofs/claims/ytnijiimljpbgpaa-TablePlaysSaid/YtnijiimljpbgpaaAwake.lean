/-
  The table that every program must know: two names put, the lower one stands first.
-/
import Derived.Test.YtnijiimljpbgpaaPutM
import Derived.Test.YtnijiimljpbgpaaRdM
namespace Go.Proofs.Ytnijiimljpbgpaa.AW
open Go.RowKit Go.Proofs.Ytnijiimljpbgpaa.Kit

theorem cmp_ba : Cmp.cmpS ⟨#[98]⟩ ⟨#[97]⟩ = 1 := by
  unfold Cmp.cmpS
  simp only [ByteArray.toList_eq]
  decide

theorem rm5 : TM.rm 5 = 5 := by decide
theorem put1 : (if hit Cmp.cmpS ⟨#[98]⟩ ([] : List TM.PR) || decide (([] : List TM.PR).length < TM.rm 5) then put Cmp.cmpS ⟨#[98]⟩ 2 ([] : List TM.PR) else []) = [(⟨#[98]⟩, (2 : Int))] := by
  simp [hit, put, ins, lo, rm5]
theorem ok1 : (hit Cmp.cmpS ⟨#[98]⟩ ([] : List TM.PR) || decide (([] : List TM.PR).length < TM.rm 5)) = true := by
  simp [rm5]
theorem hit2 : hit Cmp.cmpS ⟨#[97]⟩ ([(⟨#[98]⟩, (2 : Int))] : List TM.PR) = false := by
  simp [hit, lo, cmp_ba]
theorem put2 : (if hit Cmp.cmpS ⟨#[97]⟩ ([(⟨#[98]⟩, (2 : Int))] : List TM.PR) || decide (([(⟨#[98]⟩, (2 : Int))] : List TM.PR).length < TM.rm 5) then put Cmp.cmpS ⟨#[97]⟩ 1 ([(⟨#[98]⟩, (2 : Int))] : List TM.PR) else [(⟨#[98]⟩, (2 : Int))]) = [(⟨#[97]⟩, (1 : Int)), (⟨#[98]⟩, (2 : Int))] := by
  simp [hit2, put, ins, lo, cmp_ba, rm5]

set_option maxHeartbeats 400000 in
theorem awake (w : World) : Calls Try.prog 9 #[] w fun e w' => e = .returned (.bool true) ∧ Below w.heap.size w w' := by
  have hN := Lib.hid (TM.new 5 w w.heap.size (Nat.le_refl _))
  go_enter Try.func9, Try.ntmps9
  go_wp2_with fail
  refine hN.out.mono ?_
  rintro e w1 ⟨rfl, ht1, hb1⟩
  have P1 := Lib.hid (TM.put_any ht1 ⟨#[98]⟩ 2)
  have HB1 := Lib.hid hb1
  clear hb1 ht1
  go_wp2_with fail
  refine P1.out.mono ?_
  rintro e w2 ⟨rfl, ht2, hf2⟩
  rw [put1] at ht2
  have P2 := Lib.hid (TM.put_any ht2 ⟨#[97]⟩ 1)
  have HF2 := Lib.hid hf2
  clear hf2 ht2
  go_wp2_with fail
  refine P2.out.mono ?_
  rintro e w3 ⟨rfl, ht3, hf3⟩
  rw [put2] at ht3
  have hbl := ht3.base_le
  have A := Lib.hid (TM.at_yes ht3 0 _ rfl)
  have HF3 := Lib.hid hf3
  have HT3 := Lib.hid ht3
  clear hf3 ht3
  go_wp2_with fail
  refine A.out.mono ?_
  rintro e w4 ⟨rfl, hb4⟩
  have ht4 := HT3.out.below hb4
  have L := Lib.hid (TM.len_ ht4)
  have HB4 := Lib.hid hb4
  clear hb4 ht4
  have hkk : ((⟨#[97]⟩ : ByteArray).toList == (⟨#[97]⟩ : ByteArray).toList) = true := by simp
  go_wp2_with fail
  refine L.out.mono ?_
  rintro e w5 ⟨rfl, rfl⟩
  go_wp2
  go_ret
  refine ⟨rfl, ?_⟩
  have hfr := ((HF2.out.trans HF3.out).trans (TM.Fr.of_below HB4.out)).below HB1.out.size
  exact HB1.out.trans hfr
end Go.Proofs.Ytnijiimljpbgpaa.AW
