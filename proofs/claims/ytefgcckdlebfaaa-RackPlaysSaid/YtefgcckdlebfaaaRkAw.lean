/-
  The rack that every program must know; files alike; calls that can be gone through.
-/
import Derived.Test.YtefgcckdlebfaaaRkG
import Derived.Lib.SmallJoins
namespace Go.Proofs.Ytefgcckdlebfaaa.RkAw
open Go.RowKit Go.Proofs.Ytefgcckdlebfaaa.BxD Go.Proofs.Ytefgcckdlebfaaa.BxKit Go.Proofs.Ytefgcckdlebfaaa.RkO Go.Proofs.Ytefgcckdlebfaaa.RkC Go.Proofs.Ytefgcckdlebfaaa.RkD Go.Proofs.Ytefgcckdlebfaaa.RkR Go.Proofs.Ytefgcckdlebfaaa.RkK Go.Proofs.Ytefgcckdlebfaaa.RkP Go.Proofs.Ytefgcckdlebfaaa.RkQ Go.Proofs.Ytefgcckdlebfaaa.RkE Go.Proofs.Ytefgcckdlebfaaa.RkS Go.Proofs.Ytefgcckdlebfaaa.RkM Go.Proofs.Ytefgcckdlebfaaa.RkN Go.Proofs.Ytefgcckdlebfaaa.RkV Go.Proofs.Ytefgcckdlebfaaa.RkW Go.Proofs.Ytefgcckdlebfaaa.RkU Go.Proofs.Ytefgcckdlebfaaa.RkT Go.Proofs.Ytefgcckdlebfaaa.RkG

abbrev nA : ByteArray := ⟨#[97]⟩
abbrev nB : ByteArray := ⟨#[98]⟩
theorem cab : cmpS nA nB = -1 := by
  unfold cmpS
  rw [ByteArray.toList_eq, ByteArray.toList_eq]
  decide
def a1 : St := ⟨100, [], [(nA, [120])], [⟨nA, false, [120]⟩], 1, false, none⟩
def a2 : St := ⟨100, [(nA, [120])], [(nA, [120])], [], 1, false, none⟩
def a3 : St := ⟨100, [(nA, [120])], [(nA, [120]), (nB, [])], [⟨nB, false, []⟩], 2, false, none⟩
def a4 : St := ⟨100, [(nA, [120])], [(nA, [120])], [], 2, false, none⟩
theorem put1 : putF nA [120] [] = [(nA, [120])] := by simp [putF, put, hit, lo, ins]
theorem put2 : putF nB [] [(nA, [120])] = [(nA, [120]), (nB, [])] := by
  have h := cab
  simp [putF, put, hit, lo, ins, h]
theorem st1 : wrE (newS 100) nA [120] = 0 ∧ wrS (newS 100) nA [120] = a1 := by
  have hb : wrBad nA [120] = false := by decide
  have hf : wrFull (newS 100) nA [120] = false := by unfold wrFull; rw [show (newS 100).files = [] from rfl, put1]; decide
  unfold wrE wrS
  rw [hb, hf]
  refine ⟨rfl, ?_⟩
  rw [show (newS 100).files = [] from rfl, put1]; rfl
theorem st3 : wrE a2 nB [] = 0 ∧ wrS a2 nB [] = a3 := by
  have hb : wrBad nB [] = false := by decide
  have hf : wrFull a2 nB [] = false := by unfold wrFull; rw [show a2.files = [(nA, [120])] from rfl, put2]; decide
  unfold wrE wrS
  rw [hb, hf]
  refine ⟨rfl, ?_⟩
  rw [show a2.files = [(nA, [120])] from rfl, put2]; rfl
theorem one_by (w : World) (c : UInt8) (fr : Nat × Nat) {v : Value} (hv : v = .int .u8 (c.toNat : Int)) : PkKit.BytesAt (w.alloc (.cells #[v] 5 fr)) (w.heap.size + 1) (some ⟨w.heap.size, 0, none⟩) 1 [c] := by
  subst hv
  refine ⟨rfl, fun _ => ⟨_, rfl, Nat.lt_succ_self _, fun j d hj => ?_⟩⟩
  rw [RkR.add_new, World.cell?_alloc_mark]
  match j, hj with
  | 0, hj => obtain rfl := Option.some.inj hj; rfl
  | j + 1, hj => simp at hj
set_option maxHeartbeats 2000000 in
theorem awake (w : World) : Calls Try.prog 9 #[] w fun e w' => e = .returned (.bool true) ∧ Below w.heap.size w w' := by
  have KN := Lib.hid (newB w w (Below.refl _ _) 100)
  unfold ptr at KN
  go_enter Try.func9, Try.ntmps9
  go_upto_region 2 with (go_at_call 10; go_loud (refine KN.out.mono ?_; rintro e w1 ⟨rfl, h1⟩; have R1 := Lib.hid h1; clear h1))
  obtain ⟨T, hT⟩ : ∃ T, T = w.heap.size := ⟨_, rfl⟩
  rw [← hT] at R1 ⊢
  clear hT
  have hcv : (convert 29 29 (.slice (some ⟨w1.heap.size, 0, none⟩) 1 1)).run Try.prog (w1.alloc (.cells #[.int .u8 120] 5)) = .ok (.slice (some ⟨w1.heap.size, 0, none⟩) 1 1) (w1.alloc (.cells #[.int .u8 120] 5 (1, 2))) :=
    _root_.Go.Joins.run_convert_bytes_const_at (P := Try.prog) w1 29 5 #[.int .u8 120] 1 1 w1.heap.size rfl Try.underlying29 Try.underlying5
  have KW1 := Lib.hid (WriteB (dc := 1) (R1.out.alloc (.cells #[.int .u8 120] 5 (1, 2))) (by omega) nA (one_by w1 120 (1, 2) rfl) (by simp))
  rw [st1.1, st1.2] at KW1
  unfold ptr at KW1
  go_upto_region 3 with (go_at_call 12; go_loud (refine KW1.out.mono ?_; rintro e w2 ⟨rfl, h2⟩; have R2 := Lib.hid h2; clear h2))
  have KF := Lib.hid (FlushB R2.out)
  rw [show flE a1 = 0 from rfl, show flS a1 = a2 from rfl] at KF
  unfold ptr at KF
  go_upto_region 4 with (go_at_call 16; go_loud (refine KF.out.mono ?_; rintro e w3 ⟨rfl, h3⟩; have R3 := Lib.hid h3; clear h3))
  have KW2 := Lib.hid (WriteB (dc := 0) R3.out (by omega) nB (PkKit.BytesAt.nil w3 0 none) (Nat.zero_le _))
  rw [st3.1, st3.2] at KW2
  unfold ptr at KW2
  go_upto_region 5 with (go_at_call 12; go_loud (refine KW2.out.mono ?_; rintro e w4 ⟨rfl, h4⟩; have R4 := Lib.hid h4; clear h4))
  have KC := Lib.hid (CrashB (dc := 0) R4.out (by omega) (PkKit.BytesAt.nil w4 0 none) (Nat.zero_le _) (by omega))
  rw [show crS a3 [] = a4 from rfl] at KC
  unfold ptr at KC
  go_upto_region 6 with (go_at_call 18; go_loud (refine KC.out.mono ?_; rintro e w5 ⟨rfl, h5⟩; have R5 := Lib.hid h5; clear h5))
  have KM := Lib.hid (NamesB R5.out (by omega))
  rw [show a4.files.map (·.1) = [nA] from rfl] at KM
  unfold NmPost at KM
  rw [show [nA].length = 1 from rfl] at KM
  unfold ptr at KM
  go_upto_region 7 with (go_at_call 25; go_loud (refine KM.out.mono ?_; rintro e w6 ⟨A6, c6, rfl, h6, h7⟩; have N6 := Lib.hid h6; have B6 := Lib.hid h7; clear h6 h7))
  obtain ⟨ad, x, rfl, hx, hc⟩ := StrsAt.at_ N6.out (Below.refl _ _) (Nat.le_refl _) (j := 0) (by omega)
  obtain rfl : nA = x := Option.some.inj hx
  rw [show ad.add 0 = ad by unfold Addr.add; simp] at hc
  have R6 := Lib.hid (R5.out.below B6.out)
  have KS := Lib.hid (SizeB R6.out (by omega))
  rw [show ((costs a4.files : Nat) : Int) = 10 from rfl] at KS
  have KR := Lib.hid (fun (wx : World) (hb : Below w6.heap.size w6 wx) => WritesB (R6.out.below hb))
  rw [show ((a4.writes : Nat) : Int) = 2 from rfl] at KR
  unfold ptr at KS KR
  clear hx KN KW1 KF KW2 KC KM
  go_wp2_with (first
    | (go_at_call 26; go_loud (refine KS.out.mono ?_; rintro e w7 ⟨rfl, h7⟩; have B7 := Lib.hid h7; clear h7))
    | (go_at_call 30; go_loud (refine (KR.out _ B7.out).mono ?_; rintro e w8 ⟨rfl, rfl⟩)))
  go_ret
  exact ⟨rfl, (R6.out.below B7.out).bel⟩
end Go.Proofs.Ytefgcckdlebfaaa.RkAw
