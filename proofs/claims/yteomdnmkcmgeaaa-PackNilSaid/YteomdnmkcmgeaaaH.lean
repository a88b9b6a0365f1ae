/-
  The bytes that every program must know: awake answers true.
-/
import Derived.Test.YteomdnmkcmgeaaaG
namespace Go.Proofs.Yteomdnmkcmgeaaa.H
open Go.RowKit Go.Proofs.Yteomdnmkcmgeaaa.Kit Go.Proofs.Yteomdnmkcmgeaaa.A Go.Proofs.Yteomdnmkcmgeaaa.B Go.Proofs.Yteomdnmkcmgeaaa.C Go.Proofs.Yteomdnmkcmgeaaa.D Go.Proofs.Yteomdnmkcmgeaaa.E Go.Proofs.Yteomdnmkcmgeaaa.F Go.Proofs.Yteomdnmkcmgeaaa.G

theorem uv300 : Lib.uvarint 300 = [172, 2] := by rw [Lib.uvarint_big (by decide), Lib.uvarint_small (by decide)]; rfl
theorem uv1 : Lib.uvarint 1 = [1] := by rw [Lib.uvarint_small (by decide)]; rfl
theorem txx : tx ⟨#[120]⟩ = [1, 120] := by
  unfold tx
  rw [show (⟨#[120]⟩ : ByteArray).size = 1 from rfl, uv1]; rfl
def four : List UInt8 := [172, 2, 1, 120]
theorem ps4 : ps four = (300, 2, 0) := by
  have := ps_uv (y := 300) (by decide) [1, 120]
  rw [uv300] at this
  exact this
theorem ps2 : ps [1, 120] = (1, 1, 0) := by
  have := ps_uv (y := 1) (by decide) [120]
  rw [uv1] at this
  exact this
theorem tz2 : tz [1, 120] 5 = ([120], [], 0) := by
  unfold tz
  rw [ps2]
  rfl
theorem below_of_grown {base T : Nat} {w0 w w' : World} (h : Below base w0 w) (hg : w.grownBy w' (some T)) (hb : base ≤ w.heap.size) (hT : base ≤ T) : Below base w0 w' :=
  h.grown hg hb (fun k e => by injection e with e; omega)


set_option maxHeartbeats 4000000 in
set_option maxRecDepth 100000 in
theorem awake (w : World) : Calls Try.prog 8 #[] w fun e w' => e = .returned (.bool true) ∧ Below w.heap.size w w' := by
  have N := number_any (cp := 0) (BytesAt.nil w 0 none) (Nat.zero_le _) 300 (by decide)
  rw [show cl 300 = 300 from rfl, uv300] at N
  have HN := Lib.hid N
  clear N
  go_enter Try.func8, Try.ntmps8
  go_wp2_with fail
  refine HN.out.mono ?_
  rintro e w1 ⟨v1, rfl, O1⟩
  replace O1 : OB w.heap.size w w1 2 v1 [172, 2] := O1
  obtain ⟨A1, cp1, rfl, hcp1⟩ := own_slice O1.own
  have T := text_any (cp := cp1) O1.at_ (Nat.le_refl _) ⟨#[120]⟩ (by decide) (by decide)
  rw [txx] at T
  have HT := Lib.hid T
  have B1 := Lib.hid O1.bel
  clear T O1
  go_wp2_with fail
  refine HT.out.mono ?_
  rintro e w2 ⟨v2, rfl, O2⟩
  replace O2 : OB w1.heap.size w1 w2 4 v2 four := O2
  obtain ⟨A2, cp2, rfl, hcp2⟩ := own_slice O2.own
  have R := new_any (cp := cp2) O2.at_ (Nat.le_refl _) (by decide)
  have HR := Lib.hid R
  have B2 := Lib.hid (B1.out.trans (O2.bel.mono B1.out.size))
  have O2 := Lib.hid O2.at_
  clear R B1
  go_wp2_with fail
  refine HR.out.mono ?_
  rintro e w3 ⟨T, rfl, hT, R3, b3⟩
  have O3 := Lib.hid (O2.out.below b3 (Nat.le_refl _))
  have B3 := Lib.hid (B2.out.trans (b3.mono B2.out.size))
  have hTw : w.heap.size ≤ T := Nat.le_trans B2.out.size hT
  have N := num_any R3
  rw [ps4] at N
  have HN := Lib.hid N
  clear R3 N b3
  go_wp2_with fail
  refine HN.out.mono ?_
  rintro e w4 ⟨rfl, R4, g4⟩
  replace R4 : RD w4 T [1, 120] 0 := R4
  have B4 := Lib.hid (below_of_grown B3.out g4 B3.out.size hTw)
  have O4 := Lib.hid (O3.out.grown g4 hT)
  have T4 := text_any R4 5
  rw [tz2] at T4
  have HT4 := Lib.hid T4
  clear R4 g4 T4
  go_wp2_with fail
  refine HT4.out.mono ?_
  rintro e w5 ⟨rfl, R5, g5⟩
  replace R5 : RD w5 T [] 0 := R5
  have B5 := Lib.hid (below_of_grown B4.out g5 B4.out.size hTw)
  have O5 := O4.out.grown g5 hT
  have hcv := O5.conv cp2
  have HL := Lib.hid (left_any R5)
  have HE := Lib.hid (err_any R5)
  have hk : (four : List UInt8).toArray = #[172, 2, 1, 120] := rfl
  clear O5 R5 g5
  go_wp2_with fail
  refine HL.out.mono ?_
  rintro e w' ⟨rfl, rfl⟩
  go_wp2_with fail
  refine HE.out.mono ?_
  rintro e w' ⟨rfl, rfl⟩
  go_wp2_with fail
  go_ret
  exact ⟨rfl, B5.out⟩
end Go.Proofs.Yteomdnmkcmgeaaa.H
