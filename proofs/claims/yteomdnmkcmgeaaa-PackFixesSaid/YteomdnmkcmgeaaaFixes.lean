/-
  Four bytes are the number modulo 2^32, whatever stands behind (PackFixes), for every int and every slice of bytes.
-/
import Derived.Test.YteomdnmkcmgeaaaH
import Derived.Test.YteomdnmkcmgeaaaLaw
namespace Go.Proofs.Yteomdnmkcmgeaaa.packFixes
open Go.ChangeShapes Go.WideShapes Go.ChangeAt Go.RowKit Go.Proofs.Yteomdnmkcmgeaaa.Kit Go.Proofs.Yteomdnmkcmgeaaa.A Go.Proofs.Yteomdnmkcmgeaaa.C Go.Proofs.Yteomdnmkcmgeaaa.F Go.Proofs.Yteomdnmkcmgeaaa.G Go.Proofs.Yteomdnmkcmgeaaa.H

theorem i64_and32 (n : Int) : bits .and .i64 n 4294967295 = n % 4294967296 := by
  have h32 : (BitVec.ofInt 64 4294967295).toNat = 2 ^ 32 - 1 := by decide
  have key : (BitVec.ofInt 64 n &&& BitVec.ofInt 64 4294967295).toNat = (n % ((2 ^ 64 : Nat) : Int)).toNat % 2 ^ 32 := by
    rw [BitVec.toNat_and, BitVec.toNat_ofInt, h32, Nat.and_two_pow_sub_one_eq_mod]
  show IntKind.i64.wrap ((BitVec.ofInt 64 n &&& BitVec.ofInt 64 4294967295).toNat : Nat) = n % 4294967296
  rw [key, IntKind.wrap_i64]
  omega

set_option maxHeartbeats 4000000 in
set_option maxRecDepth 100000 in
theorem walk (x : Int) (A : Option Addr) (n cp : Nat) (l : List UInt8) (w : World) (hz : BytesAt w w.heap.size A n l) (hn : n ≤ maxLen) :
    Calls Try.prog 7 #[.int .i64 x, .slice A n cp] w fun e w' => e = .returned (.bool true) ∧ Below w.heap.size w w' := by
  have HZ := Lib.hid hz
  have HL := Lib.hid hz.1
  clear hz
  unfold maxLen at hn
  by_cases hbig : 100 < n
  · go_enter Try.func7, Try.ntmps7
    go_wp2_with (go_at_call 8; refine (H.awake _).mono ?_; rintro e w' ⟨rfl, hb⟩)
    go_ret
    exact ⟨rfl, hb⟩
  · have hn6 : n ≤ 100 := by omega
    have Fx := C.fixed_any (cp := 0) (BytesAt.nil w 0 none) (Nat.zero_le _) x (by decide)
    rw [List.nil_append] at Fx
    have HF := Lib.hid Fx
    clear hn Fx
    go_enter Try.func7, Try.ntmps7
    go_wp2_with fail
    refine HF.out.mono ?_
    rintro e w1 ⟨v1, rfl, O1⟩
    replace O1 : OB w.heap.size w w1 4 v1 (fx (mx x)) := O1
    have H1 := Lib.hid (HZ.out.below O1.bel (Nat.le_refl _))
    have O1 := Lib.hid O1
    clear HF HZ
    go_wp2_with (at_builtin; refine wpList_by rfl _ _ rfl rfl rfl O1.out.own H1.out (by omega) O1.out.bel.size ?_; intro v3 w3 hown3 hg3 hat3)
    have O3 := O1.out.app (l' := fx (mx x) ++ l) (by rw [by_append]; exact hown3) hg3
    obtain ⟨A3, cp3, rfl, hcp3⟩ := own_slice O3.own
    have HN := Lib.hid (new_any (cp := cp3) O3.at_ (Nat.le_refl _) (by omega))
    have B3 := Lib.hid O3.bel
    clear O3 O1 H1 hown3 hg3 hat3
    go_wp2_with fail
    refine HN.out.mono ?_
    rintro e w4 ⟨T, rfl, hT, R4, b4⟩
    have B4 := Lib.hid (B3.out.trans (b4.mono B3.out.size))
    have hTw : w.heap.size ≤ T := Nat.le_trans B3.out.size hT
    have FR := G.fixed_any R4 (by rw [List.length_append]; exact Nat.le_add_right 4 _)
    unfold NumK at FR
    rw [show (fx (mx x) ++ l).take 4 = fx (mx x) from List.take_left' rfl, show (fx (mx x) ++ l).drop 4 = l from List.drop_left' rfl, be_fx] at FR
    obtain ⟨f, hf⟩ : ∃ f, f = mx x % 4294967296 := ⟨_, rfl⟩
    rw [← hf] at FR
    have HFR := Lib.hid FR
    have hand := i64_and32 x
    have hx : (0 < x ∧ x % 4294967296 = (f : Int)) ∨ (¬ 0 < x ∧ f = 0) := by
      rw [hf]; unfold mx; omega
    clear FR R4 b4 hT HN B3 hf
    rcases hx with ⟨hx, hxf⟩ | ⟨hx, rfl⟩
    · rw [hxf] at hand
      clear hxf
      go_wp2_with fail
      refine HFR.out.mono ?_
      rintro e w5 ⟨rfl, R5, g5⟩
      have B5 := Lib.hid (below_of_grown B4.out g5 B4.out.size hTw)
      have HL5 := left_any R5
      rw [HL.out] at HL5
      have HL5 := Lib.hid HL5
      have HE5 := Lib.hid (err_any R5)
      clear R5 g5
      go_wp2_with fail
      refine HL5.out.mono ?_
      rintro e w' ⟨rfl, rfl⟩
      go_wp2_with fail
      refine HE5.out.mono ?_
      rintro e w' ⟨rfl, rfl⟩
      go_wp2_with (go_at_call 8; refine (H.awake _).mono ?_; rintro e w' ⟨rfl, hb⟩)
      go_ret
      exact ⟨rfl, B5.out.trans (hb.mono B5.out.size)⟩
    · clear hand
      go_wp2_with fail
      refine HFR.out.mono ?_
      rintro e w5 ⟨rfl, R5, g5⟩
      have B5 := Lib.hid (below_of_grown B4.out g5 B4.out.size hTw)
      have HL5 := left_any R5
      rw [HL.out] at HL5
      have HL5 := Lib.hid HL5
      have HE5 := Lib.hid (err_any R5)
      clear R5 g5
      go_wp2_with fail
      refine HL5.out.mono ?_
      rintro e w' ⟨rfl, rfl⟩
      go_wp2_with fail
      refine HE5.out.mono ?_
      rintro e w' ⟨rfl, rfl⟩
      go_wp2_with (go_at_call 8; refine (H.awake _).mono ?_; rintro e w' ⟨rfl, hb⟩)
      go_ret
      exact ⟨rfl, B5.out.trans (hb.mono B5.out.size)⟩

set_option maxRecDepth 100000 in
theorem lifted (os : Os) (started : os.Started) (H : Type) (enc : TypeId × Value → H) :
    ReturnsInHanded {} Try.checked os 7 .any (Rows.packFixesSpec.pre6 enc Try.prog Try.f7 Rows.packFixesRow.domain false) (Rows.packFixesSpec.post enc Try.prog Try.f7 false true false false) := by
  refine returnsInHanded_of_change (C := Try.checked) Law.own started (by kernel_rfl) Try.func7
    (ChangeSpec.witness6 (enc := enc) (C := Try.checked) false ⟨#[], #[.int .i64 0, .slice none 0 0], []⟩ 8 (by kernel_rfl) (by kernel_rfl) (by kernel_rfl) (by kernel_rfl)) ?_
  intro W base args ds gs before hval hW hcnd _
  have hW' := hW
  obtain ⟨p, q, hA, hV, rfl, hfz, hnd⟩ := hW
  rw [Try.params7] at hA hval
  obtain ⟨v0, v1, d0, d1, p0, p1, rfl, rfl, rfl, h0, h1⟩ := trodAll_two hA
  obtain ⟨rfl, rfl⟩ := trodVars_none hV
  obtain ⟨a0, rfl, rfl, rfl, w0⟩ := open_int Try.underlying3 (hval 0 3 v0 rfl rfl) h0
  obtain ⟨ad, len, cap, rfl⟩ := okWide_slice Try.underlying22 (hval 1 22 v1 rfl rfl)
  obtain ⟨zs, hzs, hlen, hlc⟩ := Law.open_bytes_at h1
  refine (walk a0 ad len cap zs W hzs hlen).mono fun e W' ⟨he, hb⟩ => ?_
  subst he
  exact ⟨_, rfl, Law.law_post (by kernel_rfl) (by kernel_rfl) rfl hW' rfl rfl rfl hb⟩

theorem packFixes_holds : Rows.PackFixesSaid :=
  OpenClaim.holds_of_wide 7 Try.f7 rfl rfl rfl rfl rfl rfl rfl ⟨rfl, rfl, rfl, rfl, rfl⟩ rfl rfl rfl rfl rfl (by kernel_rfl) Try.func7 (by kernel_rfl)
    (of_decide_eq_true (by kernel_rfl)) (by unfold Func.isWrapper; first | (rw [if_pos (by decide +kernel)]; kernel_rfl) | (rw [if_neg (by decide +kernel)]; exact ⟨rfl, rfl⟩))
    (fun os started H enc _ => lifted os started H enc)
#print axioms packFixes_holds
end Go.Proofs.Yteomdnmkcmgeaaa.packFixes
