/-
  From form to form and back: the walk.
-/
import Derived.Test.YtfhdoecackdflaaGreatDoorImAw
import Derived.Test.YtfhdoecackdflaaGreatDoorBxH
import Derived.Deep.RegionHeld3
import Derived.Deep.DeepCutAuto
import Derived.Test.YtfhdoecackdflaaGreatDoorImT
import Derived.Test.YtfhdoecackdflaaGreatDoorImS
set_option linter.unusedVariables false
set_option linter.unusedSimpArgs false
namespace Go.Proofs.YtfhdoecackdflaaGreatDoor.ImOther
open Go.RowKit Go.Proofs.YtfhdoecackdflaaGreatDoor.BxD Go.Proofs.YtfhdoecackdflaaGreatDoor.BxKit Go.Proofs.YtfhdoecackdflaaGreatDoor.BxR Go.Proofs.YtfhdoecackdflaaGreatDoor.BxC Go.Proofs.YtfhdoecackdflaaGreatDoor.BxB Go.Proofs.YtfhdoecackdflaaGreatDoor.BxH Go.Proofs.YtfhdoecackdflaaGreatDoor.BxS Go.Proofs.YtfhdoecackdflaaGreatDoor.BxX Go.Proofs.YtfhdoecackdflaaGreatDoor.OlD Go.Proofs.YtfhdoecackdflaaGreatDoor.PtK Go.Proofs.YtfhdoecackdflaaGreatDoor.RwD Go.Proofs.YtfhdoecackdflaaGreatDoor.RwKit Go.Proofs.YtfhdoecackdflaaGreatDoor.RwRo Go.Proofs.YtfhdoecackdflaaGreatDoor.ImD Go.Proofs.YtfhdoecackdflaaGreatDoor.ImK Go.Proofs.YtfhdoecackdflaaGreatDoor.ImA Go.Proofs.YtfhdoecackdflaaGreatDoor.ImB Go.Proofs.YtfhdoecackdflaaGreatDoor.ImP Go.Proofs.YtfhdoecackdflaaGreatDoor.ImN Go.Proofs.YtfhdoecackdflaaGreatDoor.ImL Go.Proofs.YtfhdoecackdflaaGreatDoor.ImT Go.Proofs.YtfhdoecackdflaaGreatDoor.ImS
open Go.Proofs.YtfhdoecackdflaaGreatDoor.PkKit (BytesAt)

theorem form_k (x : Int) : ∃ k : Nat, (k = 1 ∨ k = 2 ∨ k = 3) ∧ wrap64 (1 + wrap64 ((IntKind.u64.wrap x).tmod 3)) = (k : Int) := by
  have h0 := wrap_u64_nonneg x
  generalize IntKind.u64.wrap x = y at h0
  have h1 : 0 ≤ y % 3 := Int.emod_nonneg _ (by decide)
  have h2 : y % 3 < 3 := Int.emod_lt_of_pos _ (by decide)
  rw [Int.tmod_eq_emod_of_nonneg h0]
  refine ⟨(1 + y % 3).toNat, by omega, ?_⟩
  unfold wrap64
  omega
set_option maxHeartbeats 8000000 in
set_option maxRecDepth 100000 in
theorem walk {b : Box} {WA MA : Option Addr} {wn wcp mn mcp : Nat} {x z : Int} {w : World} (ht : BxO.Tab w) (h1 : StrsAt w w.heap.size WA wn b.words) (h2 : MsgsAt w w.heap.size MA mn b.msgs) (hwc : wn ≤ wcp) (hmc : mn ≤ mcp) (z1 : b.id.size ≤ 140737488355328) :
    Calls Tryz.prog 4 #[.int .i64 x, .int .i64 z, .agg #[.string b.id, .int .i64 b.valid, .int .i64 b.next, .int .i64 b.high, .slice WA wn wcp, .slice MA mn mcp]] w fun e w' => e = .returned (.bool true) ∧ Below w.heap.size w w' := by
  have KH := fun o => heavy_any (bid := b.id) (bv := b.valid) (bn := b.next) (bh := b.high) (wc := wcp) (mc := mcp) (StrsAt.below h1 ((Below.refl _ w).alloc (Nat.le_refl _) o) (Nat.le_refl _)) (MsgsAt.below h2 ((Below.refl _ w).alloc (Nat.le_refl _) o) (Nat.le_refl _)) (by simp) (by simp) z1
  have KM := fun (wr : World) (h : After w (.cells #[.string b.id, .int .i64 b.valid, .int .i64 b.next, .int .i64 b.high, .slice WA wn wcp, .slice MA mn mcp] 25) wr) => ref_may (bid := b.id) (bv := b.valid) (bn := b.next) (bh := b.high) (wc := wcp) (mc := mcp) (StrsAt.below h1 h.below (Nat.le_refl _)) (MsgsAt.below h2 h.below (Nat.le_refl _)) h.below.size hwc
  have HAW := Lib.hid (fun (wr : World) (hb : Below w.heap.size w wr) => ImAw.awake (ht.below hb (Nat.le_refl _)))
  have HS := Lib.hid (After.start w (.cells #[.string b.id, .int .i64 b.valid, .int .i64 b.next, .int .i64 b.high, .slice WA wn wcp, .slice MA mn mcp] 25))
  have HX := Lib.hid h1
  have HM := Lib.hid h2
  have HT := Lib.hid ht
  have HWC := Lib.hid hwc
  have HMC := Lib.hid hmc
  clear h1 h2 ht hwc hmc
  rcases hv_or b.id b.words b.msgs with hh | ⟨hh, _, _, _⟩
  · simp only [hh] at KH
    have K1 := Lib.hid KH
    clear KH hh KM
    go_enter Tryz.func4, Tryz.ntmps4
    go_wp2_with fail
    refine (K1.out _).mono ?_
    rintro e w1 ⟨rfl, hb1⟩
    have HB := Lib.hid (HS.out.go hb1).below
    clear hb1
    go_wp2_with (go_at_call 9; refine (HAW.out _ HB.out).mono ?_; rintro e w9 ⟨rfl, hb9⟩)
    go_ret
    exact ⟨rfl, (HB.out).trans (hb9.mono (HB.out).size)⟩
  simp only [hh] at KH
  have K1 := Lib.hid KH
  clear KH hh
  obtain ⟨em, hem⟩ : ∃ em, em = mbE b := ⟨_, rfl⟩
  simp only [show mbE ⟨b.id, b.valid, b.next, b.high, b.words, b.msgs⟩ = mbE b from rfl, ← hem] at KM
  have K2 := Lib.hid KM
  clear KM
  by_cases he : em = 0
  case neg =>
    have hne : (em != 0) = true := by simpa using he
    clear he hem
    go_enter Tryz.func4, Tryz.ntmps4
    go_wp2_with fail
    refine (K1.out _).mono ?_
    rintro e w1 ⟨rfl, hb1⟩
    have HB := Lib.hid (HS.out.go hb1)
    obtain ⟨b0, b1, b2, b3, b4, b5⟩ := HB.out.box
    clear hb1
    go_wp2_with fail
    refine (K2.out _ HB.out).mono ?_
    rintro e w2 ⟨rfl, hb2⟩
    have HB2 := Lib.hid (HB.out.go hb2).below
    clear hb2
    go_wp2_with (go_at_call 9; refine (HAW.out _ HB2.out).mono ?_; rintro e w9 ⟨rfl, hb9⟩)
    go_ret
    exact ⟨rfl, (HB2.out).trans (hb9.mono (HB2.out).size)⟩
  subst he
  have HE := Lib.hid hem.symm
  clear hem
  go_enter Tryz.func4, Tryz.ntmps4
  go_wp2_with fail
  refine (K1.out _).mono ?_
  rintro e w1 ⟨rfl, hb1⟩
  have HB := Lib.hid (HS.out.go hb1)
  obtain ⟨b0, b1, b2, b3, b4, b5⟩ := HB.out.box
  clear hb1 K1 HS
  go_upto_region 3 with (go_at_call 8; go_loud (
     refine (K2.out _ HB.out).mono ?_
     rintro e w2 ⟨rfl, hb2⟩
     have HB2 := Lib.hid (HB.out.go hb2)
     clear hb2 b0 b1 b2 b3 b4 b5))
  obtain ⟨b0, b1, b2, b3, b4, b5⟩ := HB2.out.box
  clear K2 HB
  have HI2 := Lib.hid (show Sb w w2 w.heap.size b WA wn wcp MA mn mcp from Sb.first rfl HB2.out HX.out HM.out HWC.out HMC.out)
  go_upto_region 4 with fail
  obtain ⟨k, hk3, hk⟩ := form_k x
  obtain ⟨j, hj3, hj⟩ := form_k z
  rw [hk, hj]
  have HK3 := Lib.hid hk3
  have HJ3 := Lib.hid hj3
  clear hk hk3 hj hj3 HX HM
  have KM := Lib.hid (make_sb HK3.out (HT.out.below HI2.out.bel (Nat.le_refl _)) HI2.out HE.out)
  go_upto_region 7 with (go_at_call 10; go_loud (
     refine KM.out.mono ?_
     rintro e w3 ⟨A, n, c, A2, n2, c2, rfl, hm3, hb3⟩
     have HI3 := Lib.hid (HI2.out.go hb3)
     have HX3 := Lib.hid hm3
     clear hm3 hb3 b0 b1 b2 b3 b4 b5))
  clear KM HB2 HI2
  have KW := Lib.hid (whole_mk HK3.out (HT.out.below HI3.out.bel (Nat.le_refl _)) HE.out HX3.out)
  obtain ⟨b0, b1, b2, b3, b4, b5, _⟩ := six_at HI3.out.blk
  go_upto_region 8 with (go_at_call 11; go_loud (
     refine KW.out.mono ?_
     rintro e w4 ⟨CA, cn, cc, NA, nn, nc, rfl, hcc, hnc, hl4, hb4⟩
     have hb40 := HI3.out.bel.trans (hb4.mono HI3.out.bel.size)
     have HC4 := Lib.hid (Sb.new (w := w) (c := b) hb40 hb4.size hcc hnc hl4)
     have hbx := hb4.alloc hb4.size (.cells #[.string b.id, .int .i64 b.valid, .int .i64 b.next, .int .i64 b.high, .slice CA cn cc, .slice NA nn nc] 25)
     have HI4 := Lib.hid (HI3.out.go hbx)
     have HX4 := Lib.hid (HX3.out.go hbx)
     clear hcc hnc hl4 hb4 hb40 hbx b0 b1 b2 b3 b4 b5))
  clear KW HI3 HX3
  obtain ⟨Q, hQ⟩ : ∃ Q, Q = w4.heap.size := ⟨_, rfl⟩
  rw [← hQ] at HC4 ⊢
  clear hQ
  generalize (World.alloc w4 _) = w5 at HC4 HI4 HX4 ⊢
  have KM := Lib.hid (make_sb HJ3.out (HT.out.below HC4.out.bel (Nat.le_refl _)) HC4.out HE.out)
  obtain ⟨q0, q1, q2, q3, q4, q5, _⟩ := six_at HC4.out.blk
  go_upto_region 11 with (go_at_call 10; go_loud (
     refine KM.out.mono ?_
     rintro e w6 ⟨Y, yn, yc, Y2, yn2, yc2, rfl, hm6, hb6⟩
     have HI6 := Lib.hid (HI4.out.go hb6)
     have HX6 := Lib.hid (HX4.out.go hb6)
     have HY6 := Lib.hid hm6
     clear hm6 hb6 q0 q1 q2 q3 q4 q5))
  clear KM HI4 HX4 HC4
  have KW := Lib.hid (whole_mk HJ3.out (HT.out.below HI6.out.bel (Nat.le_refl _)) HE.out HY6.out)
  obtain ⟨b0, b1, b2, b3, b4, b5, _⟩ := six_at HI6.out.blk
  go_upto_region 12 with (go_at_call 11; go_loud (
     refine KW.out.mono ?_
     rintro e w7 ⟨DA, dn, dc, OA, on, oc, rfl, hdc, hoc, hl7, hb7⟩
     have hb70 := HI6.out.bel.trans (hb7.mono HI6.out.bel.size)
     have HD7 := Lib.hid (Sb.new (w := w) (c := b) hb70 hb7.size hdc hoc hl7)
     have hbx := hb7.alloc hb7.size (.cells #[.string b.id, .int .i64 b.valid, .int .i64 b.next, .int .i64 b.high, .slice DA dn dc, .slice OA on oc] 25)
     have HI7 := Lib.hid (HI6.out.go hbx)
     have HX7 := Lib.hid (HX6.out.go hbx)
     clear hdc hoc hl7 hb7 hb70 hbx b0 b1 b2 b3 b4 b5))
  clear KW HI6 HX6 HY6
  obtain ⟨R, hR⟩ : ∃ R, R = w7.heap.size := ⟨_, rfl⟩
  rw [← hR] at HD7 ⊢
  clear hR
  generalize (World.alloc w7 _) = w8 at HD7 HI7 HX7 ⊢
  have KM := Lib.hid (make_sb HK3.out (HT.out.below HD7.out.bel (Nat.le_refl _)) HD7.out HE.out)
  obtain ⟨q0, q1, q2, q3, q4, q5, _⟩ := six_at HD7.out.blk
  go_upto_region 13 with (go_at_call 10; go_loud (
     refine KM.out.mono ?_
     rintro e w9 ⟨V, vn, vc, V2, vn2, vc2, rfl, hm9, hb9⟩
     have HI9 := Lib.hid (HI7.out.go hb9)
     have HX9 := Lib.hid (HX7.out.go hb9)
     have HD9 := Lib.hid (HD7.out.go hb9)
     have HV9 := Lib.hid hm9
     clear hm9 hb9 q0 q1 q2 q3 q4 q5))
  clear KM HI7 HX7 HD7
  have cv1 := HX9.out.by_.conv c
  have cv2 := HV9.out.by_.conv vc
  obtain ⟨T, hT⟩ : ∃ T : ByteArray, T = ⟨(rawI k b).toArray⟩ := ⟨_, rfl⟩
  rw [← hT] at cv1 cv2
  clear hT
  have cv3 : (T.toList == T.toList) = true := by simp
  have KR := Lib.hid (sameRows_eq (c := vc2) (c' := c2) HV9.out.rw_ HX9.out.rw_ (Nat.le_refl _) (Nat.le_refl _))
  go_wp2_with (first
    | (go_at_call 14; go_loud (
       refine KR.out.mono ?_
       rintro e wa ⟨rfl, hba⟩
       have HIa := Lib.hid (HI9.out.go hba)
       have HDa := Lib.hid (HD9.out.go hba)
       clear hba cv1 cv2
       obtain ⟨b0, b1, b2, b3, b4, b5, _⟩ := six_at HIa.out.blk
       obtain ⟨q0, q1, q2, q3, q4, q5, _⟩ := six_at HDa.out.blk
       have KS := Lib.hid (refSame_any (bid := b.id) (bv := b.valid) (bn := b.next) (bh := b.high) (wc := dc) (mc := oc) (bid' := b.id) (bv' := b.valid) (bn' := b.next) (bh' := b.high) (wc' := wcp) (mc' := mcp) HDa.out.ws HDa.out.ms HIa.out.ws HIa.out.ms (Nat.le_refl _) (Nat.le_refl _) (Nat.le_refl _) (Nat.le_refl _))))
    | (go_at_call 12; go_loud (
       refine KS.out.mono ?_
       rintro e wb ⟨rfl, hbb⟩
       rw [eqX_eq rfl]
       have HBb := Lib.hid (HIa.out.go hbb).bel
       clear hbb b0 b1 b2 b3 b4 b5 q0 q1 q2 q3 q4 q5))
    | (go_at_call 9; go_loud (
       refine (HAW.out _ HBb.out).mono ?_
       rintro e wz ⟨rfl, hbz⟩
       have HBz := Lib.hid (HBb.out.trans (hbz.mono HBb.out.size))
       clear hbz)))
  go_ret
  exact ⟨rfl, HBz.out⟩
end Go.Proofs.YtfhdoecackdflaaGreatDoor.ImOther
