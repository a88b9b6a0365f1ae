/-
  By way of the second form the first one loses what it loses at once: the walk.
-/
import Derived.Test.YtchlbbndfhibgaaGreatDoorLwAw
import Derived.Test.YtchlbbndfhibgaaGreatDoorBxH
import Derived.Deep.RegionHeld3
import Derived.Deep.DeepCutAuto
set_option linter.unusedVariables false
set_option linter.unusedSimpArgs false
namespace Go.Proofs.YtchlbbndfhibgaaGreatDoor.LwOlder
open Go.RowKit Go.Proofs.YtchlbbndfhibgaaGreatDoor.BxD Go.Proofs.YtchlbbndfhibgaaGreatDoor.BxKit Go.Proofs.YtchlbbndfhibgaaGreatDoor.BxR Go.Proofs.YtchlbbndfhibgaaGreatDoor.BxC Go.Proofs.YtchlbbndfhibgaaGreatDoor.BxB Go.Proofs.YtchlbbndfhibgaaGreatDoor.BxH Go.Proofs.YtchlbbndfhibgaaGreatDoor.BxS Go.Proofs.YtchlbbndfhibgaaGreatDoor.BxX Go.Proofs.YtchlbbndfhibgaaGreatDoor.OlD Go.Proofs.YtchlbbndfhibgaaGreatDoor.PtK Go.Proofs.YtchlbbndfhibgaaGreatDoor.RwD Go.Proofs.YtchlbbndfhibgaaGreatDoor.RwKit Go.Proofs.YtchlbbndfhibgaaGreatDoor.RwRo Go.Proofs.YtchlbbndfhibgaaGreatDoor.ImD Go.Proofs.YtchlbbndfhibgaaGreatDoor.ImK Go.Proofs.YtchlbbndfhibgaaGreatDoor.ImA Go.Proofs.YtchlbbndfhibgaaGreatDoor.ImB Go.Proofs.YtchlbbndfhibgaaGreatDoor.ImP Go.Proofs.YtchlbbndfhibgaaGreatDoor.ImN Go.Proofs.YtchlbbndfhibgaaGreatDoor.ImL Go.Proofs.YtchlbbndfhibgaaGreatDoor.ImT Go.Proofs.YtchlbbndfhibgaaGreatDoor.LwD Go.Proofs.YtchlbbndfhibgaaGreatDoor.LwT Go.Proofs.YtchlbbndfhibgaaGreatDoor.LwL Go.Proofs.YtchlbbndfhibgaaGreatDoor.LwS
open Go.Proofs.YtchlbbndfhibgaaGreatDoor.PkKit (BytesAt)

set_option maxHeartbeats 8000000 in
set_option maxRecDepth 100000 in
theorem walk {b : Box} {WA MA : Option Addr} {wn wcp mn mcp : Nat} {w : World} (ht : BxO.Tab w) (h1 : StrsAt w w.heap.size WA wn b.words) (h2 : MsgsAt w w.heap.size MA mn b.msgs) (hwc : wn ≤ wcp) (hmc : mn ≤ mcp) (z1 : b.id.size ≤ 140737488355328) :
    Calls Tryz.prog 7 #[.agg #[.string b.id, .int .i64 b.valid, .int .i64 b.next, .int .i64 b.high, .slice WA wn wcp, .slice MA mn mcp]] w fun e w' => e = .returned (.bool true) ∧ Below w.heap.size w w' := by
  have KH := fun o => heavy_any (bid := b.id) (bv := b.valid) (bn := b.next) (bh := b.high) (wc := wcp) (mc := mcp) (StrsAt.below h1 ((Below.refl _ w).alloc (Nat.le_refl _) o) (Nat.le_refl _)) (MsgsAt.below h2 ((Below.refl _ w).alloc (Nat.le_refl _) o) (Nat.le_refl _)) (by simp) (by simp) z1
  have KM := fun (wr : World) (h : After w (.cells #[.string b.id, .int .i64 b.valid, .int .i64 b.next, .int .i64 b.high, .slice WA wn wcp, .slice MA mn mcp] 25) wr) => ref_may (bid := b.id) (bv := b.valid) (bn := b.next) (bh := b.high) (wc := wcp) (mc := mcp) (StrsAt.below h1 h.below (Nat.le_refl _)) (MsgsAt.below h2 h.below (Nat.le_refl _)) h.below.size hwc
  have HAW := Lib.hid (fun (wr : World) (hb : Below w.heap.size w wr) => LwAw.awake (ht.below hb (Nat.le_refl _)))
  have HS := Lib.hid (After.start w (.cells #[.string b.id, .int .i64 b.valid, .int .i64 b.next, .int .i64 b.high, .slice WA wn wcp, .slice MA mn mcp] 25))
  have HX := Lib.hid h1
  have HM := Lib.hid h2
  have HT := Lib.hid ht
  have HWC := Lib.hid hwc
  have HMC := Lib.hid hmc
  clear h1 h2 ht hwc hmc
  rcases hv_or b.id b.words b.msgs with hh | ⟨hh, _, _, _⟩
  · simp only [hh] at KH
    have K1 := Lib.hid KH
    clear KH hh KM
    go_enter Tryz.func7, Tryz.ntmps7
    go_wp2_with fail
    refine (K1.out _).mono ?_
    rintro e w1 ⟨rfl, hb1⟩
    have HB := Lib.hid (HS.out.go hb1).below
    clear hb1
    go_wp2_with (go_at_call 22; refine (HAW.out _ HB.out).mono ?_; rintro e w9 ⟨rfl, hb9⟩)
    go_ret
    exact ⟨rfl, (HB.out).trans (hb9.mono (HB.out).size)⟩
  simp only [hh] at KH
  have K1 := Lib.hid KH
  clear KH hh
  obtain ⟨em, hem⟩ : ∃ em, em = mbE b := ⟨_, rfl⟩
  simp only [show mbE ⟨b.id, b.valid, b.next, b.high, b.words, b.msgs⟩ = mbE b from rfl, ← hem] at KM
  have K2 := Lib.hid KM
  clear KM
  by_cases he : em = 0
  case neg =>
    have hne : (em != 0) = true := by simpa using he
    clear he hem
    go_enter Tryz.func7, Tryz.ntmps7
    go_wp2_with fail
    refine (K1.out _).mono ?_
    rintro e w1 ⟨rfl, hb1⟩
    have HB := Lib.hid (HS.out.go hb1)
    obtain ⟨b0, b1, b2, b3, b4, b5⟩ := HB.out.box
    clear hb1
    go_wp2_with fail
    refine (K2.out _ HB.out).mono ?_
    rintro e w2 ⟨rfl, hb2⟩
    have HB2 := Lib.hid (HB.out.go hb2).below
    clear hb2
    go_wp2_with (go_at_call 22; refine (HAW.out _ HB2.out).mono ?_; rintro e w9 ⟨rfl, hb9⟩)
    go_ret
    exact ⟨rfl, (HB2.out).trans (hb9.mono (HB2.out).size)⟩
  subst he
  have HE := Lib.hid hem.symm
  clear hem
  go_enter Tryz.func7, Tryz.ntmps7
  go_wp2_with fail
  refine (K1.out _).mono ?_
  rintro e w1 ⟨rfl, hb1⟩
  have HB := Lib.hid (HS.out.go hb1)
  obtain ⟨b0, b1, b2, b3, b4, b5⟩ := HB.out.box
  clear hb1 K1 HS
  go_upto_region 3 with (go_at_call 11; go_loud (
     refine (K2.out _ HB.out).mono ?_
     rintro e w2 ⟨rfl, hb2⟩
     have HB2 := Lib.hid (HB.out.go hb2)
     clear hb2 b0 b1 b2 b3 b4 b5))
  obtain ⟨b0, b1, b2, b3, b4, b5⟩ := HB2.out.box
  clear K2 HB
  clear b0 b1 b2 b3 b4 b5
  have SB := Lib.hid (show Sb w w2 w.heap.size b WA wn wcp MA mn mcp from Sb.first rfl HB2.out HX.out HM.out HWC.out HMC.out)
  clear HB2
  obtain ⟨p1, hnm⟩ : ∃ p1, p1 = pj (fmI 1) b := ⟨_, rfl⟩
  have kp := project_sb (k := 1) (.inl rfl) (HT.out.below SB.out.bel (Nat.le_refl _)) SB.out HE.out
  rw [← hnm] at kp
  have KP := Lib.hid (show Calls Tryz.prog 23 #[.int .i64 1, .agg #[.string b.id, .int .i64 b.valid, .int .i64 b.next, .int .i64 b.high, .slice WA wn wcp, .slice MA mn mcp]] w2 (BoxOut p1 0 w2) from kp)
  have HNp1 := Lib.hid hnm
  clear kp hnm
  obtain ⟨b0, b1, b2, b3, b4, b5, _⟩ := six_at SB.out.blk
  go_upto_region 4 with (go_at_call 23; go_loud (
     refine KP.out.mono ?_
     rintro e w3 ⟨CA2, cn2, cc2, NA2, nn2, nc2, rfl, hcc, hnc, hl, hb⟩
     have hb0 := SB.out.bel.trans (hb.mono SB.out.bel.size)
     have S1 := Lib.hid (Sb.new (w := w) (c := p1) hb0 hb.size hcc hnc hl)
     have hbx := hb.alloc hb.size (.cells #[.string p1.id, .int .i64 p1.valid, .int .i64 p1.next, .int .i64 p1.high, .slice CA2 cn2 cc2, .slice NA2 nn2 nc2] 25)
     have SB := Lib.hid (SB.out.go hbx)
     clear hcc hnc hl hb hb0 hbx b0 b1 b2 b3 b4 b5))
  clear KP
  obtain ⟨Q2, hQ⟩ : ∃ Q, Q = w3.heap.size := ⟨_, rfl⟩
  rw [← hQ] at S1 ⊢
  clear hQ
  generalize (World.alloc w3 _) = w4 at S1 SB ⊢
  obtain ⟨p2, hnm⟩ : ∃ p2, p2 = pj (fmI 2) b := ⟨_, rfl⟩
  have kp := project_sb (k := 2) (.inr (.inl rfl)) (HT.out.below SB.out.bel (Nat.le_refl _)) SB.out HE.out
  rw [← hnm] at kp
  have KP := Lib.hid (show Calls Tryz.prog 23 #[.int .i64 2, .agg #[.string b.id, .int .i64 b.valid, .int .i64 b.next, .int .i64 b.high, .slice WA wn wcp, .slice MA mn mcp]] w4 (BoxOut p2 0 w4) from kp)
  have HNp2 := Lib.hid hnm
  clear kp hnm
  obtain ⟨b0, b1, b2, b3, b4, b5, _⟩ := six_at SB.out.blk
  go_upto_region 5 with (go_at_call 23; go_loud (
     refine KP.out.mono ?_
     rintro e w5 ⟨CA4, cn4, cc4, NA4, nn4, nc4, rfl, hcc, hnc, hl, hb⟩
     have hb0 := SB.out.bel.trans (hb.mono SB.out.bel.size)
     have S2 := Lib.hid (Sb.new (w := w) (c := p2) hb0 hb.size hcc hnc hl)
     have hbx := hb.alloc hb.size (.cells #[.string p2.id, .int .i64 p2.valid, .int .i64 p2.next, .int .i64 p2.high, .slice CA4 cn4 cc4, .slice NA4 nn4 nc4] 25)
     have SB := Lib.hid (SB.out.go hbx)
     have S1 := Lib.hid (S1.out.go hbx)
     clear hcc hnc hl hb hb0 hbx b0 b1 b2 b3 b4 b5))
  clear KP
  obtain ⟨Q4, hQ⟩ : ∃ Q, Q = w5.heap.size := ⟨_, rfl⟩
  rw [← hQ] at S2 ⊢
  clear hQ
  generalize (World.alloc w5 _) = w6 at S2 SB S1 ⊢
  have HE2 := Lib.hid (show mbE p2 = 0 by rw [HNp2.out]; exact pj_may (fmI_is 2) HE.out)
  obtain ⟨p3, hnm⟩ : ∃ p3, p3 = pj (fmI 1) p2 := ⟨_, rfl⟩
  have kp := project_sb (k := 1) (.inl rfl) (HT.out.below S2.out.bel (Nat.le_refl _)) S2.out HE2.out
  rw [← hnm] at kp
  have KP := Lib.hid (show Calls Tryz.prog 23 #[.int .i64 1, .agg #[.string p2.id, .int .i64 p2.valid, .int .i64 p2.next, .int .i64 p2.high, .slice CA4 cn4 cc4, .slice NA4 nn4 nc4]] w6 (BoxOut p3 0 w6) from kp)
  have HNp3 := Lib.hid hnm
  clear kp hnm
  obtain ⟨b0, b1, b2, b3, b4, b5, _⟩ := six_at S2.out.blk
  go_upto_region 6 with (go_at_call 23; go_loud (
     refine KP.out.mono ?_
     rintro e w7 ⟨CA6, cn6, cc6, NA6, nn6, nc6, rfl, hcc, hnc, hl, hb⟩
     have hb0 := S2.out.bel.trans (hb.mono S2.out.bel.size)
     have S3 := Lib.hid (Sb.new (w := w) (c := p3) hb0 hb.size hcc hnc hl)
     have hbx := hb.alloc hb.size (.cells #[.string p3.id, .int .i64 p3.valid, .int .i64 p3.next, .int .i64 p3.high, .slice CA6 cn6 cc6, .slice NA6 nn6 nc6] 25)
     have SB := Lib.hid (SB.out.go hbx)
     have S1 := Lib.hid (S1.out.go hbx)
     have S2 := Lib.hid (S2.out.go hbx)
     clear hcc hnc hl hb hb0 hbx b0 b1 b2 b3 b4 b5))
  clear KP
  obtain ⟨Q6, hQ⟩ : ∃ Q, Q = w7.heap.size := ⟨_, rfl⟩
  rw [← hQ] at S3 ⊢
  clear hQ
  generalize (World.alloc w7 _) = w8 at S3 SB S1 S2 ⊢
  obtain ⟨p4, hnm⟩ : ∃ p4, p4 = pj (fmI 3) b := ⟨_, rfl⟩
  have kp := project_sb (k := 3) (.inr (.inr rfl)) (HT.out.below SB.out.bel (Nat.le_refl _)) SB.out HE.out
  rw [← hnm] at kp
  have KP := Lib.hid (show Calls Tryz.prog 23 #[.int .i64 3, .agg #[.string b.id, .int .i64 b.valid, .int .i64 b.next, .int .i64 b.high, .slice WA wn wcp, .slice MA mn mcp]] w8 (BoxOut p4 0 w8) from kp)
  have HNp4 := Lib.hid hnm
  clear kp hnm
  obtain ⟨b0, b1, b2, b3, b4, b5, _⟩ := six_at SB.out.blk
  go_upto_region 7 with (go_at_call 23; go_loud (
     refine KP.out.mono ?_
     rintro e w9 ⟨CA8, cn8, cc8, NA8, nn8, nc8, rfl, hcc, hnc, hl, hb⟩
     have hb0 := SB.out.bel.trans (hb.mono SB.out.bel.size)
     have S4 := Lib.hid (Sb.new (w := w) (c := p4) hb0 hb.size hcc hnc hl)
     have hbx := hb.alloc hb.size (.cells #[.string p4.id, .int .i64 p4.valid, .int .i64 p4.next, .int .i64 p4.high, .slice CA8 cn8 cc8, .slice NA8 nn8 nc8] 25)
     have SB := Lib.hid (SB.out.go hbx)
     have S1 := Lib.hid (S1.out.go hbx)
     have S2 := Lib.hid (S2.out.go hbx)
     have S3 := Lib.hid (S3.out.go hbx)
     clear hcc hnc hl hb hb0 hbx b0 b1 b2 b3 b4 b5))
  clear KP
  obtain ⟨Q8, hQ⟩ : ∃ Q, Q = w9.heap.size := ⟨_, rfl⟩
  rw [← hQ] at S4 ⊢
  clear hQ
  generalize (World.alloc w9 _) = w10 at S4 SB S1 S2 S3 ⊢
  have e1 : p1 = p3 := by rw [HNp1.out, HNp3.out, HNp2.out]; exact (pj_older b).symm
  have e2 : p4 = b := by rw [HNp4.out]; exact pj_three HE.out
  have HS1 := Lib.hid (same_eq S1.out S3.out e1)
  have HS2 := Lib.hid (fun (wr : World) (hb : Below w10.heap.size w10 wr) => same_eq (S4.out.go hb) (SB.out.go hb) e2)
  clear e1 e2
  obtain ⟨a0, a1, a2, a3, a4, a5, _⟩ := six_at S1.out.blk
  obtain ⟨c0, c1, c2, c3, c4, c5, _⟩ := six_at S3.out.blk
  go_wp2_with (first
    | (go_at_call 27; go_loud (
       refine HS1.out.mono ?_
       rintro e wa ⟨rfl, hba⟩
       have SBa := Lib.hid (SB.out.go hba)
       have S4a := Lib.hid (S4.out.go hba)
       have HS3 := Lib.hid (HS2.out wa hba)
       clear hba HS1 a0 a1 a2 a3 a4 a5 c0 c1 c2 c3 c4 c5
       obtain ⟨b0, b1, b2, b3, b4, b5, _⟩ := six_at SBa.out.blk
       obtain ⟨q0, q1, q2, q3, q4, q5, _⟩ := six_at S4a.out.blk))
    | (go_at_call 27; go_loud (
       refine HS3.out.mono ?_
       rintro e wb ⟨rfl, hbb⟩
       have HBb := Lib.hid (SBa.out.go hbb).bel
       clear hbb HS3 b0 b1 b2 b3 b4 b5 q0 q1 q2 q3 q4 q5))
    | (go_at_call 22; go_loud (
       refine (HAW.out _ HBb.out).mono ?_
       rintro e wz ⟨rfl, hbz⟩
       have HBz := Lib.hid (HBb.out.trans (hbz.mono HBb.out.size))
       clear hbz)))
  go_ret
  exact ⟨rfl, HBz.out⟩
end Go.Proofs.YtchlbbndfhibgaaGreatDoor.LwOlder
