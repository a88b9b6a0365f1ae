/-
  Like: a rack is as the document has it.
-/
import Derived.Test.YtefgcckdlebfaaaRfL
import Derived.Deep.RegionHeld3
namespace Go.Proofs.Ytefgcckdlebfaaa.RfI
open Go.RowKit Go.Proofs.Ytefgcckdlebfaaa.BxD Go.Proofs.Ytefgcckdlebfaaa.BxKit Go.Proofs.Ytefgcckdlebfaaa.RkO Go.Proofs.Ytefgcckdlebfaaa.RkC Go.Proofs.Ytefgcckdlebfaaa.RkD Go.Proofs.Ytefgcckdlebfaaa.RkR Go.Proofs.Ytefgcckdlebfaaa.RkK Go.Proofs.Ytefgcckdlebfaaa.RkP Go.Proofs.Ytefgcckdlebfaaa.RkQ Go.Proofs.Ytefgcckdlebfaaa.RkE Go.Proofs.Ytefgcckdlebfaaa.RkS Go.Proofs.Ytefgcckdlebfaaa.RkM Go.Proofs.Ytefgcckdlebfaaa.RkN Go.Proofs.Ytefgcckdlebfaaa.RkV Go.Proofs.Ytefgcckdlebfaaa.RkW Go.Proofs.Ytefgcckdlebfaaa.RkU Go.Proofs.Ytefgcckdlebfaaa.RkT Go.Proofs.Ytefgcckdlebfaaa.RkG Go.Proofs.Ytefgcckdlebfaaa.RkKe Go.Proofs.Ytefgcckdlebfaaa.RfA Go.Proofs.Ytefgcckdlebfaaa.RfP Go.Proofs.Ytefgcckdlebfaaa.RfS Go.Proofs.Ytefgcckdlebfaaa.RfT Go.Proofs.Ytefgcckdlebfaaa.RfL

set_option maxHeartbeats 8000000 in
set_option maxRecDepth 100000 in
theorem like_any {w0 w : World} {T T2 k : Nat} {s t : St} (h : Two w0 w T T2 k s t) {m : Nat} (hr : Rel m s t) (h6 : k ≤ 900) :
    Calls Try.prog 24 #[RfS.ptr T, RfS.ptr T2] w fun e w' => e = .returned (.int .i64 0) ∧ Below w.heap.size w w' := by
  have RB := Lib.hid h.rkb
  have HR := Lib.hid hr
  obtain ⟨h1, h2, h3, h4, h5, SA, sn, sc, FA, fn, fcp, LA, ln, lc, NA, nn, nc, SA2, sn2, sc2, LA2, ln2, lc2, h6', h7, h8⟩ := h
  have HF := Lib.hid (show FilesT w NA nn s.files by have := h7.files; rwa [hr.files] at this)
  have HS := Lib.hid (show FilesT w SA2 sn2 s.sure by have := h7.sure; rwa [hr.sure] at this)
  have hnn : s.files.length = nn := HF.out.len
  have hln : s.loose.length = ln2 := by have := h7.loose.len; rwa [hr.loose] at this
  have hsn : s.sure.length = sn2 := HS.out.len
  have HN := Lib.hid hnn
  have hn9 : nn ≤ 900 := by have := h2.files.len; omega
  have hs9 : sn2 ≤ 900 := by have := h2.loose; omega
  obtain ⟨dn, hdn⟩ : ∃ dn, dn = s.down := ⟨_, rfl⟩
  have HDN := Lib.hid hdn
  have KN := Lib.hid (show Calls Try.prog 25 #[RfS.ptr T] w (fun e w' => ∃ A c, e = .returned (.slice A nn c) ∧ StrsAt w' w'.heap.size A nn (s.files.map (·.1)) ∧ Below w.heap.size w w') from
    (NamesB RB.out (by omega)).mono fun e w' ⟨A, c, he, ha, hb⟩ => by rw [List.length_map, hnn] at he ha; exact ⟨A, c, he, ha, hb⟩)
  obtain ⟨C, hCC⟩ : ∃ C, C = costs s.files := ⟨_, rfl⟩
  have hcb : C ≤ 200000000 := by have := h2.files.cost; omega
  have hrb : s.room ≤ 1000000 := h2.room
  have hwb : s.writes ≤ 900 := by have := h2.writes; omega
  have HST := Lib.hid h2.files.srt
  have HSZ := Lib.hid h2.files.sz
  have HGE := Lib.hid (fun (wr : World) (hb : Below w.heap.size w wr) => show wr.cell? { block := T2, off := 0 } = some (.int .i64 s.room) ∧ wr.cell? { block := T2, off := 1 } = some (.slice NA nn nc) ∧ wr.cell? { block := T2, off := 2 } = some (.slice SA2 sn2 sc2) ∧ wr.cell? { block := T2, off := 3 } = some (.slice LA2 ln2 lc2) ∧ wr.cell? { block := T2, off := 5 } = some (.bool dn) ∧ wr.cell? { block := T2, off := 6 } = some (.int .i64 s.writes) from by
    obtain ⟨c0, c1, c2, c3, c4, c5, c6, _⟩ := (h7.below hb).cells rfl
    rw [hr.room] at c0
    rw [hr.down, ← hdn] at c5
    rw [hr.writes] at c6
    exact ⟨c0, c1, c2, c3, c5, c6⟩)
  have HCE := Lib.hid hCC
  have HLN := Lib.hid hln
  have HSN := Lib.hid hsn
  clear h1 h2 h3 h4 h5 h6' h7 h8 hr hnn hln hsn hdn hCC
  go_enter Try.func24, Try.ntmps24
  unfold RfS.ptr
  unfold RfS.ptr at KN
  go_upto_region 2 with (go_at_call 25; go_loud (
     refine KN.out.mono ?_
     rintro e w1 ⟨NmA, nmc, rfl, hns, hb1⟩
     have HNS := Lib.hid hns
     have HB1 := Lib.hid hb1
     clear hns hb1))
  clear KN
  have HC := Lib.hid (fun (wr : World) (hb : Below w1.heap.size w1 wr) => HGE.out wr (HB1.out.trans (hb.mono HB1.out.size)))
  have RB1 := Lib.hid (RB.out.below HB1.out)
  have HF1 := Lib.hid (HF.out.kp (Kp.below HB1.out (Nat.le_refl _)))
  have HS1 := Lib.hid (HS.out.kp (Kp.below HB1.out (Nat.le_refl _)))
  have KS := Lib.hid (fun (wr : World) (hb : Below w1.heap.size w1 wr) => show Calls Try.prog 26 #[RfS.ptr T] wr (fun e w' => e = .returned (.int .i64 (C : Nat)) ∧ Below w1.heap.size w1 w') from
    ((HCE.out ▸ SizeB (RB1.out.below hb) (by omega) : Calls _ _ _ _ (fun e w' => e = .returned (.int .i64 (C : Nat)) ∧ Below wr.heap.size wr w'))).mono fun e w' ⟨q1, q2⟩ => ⟨q1, hb.trans (q2.mono hb.size)⟩)
  have KC := Lib.hid (fun (wr : World) (hb : Below w1.heap.size w1 wr) => show Calls Try.prog 40 #[.slice NA nn nc] wr (fun e w' => e = .returned (.int .i64 (C : Nat)) ∧ Below w1.heap.size w1 w') from
    ((HCE.out ▸ RfA.costs_any (cap := nc) (by omega) HSZ.out (HF1.out.kp (Kp.below hb (Nat.le_refl _))) : Calls _ _ _ _ (fun e w' => e = .returned (.int .i64 (C : Nat)) ∧ Below wr.heap.size wr w'))).mono fun e w' ⟨q1, q2⟩ => ⟨q1, hb.trans (q2.mono hb.size)⟩)
  have KR := Lib.hid (fun (wr : World) (hb : Below w1.heap.size w1 wr) => show Calls Try.prog 27 #[RfS.ptr T] wr (fun e w' => e = .returned (.int .i64 ((s.room : Int) - (C : Nat))) ∧ Below w1.heap.size w1 w') from
    ((HCE.out ▸ RoomB (RB1.out.below hb) (by omega) : Calls _ _ _ _ (fun e w' => e = .returned (.int .i64 ((s.room : Int) - (C : Nat))) ∧ Below wr.heap.size wr w'))).mono fun e w' ⟨q1, q2⟩ => ⟨q1, hb.trans (q2.mono hb.size)⟩)
  have KL := Lib.hid (fun (wr : World) (hb : Below w1.heap.size w1 wr) => show Calls Try.prog 28 #[RfS.ptr T] wr (fun e w' => e = .returned (.int .i64 (ln2 : Nat)) ∧ Below w1.heap.size w1 w') from
    ((HLN.out ▸ LooseB (RB1.out.below hb) : Calls _ _ _ _ (fun e w' => e = .returned (.int .i64 (ln2 : Nat)) ∧ wr = w'))).mono fun e w' ⟨q1, q2⟩ => ⟨q1, q2 ▸ hb⟩)
  have KD := Lib.hid (fun (wr : World) (hb : Below w1.heap.size w1 wr) => show Calls Try.prog 29 #[RfS.ptr T] wr (fun e w' => e = .returned (.bool dn) ∧ Below w1.heap.size w1 w') from
    ((HDN.out ▸ DownB (RB1.out.below hb) : Calls _ _ _ _ (fun e w' => e = .returned (.bool dn) ∧ wr = w'))).mono fun e w' ⟨q1, q2⟩ => ⟨q1, q2 ▸ hb⟩)
  have KW := Lib.hid (fun (wr : World) (hb : Below w1.heap.size w1 wr) => show Calls Try.prog 30 #[RfS.ptr T] wr (fun e w' => e = .returned (.int .i64 (s.writes : Nat)) ∧ Below w1.heap.size w1 w') from
    (WritesB (RB1.out.below hb)).mono fun e w' ⟨q1, q2⟩ => ⟨q1, q2 ▸ hb⟩)
  have KU := Lib.hid (fun (wr : World) (hb : Below w1.heap.size w1 wr) => show Calls Try.prog 31 #[RfS.ptr T] wr (fun e w' => ∃ A c, e = .returned (.slice A sn2 c) ∧ FilesT w' A sn2 s.sure ∧ Below w1.heap.size w1 w') from
    (SureB (RB1.out.below hb) (by omega)).mono fun e w' ⟨A, c, he, _, ha, hb2⟩ => by rw [HSN.out] at he ha; exact ⟨A, c, he, ha, hb.trans (hb2.mono hb.size)⟩)
  have KF := Lib.hid (fun (wr : World) (hb : Below w1.heap.size w1 wr) (A : Option Addr) (c : Nat) (hf : FilesT wr A sn2 s.sure) => show Calls Try.prog 32 #[.slice A sn2 c, .slice SA2 sn2 sc2] wr (fun e w' => e = .returned (.bool true) ∧ Below w1.heap.size w1 w') from
    (RkH.same_files (c1 := c) (c2 := sc2) hf (HS1.out.kp (Kp.below hb (Nat.le_refl _))) (by omega)).mono fun e w' ⟨q1, q2⟩ => ⟨by rw [q1, decide_eq_true rfl], hb.trans (q2.mono hb.size)⟩)
  unfold RfS.ptr at KS KR KL KD KW KU
  have HBo := Lib.hid (Below.refl w1.heap.size w1)
  have F0 := HC.out w1 (Below.refl _ _)
  have hnb : ((nn : Int) != (nn : Int)) = false := by simp
  have hwrap : IntKind.i64.wrap ((s.room : Int) - (C : Int)) = (s.room : Int) - (C : Int) := IntWalk.i64_in _ (by omega)
  have hwrap2 : wrap64 ((s.room : Int) - (C : Int)) = (s.room : Int) - (C : Int) := by unfold wrap64; omega
  simp only [List.append]
  go_region_held3 (fun wx => wx.cell? { block := T2, off := 0 } = some (.int .i64 s.room) ∧ wx.cell? { block := T2, off := 1 } = some (.slice NA nn nc) ∧ wx.cell? { block := T2, off := 2 } = some (.slice SA2 sn2 sc2) ∧ wx.cell? { block := T2, off := 3 } = some (.slice LA2 ln2 lc2) ∧ wx.cell? { block := T2, off := 5 } = some (.bool dn) ∧ wx.cell? { block := T2, off := 6 } = some (.int .i64 s.writes)) (with_reducible first | exact F0 | exact Fv | go_keep) (first
    | (go_simp; go_at_call 26; go_loud (
         refine (KS.out _ (by (repeat (with_reducible first | exact HBv.out | exact HBo.out | refine Below.drew ?_)); done)).mono ?_
         rintro e vv ⟨rfl, hbj⟩
         have HBv := Lib.hid hbj
         have Fv := HC.out _ hbj
         clear hbj
         dsimp only))
    | (go_simp; go_at_call 40; go_loud (
         refine (KC.out _ (by (repeat (with_reducible first | exact HBv.out | exact HBo.out | refine Below.drew ?_)); done)).mono ?_
         rintro e vv ⟨rfl, hbj⟩
         have HBv := Lib.hid hbj
         have Fv := HC.out _ hbj
         clear hbj
         dsimp only))
    | (go_simp; go_at_call 27; go_loud (
         refine (KR.out _ (by (repeat (with_reducible first | exact HBv.out | exact HBo.out | refine Below.drew ?_)); done)).mono ?_
         rintro e vv ⟨rfl, hbj⟩
         have HBv := Lib.hid hbj
         have Fv := HC.out _ hbj
         clear hbj
         dsimp only))
    | (go_simp; go_at_call 28; go_loud (
         refine (KL.out _ (by (repeat (with_reducible first | exact HBv.out | exact HBo.out | refine Below.drew ?_)); done)).mono ?_
         rintro e vv ⟨rfl, hbj⟩
         have HBv := Lib.hid hbj
         have Fv := HC.out _ hbj
         clear hbj
         dsimp only))
    | (go_simp; go_at_call 29; go_loud (
         refine (KD.out _ (by (repeat (with_reducible first | exact HBv.out | exact HBo.out | refine Below.drew ?_)); done)).mono ?_
         rintro e vv ⟨rfl, hbj⟩
         have HBv := Lib.hid hbj
         have Fv := HC.out _ hbj
         clear hbj
         dsimp only))
    | (go_simp; go_at_call 30; go_loud (
         refine (KW.out _ (by (repeat (with_reducible first | exact HBv.out | exact HBo.out | refine Below.drew ?_)); done)).mono ?_
         rintro e vv ⟨rfl, hbj⟩
         have HBv := Lib.hid hbj
         have Fv := HC.out _ hbj
         clear hbj
         dsimp only))
    | (go_simp; go_at_call 31; go_loud (
         refine (KU.out _ (by (repeat (with_reducible first | exact HBv.out | exact HBo.out | refine Below.drew ?_)); done)).mono ?_
         rintro e vv ⟨SA3, sc3, rfl, hfs, hbj⟩
         have HBv := Lib.hid hbj
         have Fv := HC.out _ hbj
         have HSU := Lib.hid (fun (wr : World) (hb : Below vv.heap.size vv wr) => hfs.kp (Kp.below hb (Nat.le_refl _)))
         clear hfs
         clear hbj
         dsimp only))
    | (go_simp; go_at_call 32; go_loud (
         refine (KF.out _ (by (repeat (with_reducible first | exact HBv.out | exact HBo.out | refine Below.drew ?_)); done) SA3 sc3 (HSU.out _ (by (repeat (with_reducible first | exact Below.refl _ _ | refine Below.drew ?_)); done))).mono ?_
         rintro e vv ⟨rfl, hbj⟩
         have HBv := Lib.hid hbj
         have Fv := HC.out _ hbj
         clear hbj
         dsimp only)))
  rename_i hHeld
  clear hHeld F0
  obtain ⟨f0, f1, f2, f3, f5, f6⟩ := Fv
  clear KS KC KR KL KD KW KU KF HSU HS HS1 HCE HLN HSN hwrap hwrap2
  go_upto_region 5 with fail
  clear f0 f1 f2 f3 f5 f6
  go_loopw [88] (fun s88 wr => ∃ i : Nat, i ≤ nn ∧ s88 = .int .i64 i ∧ Hid (Below w1.heap.size w1 wr)) (fun s88 _ => nn - (intOf s88).toNat)
  case atStart => exact ⟨0, Nat.zero_le _, rfl, HBv⟩
  case round =>
    obtain ⟨i, hi, rfl, HB⟩ := hrel
    by_cases hlt : i < nn
    · obtain ⟨ad, x, K, kd, kc, rfl, hp, d1, d2, hle, hby⟩ := HF1.out.sp (Kp.below HB.out (Nat.le_refl _)) hlt
      have HPP := Lib.hid hp
      have HBY := Lib.hid hby
      obtain ⟨m, hm⟩ : ∃ m, m = kd.length := ⟨_, rfl⟩
      rw [← hm] at d2
      have HMM := Lib.hid hm
      have HX := Lib.hid (heap_alloc_new wr (.cells #[.string x, .slice K m kc] 50))
      have hbb := Lib.hid (HB.out.alloc HB.out.size (.cells #[.string x, .slice K m kc] 50))
      have hba := Lib.hid (RkP.below_alloc wr (.cells #[.string x, .slice K m kc] 50))
      have i0 : (0 : Int) ≤ (i : Int) := by omega
      have i1 : (i : Int) < (nn : Int) := by omega
      clear hp hby hm hle
      go_upto_region 7 with fail
      obtain ⟨B, hB⟩ : ∃ B, B = wr.heap.size := ⟨_, rfl⟩
      have HBL := Lib.hid (show B < (wr.alloc (.cells #[.string x, .slice K m kc] 50)).heap.size by simp [hB])
      rw [← hB] at HX ⊢
      clear hB d1 d2
      generalize (World.alloc wr _) = w2 at hbb hba HX HBL ⊢
      have cc := fun o => cell_of_row _ B o _ _ _ HX.out
      have x0 := (cc 0).trans (show _ = some (Value.string x) from rfl)
      have x1 := (cc 1).trans (show _ = some (Value.slice K m kc) from rfl)
      clear cc
      obtain ⟨na, x', rfl, hxq, hcx⟩ := StrsAt.at_ HNS.out hbb.out (Nat.le_refl _) hlt
      obtain rfl : x' = x := by
        rw [List.getElem?_map, HPP.out] at hxq
        exact (Option.some.inj hxq).symm
      have HXQ := Lib.hid hxq
      clear hxq
      have hxx : (x'.toList != x'.toList) = false := by simp
      go_region_held3 (fun wx => wx.cell? (na.add i) = some (.string x') ∧ wx.cell? { block := B, off := 0 } = some (.string x') ∧ wx.cell? { block := B, off := 1 } = some (.slice K m kc)) (with_reducible first | exact ⟨hcx, x0, x1⟩ | go_keep) (fail)
      rename_i hHeld
      clear hHeld
      have x0 : w2.drew.cell? { block := B, off := 0 } = some (Value.string x') := x0
      have KQ := ReadB (RB1.out.below hbb.out.drew) (by omega) x'
      cases dn with
      | true =>
        rw [rdF_down HDN.out.symm] at KQ
        unfold RkM.ptr RdPost at KQ
        have KQ := Lib.hid KQ
        go_upto_region 10 with (go_at_call 22; go_loud (
           refine KQ.out.mono ?_
           rintro e w3 ⟨A2, m2, k2, rfl, _, hk2, hw3⟩
           have HB3 := Lib.hid (hbb.out.drew.trans (hw3.mono hbb.out.drew.size))
           obtain ⟨g0, g1, g2, g3, g5, g6⟩ := HC.out w3 HB3.out
           clear hw3 x0 x1 hcx))
        go_wp2_with fail
        go_roundw
        case rel => exact ⟨i + 1, hlt, by go_num, HB3⟩
        case measure => simp [intOf]; omega
      | false =>
        obtain ⟨d, hdq, hrd⟩ := read_at HST.out HDN.out.symm HXQ.out
        have hd2 : d = kd := by
          rw [HPP.out] at hdq
          exact (Prod.mk.inj (Option.some.inj hdq)).2.symm
        subst hd2
        rw [hrd] at KQ
        unfold RkM.ptr RdPost at KQ
        rw [Option.isSome_some] at KQ
        have KQ := Lib.hid KQ
        clear hdq hrd
        go_upto_region 10 with (go_at_call 22; go_loud (
           refine KQ.out.mono ?_
           rintro e w3 ⟨A2, m2, k2, rfl, hb2, hk2, hw3⟩
           have HB3 := Lib.hid (hbb.out.drew.trans (hw3.mono hbb.out.drew.size))
           obtain ⟨g0, g1, g2, g3, g5, g6⟩ := HC.out w3 HB3.out
           have y1 : w3.cell? { block := B, off := 1 } = some (Value.slice K m kc) := (hw3.cell (p := ⟨B, 1, none⟩) HBL.out).trans x1
           have hcv := PkKit.BytesAt.conv hb2.at_ k2
           have hcv' := PkKit.BytesAt.conv (show PkKit.BytesAt w3 w3.heap.size K m d from by
             have e := HMM.out
             subst e
             exact ((HBY.out.kp (Kp.below hba.out (Nat.le_refl _))).kp (Kp.below (w := w2) ((Below.drew (Below.refl _ _)).trans hw3) (Nat.le_refl _))).at_) kc
           rw [Option.getD_some] at hcv
           clear hw3 x0 x1 hcx hb2))
        have hdd : ((⟨d.toArray⟩ : ByteArray).toList != (⟨d.toArray⟩ : ByteArray).toList) = false := by simp
        obtain ⟨X, hX⟩ : ∃ X : ByteArray, X = ⟨d.toArray⟩ := ⟨_, rfl⟩
        rw [← hX] at hcv hcv' hdd
        clear hX
        go_wp2_with fail
        go_roundw
        case rel => exact ⟨i + 1, hlt, by go_num, HB3⟩
        case measure => simp [intOf]; omega
    · go_wp2_with fail
      go_ret
      exact ⟨rfl, HB1.out.trans (HB.out.mono HB1.out.size)⟩
end Go.Proofs.Ytefgcckdlebfaaa.RfI
