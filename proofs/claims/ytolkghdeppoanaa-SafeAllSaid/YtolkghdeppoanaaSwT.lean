/-
  SafeTwice: opened twice is as opened once.
-/
import Derived.Test.YtolkghdeppoanaaSwL
import Derived.Test.YtolkghdeppoanaaSwS
import Derived.Test.YtolkghdeppoanaaSwA
set_option linter.unusedVariables false
set_option linter.unusedSimpArgs false
namespace Go.Proofs.Ytolkghdeppoanaa.SwT
open Go.RowKit Go.Proofs.Ytolkghdeppoanaa.BxD Go.Proofs.Ytolkghdeppoanaa.BxKit Go.Proofs.Ytolkghdeppoanaa.RkO Go.Proofs.Ytolkghdeppoanaa.RkC Go.Proofs.Ytolkghdeppoanaa.RkD Go.Proofs.Ytolkghdeppoanaa.RkR Go.Proofs.Ytolkghdeppoanaa.RkK Go.Proofs.Ytolkghdeppoanaa.RkP Go.Proofs.Ytolkghdeppoanaa.RkM Go.Proofs.Ytolkghdeppoanaa.RkN Go.Proofs.Ytolkghdeppoanaa.SfB Go.Proofs.Ytolkghdeppoanaa.SfC Go.Proofs.Ytolkghdeppoanaa.SfD Go.Proofs.Ytolkghdeppoanaa.SfE Go.Proofs.Ytolkghdeppoanaa.SfK Go.Proofs.Ytolkghdeppoanaa.SfO Go.Proofs.Ytolkghdeppoanaa.SfP Go.Proofs.Ytolkghdeppoanaa.SfQ Go.Proofs.Ytolkghdeppoanaa.SfT Go.Proofs.Ytolkghdeppoanaa.SfU Go.Proofs.Ytolkghdeppoanaa.SfV Go.Proofs.Ytolkghdeppoanaa.SwL Go.Proofs.Ytolkghdeppoanaa.SwS Go.Proofs.Ytolkghdeppoanaa.SwA

/-- Behind a commit that a crash ended, and an opening, all of it is there or nothing. -/
theorem twice_state {A : List F} {R : Nat} {s : St} {l : List Ch} {ps : List UInt8} (h : Cl A R s) (k : Fk A) (hf : fitE s l = 0) :
    ∃ D, (D = A ∨ D = dall A l) ∧ Fk D ∧ opE (crS (comS s l) ps) = 0 ∧ Cl D R (opS (crS (comS s l) ps)) ∧ (opS (crS (comS s l) ps)).fuse = none ∧ (comE s l = 0 → D = dall A l) ∧ (comE s l = 0 ∨ comE s l = 5) ∧ ∀ b, rdF (crS (comS s l) ps) nR = some b → b.length ≤ 1000000000 ∧ (parse b).1.length ≤ l.length := by
  have C := cx_of h k hf
  rcases com_any h k hf with ⟨h1, h2, _⟩ | ⟨h1, _, h2 | h2⟩
  · obtain ⟨g1, g2⟩ := cl_crash h2 ps
    obtain ⟨o1, o2, _⟩ := op_cl g1 (SfV.Cx.all C)
    exact ⟨_, .inr rfl, SfV.Cx.all C, o1, by rw [o2]; exact g1, by rw [o2]; exact g2, fun _ => rfl, .inl h1, op_few_cl g1 (SfV.Cx.all C)⟩
  · obtain ⟨g1, g2, g3⟩ := ph_crash C h2 ps
    rcases op_ph C g1 g2 with ⟨_, _, o3⟩ | ⟨o1, o2, o3⟩
    · exact absurd g3 o3
    · exact ⟨_, .inr rfl, SfV.Cx.all C, o1, o2, o3 g3, fun _ => rfl, .inr h1, op_few_ph C g1 g2 (Nat.le_refl _)⟩
  · obtain ⟨g1, g2⟩ := no_crash h2 ps
    obtain ⟨o1, o2, _⟩ := op_cl g1 k
    exact ⟨_, .inl rfl, k, o1, by rw [o2]; exact g1, by rw [o2]; exact g2, fun e => absurd (h1.symm.trans e) (by decide), .inr h1, op_few_cl g1 k⟩
/-- A fuse, as the law reckons it. -/
abbrev fz (x : Int) : Int := wrap64 ((IntKind.u64.wrap x).tmod 70)
theorem fz_le (x : Int) : fz x ≤ 9223372036854775807 := by
  have h : 0 ≤ IntKind.u64.wrap x := by show 0 ≤ x % _; exact Int.emod_nonneg _ (by decide)
  have h2 : (IntKind.u64.wrap x).tmod 70 < 70 := Int.tmod_lt_of_pos _ (by decide)
  have h3 : 0 ≤ (IntKind.u64.wrap x).tmod 70 := Int.tmod_nonneg _ h
  unfold fz wrap64
  omega
set_option maxHeartbeats 8000000 in
set_option maxRecDepth 100000 in
theorem walk {w : World} {LA PA : Option Addr} {n lc pn pc : Nat} {l : List Ch} {ps : List UInt8} {x : Int} (hl : Arg w w.heap.size LA n l) (hp : PkKit.BytesAt w w.heap.size PA pn ps) (hpn : pn ≤ 140737488355328) :
    Calls Try.prog 8 #[.slice LA n lc, .int .i64 x, .slice PA pn pc] w fun e w' => e = .returned (.bool true) ∧ Below w.heap.size w w' := by
  have KH := Lib.hid (heavy_any (c := lc) hl (Nat.le_refl _))
  unfold HvPost at KH
  have HL := Lib.hid hl
  have HP := Lib.hid hp
  have KA := Lib.hid (fun wx => awake wx)
  clear hl hp
  go_enter Try.func8, Try.ntmps8
  go_upto_region 1 with fail
  go_cut [24] (fun s24 wx => ∃ b : Bool, s24 = .bool b ∧ Hid (b = false → Lt l ∧ pn ≤ 200) ∧ Hid (Below w.heap.size w wx))
  case first =>
    go_wp2_with (go_at_call 9; go_loud (refine KH.out.mono ?_; rintro e w2 ⟨h, rfl, h1, _, h3, hb⟩; have HB := Lib.hid hb; have HT := Lib.hid h3; clear hb h3))
    all_goals
      go_meet
      refine ⟨_, rfl, fun hb => ?_, HB⟩
      first | (cases hb; done) | (simp at hb; exact ⟨HT.out (by omega), by omega⟩)
  case rest =>
    obtain ⟨b, rfl, HLT, HB⟩ := hcut
    clear KH
    cases b with
    | true =>
      go_wp2_with (go_at_call 10; go_loud (refine (KA.out _).mono ?_; rintro e w3 ⟨rfl, hb⟩))
      go_ret
      exact ⟨rfl, HB.out.trans (hb.mono HB.out.size)⟩
    | false =>
      obtain ⟨hlt, hp2⟩ := HLT.out rfl
      have hn : n ≤ 60 := by rw [← HL.out.chs.1]; exact hlt.1
      have SZ := Lib.hid hlt.szC
      obtain ⟨T, hT⟩ : ∃ T, T = wc.heap.size := ⟨_, rfl⟩
      have HWT := Lib.hid (show w.heap.size ≤ T from by rw [hT]; exact HB.out.size)
      have KN := Lib.hid (newX wc w.heap.size 1000000 HB.out.size)
      rw [← hT] at KN
      unfold ptr at KN
      clear hlt hT HLT
      go_upto_region 4 with (go_at_call 16; go_loud (refine KN.out.mono ?_; rintro e w1 ⟨rfl, h1, h2⟩; have R1 := Lib.hid h1; have B1 := Lib.hid (HB.out.trans (h2.mono HWT.out)); clear h1 h2))
      have o1 := op_cl (new_cl 1000000).1 Fk.nil
      have KO := Lib.hid (open_any (J := 0) R1.out (by omega) (op_few_cl (new_cl 1000000).1 Fk.nil))
      rw [o1.1, o1.2.1] at KO
      unfold ptr at KO
      clear o1 KN
      go_upto_region 5 with (go_at_call 17; go_loud (
         refine KO.out.mono ?_
         rintro e w2 ⟨v, rfl, h1, h2, _, h4⟩
         obtain ⟨S, rfl, h5, _⟩ := h4 rfl
         have S2 := Lib.hid (show Sx w.heap.size T S 0 0 1 w2 (newS 1000000) from ⟨h1, h5⟩)
         have B2 := Lib.hid (B1.out.trans (h2.to R1.out.bs))
         clear h1 h2 h4 h5))
      by_cases hf : fitE (newS 1000000) l = 0
      case neg =>
        have KF := Lib.hid (fits_any (cp := lc) S2.out (by omega) (chs_mono (fun _ => pb_more) (HL.out.keep B2.out).chs) (by omega) SZ.out)
        obtain ⟨E, hE⟩ : ∃ E, E = fitE (newS 1000000) l := ⟨_, rfl⟩
        rw [← hE] at KF hf
        have hei : (E != 0) = true := by simpa using hf
        unfold ptr at KF
        clear hE hf KO
        go_upto_region 6 with (go_at_call 19; go_loud (refine KF.out.mono ?_; rintro e w3 ⟨rfl, hb⟩; have B3 := Lib.hid (B2.out.trans (hb.mono B2.out.size)); clear hb))
        go_wp2_with (go_at_call 10; go_loud (refine (KA.out _).mono ?_; rintro e w4 ⟨rfl, hb⟩; have B4 := Lib.hid (B3.out.trans (hb.mono B3.out.size)); clear hb))
        go_ret
        exact ⟨rfl, B4.out⟩
      have KF := Lib.hid (fits_any (cp := lc) S2.out (by omega) (chs_mono (fun _ => pb_more) (HL.out.keep B2.out).chs) (by omega) SZ.out)
      rw [hf] at KF
      have HF := Lib.hid hf
      unfold ptr at KF
      clear hf KO
      go_upto_region 7 with (go_at_call 19; go_loud (refine KF.out.mono ?_; rintro e w3 ⟨rfl, hb⟩; have S3 := Lib.hid (S2.out.go hb); have B3 := Lib.hid (B2.out.trans (hb.mono B2.out.size)); clear hb))
      have KU := Lib.hid (fuseX S3.out.rx (fz x) (fz_le x))
      obtain ⟨s4, hs4⟩ : ∃ s4, s4 = fuS (newS 1000000) (fuO (fz x)) := ⟨_, rfl⟩
      have C4 := Lib.hid (show Cl [] 1000000 s4 by rw [hs4]; exact SfV.Cl.fu (new_cl 1000000).1 _)
      have HF4 := Lib.hid (show fitE s4 l = 0 by rw [hs4]; exact HF.out)
      rw [← hs4] at KU
      unfold ptr at KU
      clear hs4 KF
      go_upto_region 8 with (go_at_call 22; go_loud (refine KU.out.mono ?_; rintro e w4 ⟨rfl, h1, h2⟩; have S4 := Lib.hid (S3.out.turn h1 h2); have B4 := Lib.hid (B3.out.trans (h2.to S3.out.rx.bs)); clear h1 h2))
      obtain ⟨D, _, kD, oE, oC, _, _, _, hfew⟩ := twice_state (ps := ps) C4.out Fk.nil HF4.out
      have KC := Lib.hid (commit_any (cp := lc) S4.out (by omega) (chs_mono (fun _ => pb_more) (HL.out.keep B4.out).chs) (by omega) SZ.out)
      obtain ⟨E5, hE5⟩ : ∃ E5, E5 = comE s4 l := ⟨_, rfl⟩
      obtain ⟨s5, hs5⟩ : ∃ s5, s5 = comS s4 l := ⟨_, rfl⟩
      rw [← hE5, ← hs5] at KC
      rw [← hs5] at oE oC hfew
      unfold ptr at KC
      clear hE5 hs5 KU
      go_upto_region 9 with (go_at_call 18; go_loud (refine KC.out.mono ?_; rintro e w5 ⟨rfl, h1, h2⟩; have R5 := Lib.hid h1.rx; have B5 := Lib.hid (B4.out.trans (h2.to S4.out.rx.bs)); clear h1 h2))
      have KK := Lib.hid (crashX (dc := pc) R5.out (by omega) (HP.out.below B5.out (Nat.le_refl _)) B5.out.size (by omega))
      obtain ⟨s6, hs6⟩ : ∃ s6, s6 = crS s5 ps := ⟨_, rfl⟩
      rw [← hs6] at KK oE oC hfew
      unfold ptr at KK
      clear hs6 KC
      go_upto_region 10 with (go_at_call 23; go_loud (refine KK.out.mono ?_; rintro e w6 ⟨rfl, h1, h2⟩; have R6 := Lib.hid h1; have B6 := Lib.hid (B5.out.trans (h2.to R5.out.bs)); clear h1 h2))
      have hll : l.length = n := HL.out.chs.1
      rw [hll] at hfew
      have KO := Lib.hid (open_any (J := n) R6.out (by omega) hfew)
      obtain ⟨s7, hs7⟩ : ∃ s7, s7 = opS s6 := ⟨_, rfl⟩
      rw [oE, ← hs7] at KO
      rw [← hs7] at oC
      have C7 := Lib.hid oC
      have KD := Lib.hid kD
      unfold ptr at KO
      clear hs7 oE oC kD hfew KK hll
      go_upto_region 11 with (go_at_call 17; go_loud (
         refine KO.out.mono ?_
         rintro e w7 ⟨v, rfl, h1, h2, _, h4⟩
         obtain ⟨S7, rfl, h5, _⟩ := h4 rfl
         have R7 := Lib.hid h1
         have B7 := Lib.hid (B6.out.trans (h2.to R6.out.bs))
         clear h1 h2 h4 h5))
      have KS := Lib.hid (sureX R7.out (by omega))
      rw [C7.out.sure] at KS
      have KW := Lib.hid (fun (wx : World) (hb : Below w7.heap.size w7 wx) => writesX (R7.out.go hb))
      obtain ⟨dn, hdn⟩ : ∃ dn, dn = D.length := ⟨_, rfl⟩
      have hdl : dn ≤ 100000 := by have := R7.out.ok.files.len; rw [C7.out.files] at this; omega
      unfold SuPost at KS
      rw [← hdn] at KS
      have HDN := Lib.hid hdn
      unfold ptr at KS KW
      clear KO hdn
      go_upto_region 12 with (first
        | (go_at_call 28; go_loud (refine (KW.out _ Y8.out).mono ?_; rintro e w9 ⟨rfl, rfl⟩))
        | (go_at_call 20; go_loud (refine KS.out.mono ?_; rintro e w8 ⟨A8, c8, rfl, _, h2, h3⟩; have F8 := Lib.hid h2; have Y8 := Lib.hid h3; clear h2 h3)))
      have R8 := Lib.hid (R7.out.go Y8.out)
      have B8 := Lib.hid (B7.out.trans (Y8.out.mono B7.out.size))
      have o1 := op_cl C7.out KD.out
      have KO := Lib.hid (open_any (J := 0) R8.out (by omega) (op_few_cl C7.out KD.out))
      rw [o1.1, o1.2.1] at KO
      unfold ptr at KO
      clear o1 KS KW
      go_upto_region 13 with (go_at_call 17; go_loud (
         refine KO.out.mono ?_
         rintro e w10 ⟨v, rfl, h1, h2, _, h4⟩
         obtain ⟨S10, rfl, h5, _⟩ := h4 rfl
         have R10 := Lib.hid h1
         have B10 := Lib.hid (B8.out.trans (h2.to R8.out.bs))
         have F10 := Lib.hid (F8.out.kp (R8.out.kp h2))
         clear h1 h2 h4 h5))
      have KS := Lib.hid (sureX R10.out (by omega))
      rw [C7.out.sure] at KS
      unfold SuPost ptr at KS
      rw [← HDN.out] at KS
      clear KO
      go_upto_region 14 with (go_at_call 20; go_loud (refine KS.out.mono ?_; rintro e w11 ⟨A11, c11, rfl, _, h2, h3⟩; have F11 := Lib.hid h2; have Y11 := Lib.hid h3; clear h2 h3))
      have R11 := Lib.hid (R10.out.go Y11.out)
      have B11 := Lib.hid (B10.out.trans (Y11.out.mono B10.out.size))
      have KE := Lib.hid (same_files (c1 := c8) (c2 := c11) (F10.out.kp (Kp.below Y11.out (Nat.le_refl _))) F11.out hdl)
      rw [show decide (D = D) = true from decide_eq_true rfl] at KE
      have KW := Lib.hid (fun (wx : World) (hb : Below w11.heap.size w11 wx) => writesX (R11.out.go hb))
      have KL := Lib.hid (fun (wx : World) (hb : Below w11.heap.size w11 wx) => looseX (R11.out.go hb))
      rw [C7.out.loose] at KL
      rw [show (([] : List Ch).length : Int) = 0 from rfl] at KL
      unfold ptr at KW KL
      clear KS
      go_wp2_with (first
        | (go_at_call 21; go_loud (refine KE.out.mono ?_; rintro e w12 ⟨rfl, h3⟩; have Y12 := Lib.hid h3; clear h3))
        | (go_at_call 28; go_loud (refine (KW.out _ Y12.out).mono ?_; rintro e w13 ⟨rfl, rfl⟩))
        | (go_at_call 27; go_loud (refine (KL.out _ Y12.out).mono ?_; rintro e w14 ⟨rfl, rfl⟩))
        | (go_at_call 10; go_loud (refine (KA.out _).mono ?_; rintro e w15 ⟨rfl, hb⟩; have Y15 := Lib.hid (Y12.out.trans (hb.mono Y12.out.size)); clear hb)))
      go_ret
      exact ⟨rfl, B11.out.trans (Y15.out.mono B11.out.size)⟩
end Go.Proofs.Ytolkghdeppoanaa.SwT
