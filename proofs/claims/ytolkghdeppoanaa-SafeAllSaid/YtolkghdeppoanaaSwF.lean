/-
  SafeFits: what Fits is committed; what does not changes nothing.
-/
import Derived.Test.YtolkghdeppoanaaSwL
import Derived.Test.YtolkghdeppoanaaSwS
import Derived.Test.YtolkghdeppoanaaSwA
set_option linter.unusedVariables false
set_option linter.unusedSimpArgs false
namespace Go.Proofs.Ytolkghdeppoanaa.SwF
open Go.RowKit Go.Proofs.Ytolkghdeppoanaa.BxD Go.Proofs.Ytolkghdeppoanaa.BxKit Go.Proofs.Ytolkghdeppoanaa.RkO Go.Proofs.Ytolkghdeppoanaa.RkC Go.Proofs.Ytolkghdeppoanaa.RkD Go.Proofs.Ytolkghdeppoanaa.RkR Go.Proofs.Ytolkghdeppoanaa.RkK Go.Proofs.Ytolkghdeppoanaa.RkP Go.Proofs.Ytolkghdeppoanaa.RkM Go.Proofs.Ytolkghdeppoanaa.RkN Go.Proofs.Ytolkghdeppoanaa.SfB Go.Proofs.Ytolkghdeppoanaa.SfC Go.Proofs.Ytolkghdeppoanaa.SfD Go.Proofs.Ytolkghdeppoanaa.SfE Go.Proofs.Ytolkghdeppoanaa.SfK Go.Proofs.Ytolkghdeppoanaa.SfO Go.Proofs.Ytolkghdeppoanaa.SfP Go.Proofs.Ytolkghdeppoanaa.SfQ Go.Proofs.Ytolkghdeppoanaa.SfT Go.Proofs.Ytolkghdeppoanaa.SfU Go.Proofs.Ytolkghdeppoanaa.SfV Go.Proofs.Ytolkghdeppoanaa.SwL Go.Proofs.Ytolkghdeppoanaa.SwS Go.Proofs.Ytolkghdeppoanaa.SwA

theorem fits_state {D : List F} {R : Nat} {s : St} {l : List Ch} (h : Cl D R s) (k : Fk D) (hz : s.fuse = none) :
    ∃ D', comE s l = fitE s l ∧ Cl D' R (comS s l) ∧ Fk D' ∧ (comS s l).fuse = none ∧ (fitE s l ≠ 0 → D' = D) ∧ (fitE s l = 0 → ∀ c ∈ l, (if c.name = nR then none else rdF (comS s l) c.name) = if c.cut then none else some c.data) := by
  by_cases hf : fitE s l = 0
  · have C := cx_of h k hf
    rcases com_any h k hf with ⟨h1, h2, h3⟩ | ⟨_, h2, _⟩
    · refine ⟨_, h1.trans hf.symm, h2, SfV.Cx.all C, h3 hz, fun h => absurd hf h, fun _ c hc => ?_⟩
      rw [if_neg (C.ch hc).2.1, rd_look (by rw [h2.files]; exact (SfV.Cx.all C).srt), h2.down, h2.files, look_dall_in k.srt C.nod hc]
      rfl
    · exact absurd hz h2
  · obtain ⟨h1, h2⟩ := com_bad hf
    rw [h2]
    exact ⟨D, h1, h, k, hz, fun _ => rfl, fun h => absurd h hf⟩
set_option maxHeartbeats 8000000 in
set_option maxRecDepth 100000 in
theorem walk {w : World} {LA : Option Addr} {n lc : Nat} {l : List (List Ch)} {x : Int} (hl : RowAt chsC 1 w w.heap.size LA n l) :
    Calls Try.prog 6 #[.int .i64 x, .slice LA n lc] w fun e w' => e = .returned (.bool true) ∧ Below w.heap.size w w' := by
  have HL := Lib.hid hl
  have hmx := hl.max
  have KA := Lib.hid (fun wx => awake wx)
  clear hl
  by_cases hb : 10 < n
  · have hbi : (10 : Int) < (n : Int) := by omega
    go_enter Try.func6, Try.ntmps6
    go_wp2_with (go_at_call 10; go_loud (refine (KA.out _).mono ?_; rintro e w3 ⟨rfl, hb⟩))
    go_ret
    exact ⟨rfl, hb⟩
  have hbi : ¬ (10 : Int) < (n : Int) := by omega
  obtain ⟨T, hT⟩ : ∃ T, T = w.heap.size := ⟨_, rfl⟩
  have HWT := Lib.hid (Nat.le_of_eq hT)
  have KN := Lib.hid (newX w w.heap.size x (Nat.le_refl _))
  obtain ⟨R, hR⟩ : ∃ R, R = (max 0 (min x 1000000)).toNat := ⟨_, rfl⟩
  obtain ⟨s0, hs0⟩ : ∃ s0, s0 = newS x := ⟨_, rfl⟩
  have C0 := Lib.hid (show Cl [] R s0 ∧ s0.fuse = none by rw [hs0, hR]; exact new_cl x)
  rw [← hs0] at KN
  rw [← hT] at KN ⊢
  unfold ptr at KN
  have HTE := Lib.hid hT
  clear hT hR hs0
  go_enter Try.func6, Try.ntmps6
  go_upto_region 4 with (go_at_call 16; go_loud (refine KN.out.mono ?_; rintro e w1 ⟨rfl, h1, h2⟩; have R1 := Lib.hid h1; have B1 := Lib.hid h2; clear h1 h2))
  have o1 := op_cl C0.out.1 Fk.nil
  have KO := Lib.hid (open_any (J := 0) R1.out (by omega) (op_few_cl C0.out.1 Fk.nil))
  rw [o1.1, o1.2.1] at KO
  unfold ptr at KO
  clear o1 KN hbi
  go_upto_region 5 with (go_at_call 17; go_loud (
     refine KO.out.mono ?_
     rintro e w2 ⟨v, rfl, h1, h2, _, h4⟩
     obtain ⟨S, rfl, h5, _⟩ := h4 rfl
     have S2 := Lib.hid (show Sx T T S 0 0 1 w2 s0 from ⟨h1, h5⟩)
     have B2 := Lib.hid (B1.out.trans (h2.to R1.out.bs))
     clear h1 h2 h4 h5))
  clear KO
  unfold ptr
  go_wp2_with fail
  go_loopw [36] (fun s36 wr => ∃ (i k : Nat) (s : St) (D : List F), i ≤ n ∧ s36 = .int .i64 i ∧ k ≤ 1 + i * 62 ∧ Hid (Sx T T S 0 0 k wr s) ∧ Hid (Cl D R s) ∧ Hid (Fk D) ∧ Hid (s.fuse = none) ∧ Hid (Below T w wr)) (fun s36 _ => n - (intOf s36).toNat)
  case atStart => exact ⟨0, 1, s0, [], Nat.zero_le _, rfl, by omega, S2, Lib.hid C0.out.1, Lib.hid Fk.nil, Lib.hid C0.out.2, B2⟩
  case round =>
    obtain ⟨i, k, s, D, hin, rfl, hk, HS, HC, HK, HZ, HB⟩ := hrel
    clear S2 R1 B1 B2 C0
    by_cases hlt : i < n
    · obtain ⟨la, li, rfl, hlb, hx, hc⟩ := HL.out.get hlt
      obtain ⟨Ai, ni, ci, hcell, hnc, hca⟩ := hc
      rw [Nat.mul_one] at hcell
      have hcell2 : wr.cell? (la.add i) = some (.slice Ai ni ci) := (HB.out.cell (by rw [HTE.out, add_block]; exact hlb)).trans hcell
      have HA := Lib.hid (show Arg wr T Ai ni li from (Arg.of (by rw [HTE.out]; exact hca)).keep HB.out)
      have hsz : T ≤ wr.heap.size := by rw [HTE.out]; exact HB.out.size
      have HTW := Lib.hid hsz
      have KH := Lib.hid (heavy_any (c := ci) HA.out hsz)
      unfold HvPost at KH
      have hlt2 : (i : Int) < (n : Int) := by omega
      have hi0 : (0 : Int) ≤ (i : Int) := by omega
      clear hx hca hcell hlb hnc hsz
      go_upto_region 10 with fail
      go_cut [42] (fun s42 wx => ∃ b : Bool, s42 = .bool b ∧ Hid (b = false → Lt li) ∧ Hid (Below wr.heap.size wr wx))
      case first =>
        go_wp2_with (go_at_call 9; go_loud (refine KH.out.mono ?_; rintro e w2 ⟨h, rfl, h1, _, h3, hb⟩; have HBh := Lib.hid hb; have HTh := Lib.hid h3; clear hb h3))
        go_meet
        exact ⟨decide (0 < h), rfl, fun hb => HTh.out (by have := of_decide_eq_false hb; omega), HBh⟩
      case rest =>
        obtain ⟨b, rfl, HLT, HB2⟩ := hcut
        clear KH
        have HB3 := Lib.hid (up HB.out HWT.out HB2.out)
        cases b with
        | true =>
          go_wp2_with (go_at_call 10; go_loud (refine (KA.out _).mono ?_; rintro e w3 ⟨rfl, hb⟩))
          go_ret
          exact ⟨rfl, HB3.out.trans (hb.mono (by rw [HTE.out]; exact HB3.out.size))⟩
        | false =>
          have hlt3 := HLT.out rfl
          have hn6 : ni ≤ 60 := by rw [← HA.out.chs.1]; exact hlt3.1
          have SZ := Lib.hid hlt3.szC
          have S3 := Lib.hid (HS.out.go HB2.out)
          have A3 := Lib.hid (HA.out.keep (HB2.out.mono HTW.out))
          clear hlt3 HLT hcell2
          have KS := Lib.hid (sureX S3.out.rx (by omega))
          rw [HC.out.sure] at KS
          obtain ⟨dn, hdn⟩ : ∃ dn, dn = D.length := ⟨_, rfl⟩
          have hdl : dn ≤ 100000 := by have := HS.out.rx.ok.files.len; rw [HC.out.files] at this; omega
          have HDN := Lib.hid hdn
          unfold SuPost at KS
          rw [← hdn] at KS
          unfold ptr at KS
          clear hdn
          go_upto_region 13 with (go_at_call 20; go_loud (refine KS.out.mono ?_; rintro e w4 ⟨A4, c4, rfl, _, h2, h3⟩; have F4 := Lib.hid h2; have S4 := Lib.hid (S3.out.go h3); have B4 := Lib.hid (up HB3.out HWT.out h3); have A4' := Lib.hid (A3.out.keep (h3.mono (by have := HB2.out.size; have := HTW.out; omega))); clear h2 h3))
          have KF := Lib.hid (fits_any (cp := ci) S4.out (by omega) (chs_mono (fun _ => pb_more) A4'.out.chs) (by omega) SZ.out)
          obtain ⟨D', hst1, hst2, hst3, hst4, hst5, hst6⟩ := fits_state HC.out HK.out HZ.out (l := li)
          obtain ⟨E, hE⟩ : ∃ E, E = fitE s li := ⟨_, rfl⟩
          rw [← hE] at KF hst1 hst5 hst6
          unfold ptr at KF
          clear hE KS
          go_upto_region 14 with (go_at_call 19; go_loud (refine KF.out.mono ?_; rintro e w5 ⟨rfl, h3⟩; have S5 := Lib.hid (S4.out.go h3); have B5 := Lib.hid (up B4.out HWT.out h3); have A5 := Lib.hid (A4'.out.keep (h3.mono S4.out.rx.bs)); have F5 := Lib.hid (F4.out.kp (Kp.below h3 (Nat.le_refl _))); clear h3))
          have KC := Lib.hid (commit_any (cp := ci) S5.out (by omega) (chs_mono (fun _ => pb_more) A5.out.chs) (by omega) SZ.out)
          obtain ⟨s', hs'⟩ : ∃ s', s' = comS s li := ⟨_, rfl⟩
          rw [hst1, ← hs'] at KC
          rw [← hs'] at hst2 hst4 hst6
          have C6 := Lib.hid hst2
          have K6 := Lib.hid hst3
          have Z6 := Lib.hid hst4
          have HD := Lib.hid hst5
          have HR := Lib.hid hst6
          unfold ptr at KC
          clear hs' hst1 hst2 hst3 hst4 hst5 hst6 KF
          go_upto_region 15 with (go_at_call 18; go_loud (refine KC.out.mono ?_; rintro e w6 ⟨rfl, h1, h2⟩; have S6 := Lib.hid h1; have B6 := Lib.hid (B5.out.trans (h2.to S5.out.rx.bs)); have A6 := Lib.hid (A5.out.keep (h2.to S5.out.rx.bs)); have F6 := Lib.hid (F5.out.kp (S5.out.rx.kp h2)); clear h1 h2))
          clear KC
          go_upto_region 17 with fail
          go_cut [68] (fun s68 wx => s68 = .bool false ∧ Hid (Below w6.heap.size w6 wx))
          case first =>
            have KL := Lib.hid (fun (wx : World) (hb : Below w6.heap.size w6 wx) => looseX (S6.out.rx.go hb))
            rw [C6.out.loose] at KL
            rw [show (([] : List Ch).length : Int) = 0 from rfl] at KL
            unfold ptr at KL
            by_cases hE0 : E = 0
            · subst hE0
              go_wp2_with (go_at_call 27; go_loud (refine (KL.out _ (Below.refl _ _)).mono ?_; rintro e w7 ⟨rfl, rfl⟩))
              go_meet
              exact ⟨rfl, Below.refl _ _⟩
            · have hei : (E != 0) = true := by simpa using hE0
              have hDD := HD.out hE0
              have KS := Lib.hid (sureX S6.out.rx (by omega))
              rw [C6.out.sure, hDD] at KS
              unfold SuPost at KS
              rw [← HDN.out] at KS
              have KE := Lib.hid (fun (wx : World) (hb : Below w6.heap.size w6 wx) (A : Option Addr) (c : Nat) (hf : FilesT wx A dn D) => same_files (c1 := c) (c2 := c4) hf (F6.out.kp (Kp.below hb (Nat.le_refl _))) hdl)
              rw [show decide (D = D) = true from decide_eq_true rfl] at KE
              unfold ptr at KS
              clear hE0 hDD
              go_wp2_with (first
                | (go_at_call 27; go_loud (refine (KL.out _ Y8.out).mono ?_; rintro e w9 ⟨rfl, rfl⟩))
                | (go_at_call 21; go_loud (refine (KE.out _ Y7.out _ _ F7.out).mono ?_; rintro e w8 ⟨rfl, h3⟩; have Y8 := Lib.hid (Y7.out.trans (h3.mono Y7.out.size)); clear h3))
                | (go_at_call 20; go_loud (refine KS.out.mono ?_; rintro e w7 ⟨A7, c7, rfl, _, h2, h3⟩; have F7 := Lib.hid h2; have Y7 := Lib.hid h3; clear h2 h3)))
              go_meet
              exact ⟨rfl, Y8⟩
          case rest =>
            obtain ⟨rfl, Y6⟩ := hcut
            have S7 := Lib.hid (S6.out.go Y6.out)
            have B7 := Lib.hid (up B6.out HWT.out Y6.out)
            have A7 := Lib.hid (A6.out.keep (Y6.out.mono S6.out.rx.bs))
            clear HDN F6 F5 F4 S3 S4 S5 A3 A4' A5 A6 HD
            go_wp2_with fail
            go_loopw [71] (fun s71 wx => ∃ j : Nat, j ≤ ni ∧ s71 = .int .i64 j ∧ Hid (Below wc.heap.size wc wx)) (fun s71 _ => ni - (intOf s71).toNat)
            case atStart => exact ⟨0, Nat.zero_le _, rfl, Below.refl _ _⟩
            case round =>
              obtain ⟨j, hj, rfl, HY⟩ := hrel
              by_cases hjl : j < ni
              · obtain ⟨ad, x', ct, K, kd, kc, rfl, hx, d0, d1, d2, hle, hby, hpb⟩ := A7.out.chs.sp (Kb.below HY.out S7.out.rx.bs (Nat.zero_le _)) hjl
                have S8 := Lib.hid (S7.out.go HY.out)
                have KR := Lib.hid (read_s (S8.out.go (below_alloc wr (.cells #[.string x', .bool ct, .slice K kd.length kc] 42))) (by omega) x')
                have M0 := Lib.hid (show RkO.Row (wr.alloc (.cells #[.string x', .bool ct, .slice K kd.length kc] 42)) wr.heap.size 42 [.string x', .bool ct, .slice K kd.length kc] from heap_alloc_new wr _)
                have HO := Lib.hid (fun h => HR.out h _ (List.mem_of_getElem? hx))
                have HBY := Lib.hid (hby.keep (Kb.below (below_alloc wr (.cells #[.string x', .bool ct, .slice K kd.length kc] 42)) S8.out.rx.bs (Nat.zero_le _)))
                have BW := Lib.hid (below_alloc wr (.cells #[.string x', .bool ct, .slice K kd.length kc] 42))
                have hbs1 := S8.out.rx.bs
                have HTs := Lib.hid (show T ≤ (wr.alloc (.cells #[.string x', .bool ct, .slice K kd.length kc] 42)).heap.size from Nat.le_trans hbs1 BW.out.size)
                obtain ⟨o, ho⟩ : ∃ o, o = (if x' = nR then none else rdF s' x') := ⟨_, rfl⟩
                have HO2 := Lib.hid (show E = 0 → o = if ct then none else some kd from fun h => by rw [ho]; exact HO.out h)
                rw [← ho] at KR
                obtain ⟨m, hm⟩ : ∃ m, m = kd.length := ⟨_, rfl⟩
                rw [← hm] at d2 KR M0 HBY BW HTs
                have HM := Lib.hid hm
                obtain ⟨P, hP⟩ : ∃ P, P = wr.heap.size := ⟨_, rfl⟩
                have hji : (j : Int) < (ni : Int) := by omega
                have hj0 : (0 : Int) ≤ (j : Int) := by omega
                unfold RdPost ptr at KR
                clear ho hm HO hx hby hle hpb hbs1
                go_upto_region 22 with fail
                rw [← hP] at M0 ⊢
                clear hP d0 d1 d2
                generalize (World.alloc wr _) = w8 at KR M0 HBY BW HTs ⊢
                have c0 := M0.out.cell 0
                go_upto_region 23 with (go_at_call 24; go_loud (
                  refine KR.out.mono ?_
                  rintro e w9 ⟨A9, m9, c9, rfl, h1, _, h3⟩
                  have Y9 := Lib.hid h1
                  have M9 := Lib.hid (M0.out.below h3 M0.out.lt)
                  have HBY9 := Lib.hid (HBY.out.keep (Kb.below h3 HTs.out (Nat.zero_le _)))
                  have BW9 := Lib.hid (BW.out.trans (h3.mono BW.out.size))
                  have hT9 := h3.size
                  have HT9 := Lib.hid (Nat.le_trans HTs.out hT9)
                  clear h1 h3 hT9))
                have HYN := Lib.hid (HY.out.trans (BW9.out.mono HY.out.size))
                have e0 := M9.out.cell 0
                have e1 := M9.out.cell 1
                have e2 := M9.out.cell 2
                clear c0 M0 HBY BW HTs KR M9
                go_cut [100] (fun s100 wx => s100 = .bool false ∧ Hid (Below w9.heap.size w9 wx))
                case first =>
                  by_cases hE0 : E = 0
                  · have ho := HO2.out hE0
                    subst hE0
                    cases ct with
                    | true =>
                      obtain rfl : o = none := ho
                      clear HBY9
                      go_wp2_with fail
                      go_meet
                      exact ⟨rfl, Below.refl _ _⟩
                    | false =>
                      obtain rfl : o = some kd := ho
                      have hcv := PkKit.BytesAt.conv Y9.out.at_ c9
                      have hcv2 := PkKit.BytesAt.conv (HBY9.out.at_ HT9.out (Nat.zero_le _)) kc
                      rw [show (Option.getD (some kd) [] : List UInt8) = kd from rfl] at hcv
                      obtain ⟨X, hX⟩ : ∃ X : ByteArray, X = ⟨kd.toArray⟩ := ⟨_, rfl⟩
                      rw [← hX] at hcv hcv2
                      have hXX : (X.toList == X.toList) = true := by simp
                      clear hX HBY9
                      go_wp2_with fail
                      go_meet
                      exact ⟨rfl, Below.refl _ _⟩
                  · have hei : (E == 0) = false := by simpa using hE0
                    clear hE0
                    go_wp2_with fail
                    go_meet
                    exact ⟨rfl, Below.refl _ _⟩
                case rest =>
                  obtain ⟨rfl, Y10⟩ := hcut
                  go_wp2_with fail
                  go_roundw
                  case measure => simp [intOf]; omega
                  case rel => exact ⟨j + 1, by omega, by go_num, Lib.hid (HYN.out.trans (Y10.out.mono HYN.out.size))⟩
              · obtain rfl : j = ni := by omega
                have SE := Lib.hid ((S7.out.go HY.out).more (m := k + j + 2) (by omega))
                have BE := Lib.hid (up B7.out HWT.out HY.out)
                go_wp2_with fail
                go_roundw
                case measure => simp [intOf]; omega
                case rel => exact ⟨i + 1, k + j + 2, s', D', by omega, by go_num, by omega, SE, C6, K6, Z6, BE⟩
    · obtain rfl : i = n := by omega
      go_wp2_with (go_at_call 10; go_loud (refine (KA.out _).mono ?_; rintro e w3 ⟨rfl, hb⟩))
      go_ret
      exact ⟨rfl, HB.out.trans (hb.mono (by rw [HTE.out]; exact HB.out.size))⟩
end Go.Proofs.Ytolkghdeppoanaa.SwF
