/-
  Changes committed; a safe opened.
-/
import Derived.Test.YtolkghdeppoanaaSfO
import Derived.Test.YtolkghdeppoanaaSfF
set_option linter.unusedVariables false
set_option linter.unusedSimpArgs false
namespace Go.Proofs.Ytolkghdeppoanaa.SfP
open Go.RowKit Go.Proofs.Ytolkghdeppoanaa.BxD Go.Proofs.Ytolkghdeppoanaa.BxKit Go.Proofs.Ytolkghdeppoanaa.PkKit Go.Proofs.Ytolkghdeppoanaa.RkO Go.Proofs.Ytolkghdeppoanaa.RkP Go.Proofs.Ytolkghdeppoanaa.RkC Go.Proofs.Ytolkghdeppoanaa.RkD Go.Proofs.Ytolkghdeppoanaa.RkR Go.Proofs.Ytolkghdeppoanaa.RkK Go.Proofs.Ytolkghdeppoanaa.RkM Go.Proofs.Ytolkghdeppoanaa.RkN Go.Proofs.Ytolkghdeppoanaa.SfM Go.Proofs.Ytolkghdeppoanaa.SfB Go.Proofs.Ytolkghdeppoanaa.SfC Go.Proofs.Ytolkghdeppoanaa.SfD Go.Proofs.Ytolkghdeppoanaa.SfE Go.Proofs.Ytolkghdeppoanaa.SfF Go.Proofs.Ytolkghdeppoanaa.SfK Go.Proofs.Ytolkghdeppoanaa.SfL Go.Proofs.Ytolkghdeppoanaa.SfI Go.Proofs.Ytolkghdeppoanaa.SfN Go.Proofs.Ytolkghdeppoanaa.SfO

section
variable {base T S lo hi k : Nat} {w w' : World} {s s' : St}
set_option maxHeartbeats 8000000 in
set_option maxRecDepth 100000 in
theorem commit_any (h : Sx base T S lo hi k w s) {n cp : Nat} {A : Option Addr} {l : List Ch} (h6 : k + n ≤ 890) (hL : ChsP w base lo hi A n l) (hn : n ≤ 1000) (hz : szC l) :
    Calls Try.prog 18 #[ptr S, .slice A n cp] w fun e w' => e = .returned (.int .i64 (comE s l)) ∧ Sx base T S lo hi (k + n + 2) w' (comS s l) ∧ Fq base T lo hi w w' := by
  have H0 := Lib.hid h
  have HL := Lib.hid hL
  have HLN := Lib.hid hL.1
  have HZ := Lib.hid hz
  have KF := Lib.hid (fits_any (cp := cp) h (by omega) hL hn hz)
  clear h hL hz
  obtain ⟨E, hE⟩ : ∃ E, E = fitE s l := ⟨_, rfl⟩
  rw [← hE] at KF
  have HE := Lib.hid hE
  unfold ptr at *
  clear hE
  by_cases hE0 : E = 0
  case neg =>
    have hEi : (E != 0) = true := by simpa using hE0
    have HP := Lib.hid (show comE s l = E ∧ comS s l = s by unfold comE comS; rw [← HE.out, if_pos hE0, if_pos hE0]; exact ⟨rfl, rfl⟩)
    clear hE0
    go_enter Try.func18, Try.ntmps18
    go_wp2_with (go_at_call 19; go_loud (refine KF.out.mono ?_; rintro e w1 ⟨rfl, hb1⟩; have B1 := Lib.hid hb1; clear hb1))
    go_ret
    rw [HP.out.1, HP.out.2]
    exact ⟨rfl, (H0.out.go B1.out).more (by omega), Fq.of B1.out⟩
  subst hE0
  by_cases hn0 : n = 0
  · subst hn0
    have HP := Lib.hid (show comE s l = 0 ∧ comS s l = s by unfold comE comS; rw [← HE.out, HLN.out]; exact ⟨rfl, rfl⟩)
    go_enter Try.func18, Try.ntmps18
    go_wp2_with (go_at_call 19; go_loud (refine KF.out.mono ?_; rintro e w1 ⟨rfl, hb1⟩; have B1 := Lib.hid hb1; clear hb1))
    go_ret
    rw [HP.out.1, HP.out.2]
    exact ⟨rfl, (H0.out.go B1.out).more (by omega), Fq.of B1.out⟩
  have hni : ((n : Int) == 0) = false := by simpa using hn0
  have HC := Lib.hid (show (comE s l = if wrE s nR (bsL l) ≠ 0 then wrE s nR (bsL l) else if flE (wrS s nR (bsL l)) ≠ 0 then flE (wrS s nR (bsL l)) else finE (flS (wrS s nR (bsL l))) l) ∧
      comS s l = if wrE s nR (bsL l) ≠ 0 then wrS s nR (bsL l) else if flE (wrS s nR (bsL l)) ≠ 0 then flS (wrS s nR (bsL l)) else finS (flS (wrS s nR (bsL l))) l by
    unfold comE comS
    have h00 : ¬ ((0 : Int) ≠ 0) := by simp
    rw [← HE.out, HLN.out, if_neg h00, if_neg hn0, if_neg h00, if_neg hn0]
    exact ⟨rfl, rfl⟩)
  clear hn0
  go_enter Try.func18, Try.ntmps18
  go_upto_region 4 with (go_at_call 19; go_loud (refine KF.out.mono ?_; rintro e w1 ⟨rfl, hb1⟩; have B1 := Lib.hid hb1; clear hb1))
  have S1 := Lib.hid (H0.out.go B1.out)
  have L1 := Lib.hid (HL.out.keep (Kb.below B1.out H0.out.rx.bs H0.out.rx.hs))
  have F1 := Lib.hid (Fq.of (base := base) (T := T) (lo := lo) (hi := hi) B1.out)
  have c0 := S1.out.sb.cell 0
  unfold ptr at c0
  have KB := Lib.hid (bytes_any (w := w1.drew) (cp := cp) (L1.out.keep (Kb.below ((Below.refl w1.heap.size w1).drew) S1.out.rx.bs S1.out.rx.hs)) S1.out.rx.bs S1.out.rx.hs hn HZ.out)
  unfold BsPost at KB
  obtain ⟨q, hq⟩ : ∃ q, q = (bsL l).length := ⟨_, rfl⟩
  rw [← hq] at KB
  have HQ := Lib.hid hq
  obtain ⟨e1, he1⟩ : ∃ e1, e1 = wrE s nR (bsL l) := ⟨_, rfl⟩
  obtain ⟨s1, hs1⟩ : ∃ s1, s1 = wrS s nR (bsL l) := ⟨_, rfl⟩
  rw [← he1, ← hs1] at HC
  have HW := Lib.hid (And.intro he1 hs1)
  clear hq KF he1 hs1
  go_region_held3 (fun wq => wq.cell? { block := S, off := 0 } = some (.pointer (some { block := T, off := 0 }))) (with_reducible first | exact c0 | exact d2 | exact d3 | go_keep) (first
    | (go_at_call 13; go_loud (
       refine KB.out.mono ?_
       rintro e w2 ⟨A2, c2, rfl, _, ho2, hb2⟩
       have B2 := Lib.hid (show Below w1.heap.size w1 w2 from ((Below.refl w1.heap.size w1).drew).trans hb2)
       have R2 := Lib.hid (S1.out.go B2.out)
       have hby : BytesAt w2 w2.heap.size A2 q (bsL l) := ho2.bytes
       have KW := Lib.hid (writeX (dc := c2) R2.out.rx (by omega) nR hby (Nat.le_refl _))
       rw [← HW.out.1, ← HW.out.2] at KW
       have d2 : w2.cell? { block := S, off := 0 } = some (.pointer (some { block := T, off := 0 })) := R2.out.sb.cell 0
       unfold ptr nR at KW
       clear ho2 hb2 hby
       dsimp only))
    | (go_at_call 41; go_loud (
       refine KW.out.mono ?_
       rintro e w3 ⟨rfl, h2, h3⟩
       have S3 := Lib.hid (R2.out.turn h2 h3)
       have F3 := Lib.hid (F1.out.trans ((Fq.of B2.out).trans h3))
       have d3 : w3.cell? { block := S, off := 0 } = some (.pointer (some { block := T, off := 0 })) := S3.out.sb.cell 0
       clear h2 h3
       dsimp only)))
  rename_i hHeld
  clear hHeld
  clear c0 d2 d3 KB KW
  by_cases hz1 : e1 = 0
  case neg =>
    have hzi : (e1 != 0) = true := by simpa using hz1
    have HP := Lib.hid (show comE s l = e1 ∧ comS s l = s1 by rw [HC.out.1, HC.out.2, if_pos hz1, if_pos hz1]; exact ⟨rfl, rfl⟩)
    clear hz1
    go_wp2_with fail
    go_ret
    rw [HP.out.1, HP.out.2]
    exact ⟨rfl, S3.out.more (by omega), F3.out⟩
  subst hz1
  have K1 := Lib.hid (flushX S3.out.rx)
  have c3 := S3.out.sb.cell 0
  obtain ⟨e2, he2⟩ : ∃ e2, e2 = flE s1 := ⟨_, rfl⟩
  obtain ⟨s2, hs2⟩ : ∃ s2, s2 = flS s1 := ⟨_, rfl⟩
  rw [← he2, ← hs2] at K1 HC
  unfold ptr at K1 c3
  clear he2 hs2
  go_upto_region 8 with (go_at_call 42; go_loud (refine K1.out.mono ?_; rintro e w4 ⟨rfl, h2, h3⟩; have S4 := Lib.hid (S3.out.turn h2 h3); have F4 := Lib.hid (F3.out.trans h3); clear h2 h3 c3))
  by_cases hz2 : e2 = 0
  case neg =>
    have hzi : (e2 != 0) = true := by simpa using hz2
    have HP := Lib.hid (show comE s l = e2 ∧ comS s l = s2 by rw [HC.out.1, HC.out.2]; simp [hz2])
    clear hz2
    go_wp2_with fail
    go_ret
    rw [HP.out.1, HP.out.2]
    exact ⟨rfl, S4.out.more (by omega), F4.out⟩
  subst hz2
  have HP := Lib.hid (show comE s l = finE s2 l ∧ comS s l = finS s2 l by rw [HC.out.1, HC.out.2]; simp)
  have KX := Lib.hid (fin_any (cp := cp) S4.out.rx (by omega) (HL.out.keep (F4.out.kb H0.out.rx.bs H0.out.rx.hs)))
  have c4 := S4.out.sb.cell 0
  unfold ptr at KX c4
  go_wp2_with (go_at_call 40; go_loud (refine KX.out.mono ?_; rintro e w5 ⟨rfl, h2, h3⟩; have S5 := Lib.hid (S4.out.turn h2 h3); have F5 := Lib.hid (F4.out.trans h3); clear h2 h3 c4))
  go_ret
  rw [HP.out.1, HP.out.2]
  exact ⟨rfl, S5.out.more (by omega), F5.out⟩
end
def opE (s : St) : Int := if s.down then 5 else match rdF s nR with
  | none => 0
  | some b => if (parse b).2 ≠ 0 then ((parse b).2 : Nat) else finE s (parse b).1
def opS (s : St) : St := if s.down then s else match rdF s nR with
  | none => s
  | some b => if (parse b).2 ≠ 0 then s else finS s (parse b).1
theorem chs_base {w : World} {base lo hi n : Nat} {A : Option Addr} {l : List Ch} (h : ChsP w 0 lo hi A n l) : ChsP w base lo hi A n l := by
  have hp : ∀ k, Pb 0 lo hi k → Pb base lo hi k := fun k hk => by unfold Pb at hk ⊢; omega
  refine ⟨h.1, fun hn => ?_⟩
  obtain ⟨ad, e, hb, hc⟩ := h.2 hn
  refine ⟨ad, e, hp _ hb, fun j c hj => ?_⟩
  obtain ⟨h0, h1, D, dc, h2, h3, h4, h5⟩ := hc j c hj
  refine ⟨h0, h1, D, dc, h2, h3, h4, fun hd => ?_⟩
  obtain ⟨ad2, e2, hb2, hc2⟩ := h5 hd
  exact ⟨ad2, e2, hp _ hb2, hc2⟩
theorem fq_win {base T lo hi : Nat} {a w w' : World} (h0 : Below a.heap.size a w) (h : Fq base T lo hi w w') : Fq base T 0 0 a w' :=
  (Fq.of h0).trans h.shut
/-- What Open tells. -/
def OpP (base T k : Nat) (w : World) (s' : St) (E : Int) (e : Ending) (w' : World) : Prop :=
  ∃ v, e = .returned (.tuple #[v, .int .i64 E]) ∧ Rx base T 0 0 k w' s' ∧ Fq base T 0 0 w w' ∧ (E ≠ 0 → v = .pointer none) ∧ (E = 0 → ∃ S, v = ptr S ∧ Row w' S 77 [ptr T] ∧ w.heap.size ≤ S)
section
variable {base T k : Nat} {w w' : World} {s : St}
set_option maxHeartbeats 8000000 in
set_option maxRecDepth 100000 in
theorem open_any (h : Rx base T 0 0 k w s) {J : Nat} (h6 : k + J ≤ 890) (hj : ∀ b, rdF s nR = some b → b.length ≤ 1000000000 ∧ (parse b).1.length ≤ J) :
    Calls Try.prog 17 #[ptr T] w (OpP base T (k + J + 1) w (opS s) (opE s)) := by
  have H0 := Lib.hid h
  have KD := Lib.hid (downX h)
  have KR := Lib.hid (readX h (by omega) nR)
  have HJ := Lib.hid hj
  clear h hj
  unfold ptr at *
  cases hd : s.down with
  | true =>
    have HP := Lib.hid (show opE s = 5 ∧ opS s = s by unfold opE opS; rw [if_pos hd, if_pos hd]; exact ⟨rfl, rfl⟩)
    rw [hd] at KD
    clear hd
    go_enter Try.func17, Try.ntmps17
    go_wp2_with (go_at_call 38; go_loud (refine KD.out.mono ?_; rintro e w2 ⟨rfl, rfl⟩))
    refine bodyPost_ret (v := .tuple #[.pointer none, .int .i64 5]) (by simp [results, Try.results17, go_sem]) rfl ?_
    rw [HP.out.1, HP.out.2]
    exact ⟨_, rfl, H0.out.more (by omega), Fq.refl _, (fun _ => rfl), fun h => by cases h⟩
  | false =>
    rw [hd] at KD
    cases hr : rdF s nR with
    | none =>
      have HP := Lib.hid (show opE s = 0 ∧ opS s = s by unfold opE opS; rw [if_neg (by rw [hd]; decide), if_neg (by rw [hd]; decide), hr]; exact ⟨rfl, rfl⟩)
      rw [hr] at KR
      unfold RdPost nR at KR
      clear hd hr
      go_enter Try.func17, Try.ntmps17
      go_wp2_with (first
        | (go_at_call 38; go_loud (refine KD.out.mono ?_; rintro e w2 ⟨rfl, rfl⟩))
        | (go_at_call 39; go_loud (refine KR.out.mono ?_; rintro e w3 ⟨A3, m3, c3, rfl, _, _, hb3⟩; have B3 := Lib.hid hb3; clear hb3)))
      refine bodyPost_ret (v := .tuple #[ptr w3.heap.size, .int .i64 0]) (by simp [results, Try.results17, go_sem, ptr]) rfl ?_
      rw [HP.out.1, HP.out.2]
      have hb4 := B3.out.alloc B3.out.size (.cells #[.pointer (some { block := T, off := 0 })] 77)
      exact ⟨_, rfl, (H0.out.go hb4).more (by omega), Fq.of hb4, (fun h => absurd rfl h), fun _ => ⟨_, rfl, heap_alloc_new w3 _, B3.out.size⟩⟩
    | some b =>
      obtain ⟨hbl, hbj⟩ := HJ.out b hr
      have HPE := Lib.hid (show opE s = (if (parse b).2 ≠ 0 then (((parse b).2 : Nat) : Int) else finE s (parse b).1) ∧ opS s = (if (parse b).2 ≠ 0 then s else finS s (parse b).1) by
        have hnd : ¬ s.down = true := by rw [hd]; decide
        unfold opE opS; rw [if_neg hnd, if_neg hnd, hr]; exact ⟨rfl, rfl⟩)
      rw [hr] at KR
      unfold RdPost nR at KR
      obtain ⟨er, her⟩ : ∃ er, er = (parse b).2 := ⟨_, rfl⟩
      obtain ⟨l, hl⟩ : ∃ l, l = (parse b).1 := ⟨_, rfl⟩
      rw [← her, ← hl] at HPE
      rw [← hl] at hbj
      have HER := Lib.hid her
      have HLE := Lib.hid hl
      clear hd hr her hl
      go_enter Try.func17, Try.ntmps17
      go_upto_region 7 with (first
        | (go_at_call 38; go_loud (refine KD.out.mono ?_; rintro e w2 ⟨rfl, rfl⟩))
        | (go_at_call 39; go_loud (
           refine KR.out.mono ?_
           rintro e w3 ⟨A3, m3, c3, rfl, hby3, _, hb3⟩
           have B3 := Lib.hid hb3
           have hm3 : b.length = m3 := hby3.1
           have KP := Lib.hid (parse_any (cp := c3) hby3.at_ (Nat.le_refl _) (by rw [← hm3]; exact hbl))
           rw [show (some b).getD [] = b from rfl] at KP
           unfold PaPost at KP
           rw [← HER.out, ← HLE.out] at KP
           clear hb3 hby3 hm3)))
      have R3 := Lib.hid (H0.out.go B3.out)
      go_upto_region 8 with (go_at_call 11; go_loud (
         refine KP.out.mono ?_
         rintro e w4 ⟨A4, m4, c4, rfl, hc4, hl4, hb4⟩
         have R4 := Lib.hid (R3.out.win hb4)
         have L4 := Lib.hid (chs_base (base := base) hl4)
         have B4 := Lib.hid (B3.out.trans (hb4.mono B3.out.size))
         have HM4 := Lib.hid hl4.1
         clear hc4 hl4 hb4))
      clear KP KR KD
      by_cases hz : er = 0
      case neg =>
        have hzi : ((er : Int) != 0) = true := by simpa using (by omega : ¬ (er : Int) = 0)
        have HP := Lib.hid (show opE s = (er : Int) ∧ opS s = s by rw [HPE.out.1, HPE.out.2, if_pos hz, if_pos hz]; exact ⟨rfl, rfl⟩)
        have hz2 : (er : Int) ≠ 0 := by omega
        have HZ2 := Lib.hid hz2
        clear hz hz2
        go_wp2_with fail
        refine bodyPost_ret (v := .tuple #[.pointer none, .int .i64 (er : Int)]) (by simp [results, Try.results17, go_sem]) rfl ?_
        rw [HP.out.1, HP.out.2]
        exact ⟨_, rfl, (H0.out.go B4.out).more (by omega), Fq.of B4.out, (fun _ => rfl), fun h => absurd h HZ2.out⟩
      subst hz
      have HP := Lib.hid (show opE s = finE s l ∧ opS s = finS s l by rw [HPE.out.1, HPE.out.2]; simp)
      have hm4 : m4 ≤ J := by rw [← HM4.out]; exact hbj
      have KX := Lib.hid (fin_any (cp := c4) R4.out (by omega) L4.out)
      obtain ⟨e5, he5⟩ : ∃ e5, e5 = finE s l := ⟨_, rfl⟩
      obtain ⟨s5, hs5⟩ : ∃ s5, s5 = finS s l := ⟨_, rfl⟩
      rw [← he5, ← hs5] at KX HP
      unfold ptr at KX
      clear he5 hs5 HPE
      go_upto_region 11 with (go_at_call 40; go_loud (
         refine KX.out.mono ?_
         rintro e w5 ⟨rfl, h2, h3⟩
         have R5 := Lib.hid h2.shut
         have F5 := Lib.hid (fq_win B4.out h3)
         clear h2 h3))
      by_cases hz : e5 = 0
      case neg =>
        have hzi : (e5 != 0) = true := by simpa using hz
        have HZ2 := Lib.hid hz
        clear hz
        go_wp2_with fail
        refine bodyPost_ret (v := .tuple #[.pointer none, .int .i64 e5]) (by simp [results, Try.results17, go_sem]) rfl ?_
        rw [HP.out.1, HP.out.2]
        exact ⟨_, rfl, R5.out.more (by omega), F5.out, (fun _ => rfl), fun h => absurd h HZ2.out⟩
      subst hz
      go_wp2_with fail
      refine bodyPost_ret (v := .tuple #[ptr w5.heap.size, .int .i64 0]) (by simp [results, Try.results17, go_sem, ptr]) rfl ?_
      rw [HP.out.1, HP.out.2]
      have hb6 := below_alloc w5 (.cells #[.pointer (some { block := T, off := 0 })] 77)
      exact ⟨_, rfl, (R5.out.go hb6).more (by omega), F5.out.trans (Fq.of hb6), (fun h => absurd rfl h), fun _ => ⟨_, rfl, heap_alloc_new w5 _, F5.out.size⟩⟩
end
end Go.Proofs.Ytolkghdeppoanaa.SfP
