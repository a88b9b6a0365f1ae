/-
  Is a text among others? A change done; several, and the redo let go.
-/
import Derived.Test.YtolkghdeppoanaaSfK
import Derived.Test.YtolkghdeppoanaaShelf
import Derived.Lib.OwnBridge
import Derived.Deep.RegionHeld3
set_option linter.unusedVariables false
set_option linter.unusedSimpArgs false
namespace Go.Proofs.Ytolkghdeppoanaa.SfL
open Go.RowKit Go.Proofs.Ytolkghdeppoanaa.RkE Go.Proofs.Ytolkghdeppoanaa.RkP Go.Proofs.Ytolkghdeppoanaa.BxD Go.Proofs.Ytolkghdeppoanaa.BxKit Go.Proofs.Ytolkghdeppoanaa.RkO Go.Proofs.Ytolkghdeppoanaa.RkC Go.Proofs.Ytolkghdeppoanaa.RkD Go.Proofs.Ytolkghdeppoanaa.RkR Go.Proofs.Ytolkghdeppoanaa.RkK Go.Proofs.Ytolkghdeppoanaa.RkM Go.Proofs.Ytolkghdeppoanaa.RkN Go.Proofs.Ytolkghdeppoanaa.SfC Go.Proofs.Ytolkghdeppoanaa.SfD Go.Proofs.Ytolkghdeppoanaa.SfK

theorem has_any {w : World} {base n c : Nat} {A : Option Addr} {l : List ByteArray} (h : w.ownsRow base 9 1 (.slice A n c) n (l.map Value.string)) (hn : n ≤ 100000) (x : ByteArray) :
    Calls Try.prog 82 #[.slice A n c, .string x] w fun e w' => e = .returned (.bool (Lib.containsS l x)) ∧ w' = w := by
  have hl := h.1
  rw [List.length_map] at hl
  rcases h.2 with ⟨hv, rfl⟩ | ⟨g, cap, cur, hv, hb, hg, hnc, hm, hs, ht⟩
  · obtain rfl : l = [] := List.eq_nil_of_length_eq_zero (by omega)
    exact (Try.slices_Contains_string_empty A c x w).mono fun e w' ⟨h1, h2⟩ => ⟨h1, h2⟩
  · injection hv with e1 e2 e3
    subst e1
    have := Try.slices_Contains_string g 0 n c l x w (by omega) (by omega) (fun j hj => by
      have hx : l[j]? = some (l.getD j ByteArray.empty) := by rw [List.getD_eq_getElem?_getD, List.getElem?_eq_getElem hj]; rfl
      have := h.cells (g := g) rfl j (.string (l.getD j ByteArray.empty)) (by rw [List.getElem?_map, hx]; rfl)
      rw [add_new] at this
      rw [Nat.zero_add]
      exact this)
    refine this.mono fun e w' ⟨h1, h2⟩ => ⟨?_, h2⟩
    rw [h1, List.take_of_length_le (by omega)]
theorem hit_mem {n : ByteArray} {l : List F} (hs : SrtF l) : hitF n l = decide (n ∈ l.map (·.1)) := by
  cases h : hitF n l with
  | true =>
    obtain ⟨d, hv⟩ := (hit_iff ordS).1 h
    exact (decide_eq_true (List.mem_map.2 ⟨_, List.mem_of_getElem? hv, rfl⟩)).symm
  | false =>
    refine (decide_eq_false fun hm => ?_).symm
    obtain ⟨f, hf, rfl⟩ := List.mem_map.1 hm
    obtain ⟨j, hj⟩ := List.mem_iff_getElem?.1 hf
    have hlt := (List.getElem?_eq_some_iff.1 hj).1
    have e : lo cmpS f.1 l = j := by
      refine lo_eq cmpS f.1 l j (by omega) (fun i p hi hp => ?_) fun p hp => ?_
      · obtain ⟨h1, e1⟩ := List.getElem?_eq_some_iff.1 hp
        obtain ⟨h2, e2⟩ := List.getElem?_eq_some_iff.1 hj
        have := (List.pairwise_iff_getElem.1 hs) i j h1 h2 hi
        rw [e1, e2] at this
        exact this
      · rw [hj] at hp
        obtain rfl := Option.some.inj hp
        rw [ordS.refl]
        decide
    have : hitF f.1 l = true := by
      unfold hitF hit
      rw [e, hj]
      simp [ordS.refl]
    rw [h] at this
    cases this
theorem has_hit {n : ByteArray} {l : List F} (hs : SrtF l) : Lib.containsS (l.map (·.1)) n = hitF n l := by
  rw [hit_mem hs]
  cases h : Lib.containsS (l.map (·.1)) n with
  | true => exact (decide_eq_true ((Lib.containsS_iff _ _).1 h)).symm
  | false => exact (decide_eq_false fun hm => by rw [(Lib.containsS_iff _ _).2 hm] at h; cases h).symm
section
variable {base T lo hi k : Nat} {w : World} {s : St}
set_option maxHeartbeats 4000000 in
set_option maxRecDepth 100000 in
theorem do_any (h : Rx base T lo hi k w s) (h6 : k ≤ 900) {nm : ByteArray} {ct : Bool} {D : Option Addr} {dn dc : Nat} {d : List UInt8} (hD : byP w base lo hi D dn d) :
    Calls Try.prog 62 #[ptr T, .agg #[.string nm, .bool ct, .slice D dn dc]] w (RxP base T lo hi (k + 1) w (doS s ⟨nm, ct, d⟩) (.returned (.int .i64 (doE s ⟨nm, ct, d⟩)))) := by
  have R1 := Lib.hid (h.go (below_alloc w (.cells #[.string nm, .bool ct, .slice D dn dc] 42)))
  have HF1 := Lib.hid (Fq.of (base := base) (T := T) (lo := lo) (hi := hi) (below_alloc w (.cells #[.string nm, .bool ct, .slice D dn dc] 42)))
  have HD1 := Lib.hid (hD.keep (Kb.below (below_alloc w (.cells #[.string nm, .bool ct, .slice D dn dc] 42)) h.bs h.hs))
  have M0 := Lib.hid (show Row (w.alloc (.cells #[.string nm, .bool ct, .slice D dn dc] 42)) w.heap.size 42 [.string nm, .bool ct, .slice D dn dc] from heap_alloc_new w _)
  have hsrt := h.ok.files.srt
  have hfl := h.ok.files.len
  clear h hD
  unfold ptr
  go_enter Try.func62, Try.ntmps62
  go_upto_region 1 with fail
  obtain ⟨P, hP⟩ : ∃ P, P = w.heap.size := ⟨_, rfl⟩
  rw [← hP] at M0 ⊢
  clear hP
  generalize (World.alloc w _) = w1 at R1 HF1 HD1 M0 ⊢
  have m0 := M0.out.cell 0
  have m1 := M0.out.cell 1
  have m2 := M0.out.cell 2
  cases ct with
  | false =>
    have e1 : doE s ⟨nm, false, d⟩ = wrE s nm d := by unfold doE; rw [if_neg (by simp)]
    have e2 : doS s ⟨nm, false, d⟩ = wrS s nm d := by unfold doS; rw [if_neg (by simp)]
    have KW := Lib.hid (writeX (dc := dc) R1.out h6 nm (HD1.out.at_ R1.out.bs R1.out.hs) (Nat.le_refl _))
    rw [← e1, ← e2] at KW
    unfold ptr at KW
    clear e1 e2
    go_wp2_with (go_at_call 41; go_loud (refine KW.out.mono ?_; rintro e w2 ⟨rfl, h2, h3⟩; have R2 := Lib.hid h2; have F2 := Lib.hid (HF1.out.trans h3); clear h2 h3))
    go_ret
    exact ⟨rfl, R2.out, F2.out⟩
  | true =>
    have KN := Lib.hid (namesX (R1.out.go ((Below.refl _ _).drew)) (by omega))
    unfold NmPost ptr at KN
    have hnl : (s.files.map (·.1)).length = s.files.length := List.length_map _
    rw [hnl] at KN
    have HC := Lib.hid (has_hit (n := nm) hsrt)
    clear hnl
    go_upto_region 3 with fail
    go_region_held3 (fun wq => wq.cell? { block := P, off := 0 } = some (.string nm)) (with_reducible first | exact m0 | exact n0 | go_keep) (first
      | (go_at_call 51; go_loud (
         refine KN.out.mono ?_
         rintro e w2 ⟨A2, c2, rfl, h7, h8⟩
         have HB2 := Lib.hid (show Below w1.heap.size w1 w2 from (Below.drew (Below.refl w1.heap.size w1)).trans h8)
         have n0 := (M0.out.below HB2.out M0.out.lt).cell 0
         have KC := Lib.hid (has_any h7 (by omega) nm)
         rw [HC.out] at KC
         clear h7 h8
         dsimp only))
      | (go_at_call 82; go_loud (
         refine KC.out.mono ?_
         rintro e w3 ⟨rfl, rfl⟩
         dsimp only)))
    rename_i hHeld
    clear hHeld
    have R2 := Lib.hid (R1.out.go HB2.out)
    have HF2 := Lib.hid (HF1.out.trans (Fq.of HB2.out))
    have KX := Lib.hid (cutX R2.out h6 nm)
    cases hh : hitF nm s.files with
    | false =>
      have e1 : doE s ⟨nm, true, d⟩ = 0 := by unfold doE; rw [if_pos rfl, if_neg (by rw [hh]; decide)]
      have e2 : doS s ⟨nm, true, d⟩ = s := by unfold doS; rw [if_pos rfl, if_neg (by rw [hh]; decide)]
      have E1 := Lib.hid e1
      have E2 := Lib.hid e2
      clear e1 e2 hh
      go_wp2_with fail
      go_ret
      exact ⟨by rw [E1.out]; rfl, by rw [E2.out]; exact R2.out.more (Nat.le_succ k), HF2.out⟩
    | true =>
      have e1 : doE s ⟨nm, true, d⟩ = ctE s nm := by unfold doE; rw [if_pos rfl, if_pos hh]
      have e2 : doS s ⟨nm, true, d⟩ = ctS s nm := by unfold doS; rw [if_pos rfl, if_pos hh]
      rw [← e1, ← e2] at KX
      unfold ptr at KX
      clear e1 e2 hh
      go_wp2_with (go_at_call 63; go_loud (refine KX.out.mono ?_; rintro e w4 ⟨rfl, h2, h3⟩; have R4 := Lib.hid h2; have F4 := Lib.hid (HF2.out.trans h3); clear h2 h3))
      go_ret
      exact ⟨rfl, R4.out, F4.out⟩
set_option maxHeartbeats 4000000 in
set_option maxRecDepth 100000 in
theorem fin_any (h : Rx base T lo hi k w s) {n cp : Nat} {A : Option Addr} {l : List Ch} (h6 : k + n ≤ 899) (hL : ChsP w base lo hi A n l) :
    Calls Try.prog 40 #[ptr T, .slice A n cp] w (RxP base T lo hi (k + n + 1) w (finS s l) (.returned (.int .i64 (finE s l)))) := by
  have R0 := Lib.hid h
  have HL := Lib.hid hL
  have HLN := Lib.hid hL.1
  clear h hL
  unfold ptr
  go_enter Try.func40, Try.ntmps40
  go_wp2_with fail
  go_loopw [12] (fun s12 wr => ∃ j : Nat, j ≤ n ∧ s12 = .int .i64 j ∧ Hid (Rx base T lo hi (k + j) wr (dosS s (l.take j))) ∧ Hid (dosE s (l.take j) = 0) ∧ Hid (Fq base T lo hi w wr)) (fun s12 _ => n - (intOf s12).toNat)
  case atStart => exact ⟨0, Nat.zero_le _, rfl, R0, rfl, Fq.refl w⟩
  case round =>
    obtain ⟨j, hj, rfl, HR, HE, HF⟩ := hrel
    by_cases hlt : j < n
    · obtain ⟨ad, x, b, K, kd, kc, rfl, hg, d0, d1, d2, hle, hby, _⟩ := HL.out.sp (HF.out.kb R0.out.bs R0.out.hs) (j := j) hlt
      obtain ⟨hl1, hg1⟩ := List.getElem?_eq_some_iff.1 hg
      have ht : l.take (j + 1) = l.take j ++ [⟨x, b, kd⟩] := by rw [List.take_succ_eq_append_getElem hl1, hg1]
      obtain ⟨q1, q2⟩ := dosS_snoc (c := ⟨x, b, kd⟩) HE.out
      rw [← ht] at q1 q2
      have KD := Lib.hid (do_any (dc := kc) (nm := x) (ct := b) (HR.out.go (below_alloc wr (.cells #[.string x, .bool b, .slice K kd.length kc] 42))) (by omega) (hby.keep (Kb.below (below_alloc wr (.cells #[.string x, .bool b, .slice K kd.length kc] 42)) HR.out.bs HR.out.hs)))
      rw [← q1, ← q2] at KD
      obtain ⟨E, hE⟩ : ∃ E, E = dosE s (l.take (j + 1)) := ⟨_, rfl⟩
      obtain ⟨S2, hS2⟩ : ∃ S2, S2 = dosS s (l.take (j + 1)) := ⟨_, rfl⟩
      rw [← hE, ← hS2] at KD
      have HE2 := Lib.hid hE
      have HS2 := Lib.hid hS2
      obtain ⟨m, hm⟩ : ∃ m, m = kd.length := ⟨_, rfl⟩
      rw [← hm] at d2 KD
      unfold ptr at KD
      clear hg hl1 hg1 ht q1 q2 hE hS2 hm hle hby
      by_cases hz : E = 0
      · subst hz
        go_wp2_with (go_at_call 62; go_loud (refine KD.out.mono ?_; rintro e w2 ⟨rfl, h2, h3⟩; have R2 := Lib.hid h2; have F2 := Lib.hid (HF.out.trans ((Fq.of (below_alloc wr _)).trans h3)); clear h2 h3))
        go_roundw
        case measure => simp [intOf]; omega
        case rel => exact ⟨j + 1, by omega, by go_num, by rw [← HS2.out]; exact R2, HE2.out.symm, F2⟩
      · have hzi : (E != 0) = true := by simpa using hz
        have hst := dosS_stop (m := l.drop (j + 1)) (s := s) (l := l.take (j + 1)) (by rw [← HE2.out]; exact hz)
        rw [List.take_append_drop, ← HE2.out, ← HS2.out] at hst
        have HP := Lib.hid (show E = finE s l ∧ S2 = finS s l by
          unfold finE finS
          rw [hst.1, if_pos hz, if_pos hz, hst.2]
          exact ⟨rfl, rfl⟩)
        clear hz hst
        go_wp2_with (go_at_call 62; go_loud (refine KD.out.mono ?_; rintro e w2 ⟨rfl, h2, h3⟩; have R2 := Lib.hid h2; have F2 := Lib.hid (HF.out.trans ((Fq.of (below_alloc wr _)).trans h3)); clear h2 h3))
        go_ret
        rw [← HP.out.1, ← HP.out.2]
        exact ⟨rfl, R2.out.more (by omega), F2.out⟩
    · obtain rfl : n = j := by omega
      have he := HE.out
      have hr := HR.out
      rw [List.take_of_length_le (by rw [HLN.out]; exact Nat.le_refl _)] at he hr
      have hfe : finE s l = endE (dosS s l) := by unfold finE; rw [he]; rfl
      have hfs : finS s l = endS (dosS s l) := by unfold finS; rw [he]; rfl
      obtain ⟨S1, hS1⟩ : ∃ S1, S1 = dosS s l := ⟨_, rfl⟩
      rw [← hS1] at hr hfe hfs
      have R1 := Lib.hid hr
      have HFE := Lib.hid hfe
      have HFS := Lib.hid hfs
      have K1 := Lib.hid (flushX R1.out)
      obtain ⟨S2, hS2⟩ : ∃ S2, S2 = flS S1 := ⟨_, rfl⟩
      obtain ⟨e1, he1⟩ : ∃ e1, e1 = flE S1 := ⟨_, rfl⟩
      rw [← hS2, ← he1] at K1
      have HS2 := Lib.hid hS2
      have HE1 := Lib.hid he1
      unfold ptr at K1
      clear he hr hfe hfs hS1 hS2 he1 HR HE
      by_cases hz1 : e1 = 0
      · subst hz1
        go_upto_region 11 with (go_at_call 42; go_loud (refine K1.out.mono ?_; rintro e w2 ⟨rfl, h2, h3⟩; have R2 := Lib.hid h2; have F2 := Lib.hid (HF.out.trans h3); clear h2 h3))
        have K2 := Lib.hid (cutX R2.out (by omega) nR)
        obtain ⟨S3, hS3⟩ : ∃ S3, S3 = ctS S2 nR := ⟨_, rfl⟩
        obtain ⟨e2, he2⟩ : ∃ e2, e2 = ctE S2 nR := ⟨_, rfl⟩
        rw [← hS3, ← he2] at K2
        have HS3 := Lib.hid hS3
        have HE2 := Lib.hid he2
        unfold ptr nR at K2
        clear hS3 he2
        by_cases hz2 : e2 = 0
        · subst hz2
          have HP := Lib.hid (show finE s l = flE S3 ∧ finS s l = flS S3 by
            rw [HFE.out, HFS.out]
            unfold endE endS
            rw [← HE1.out, ← HS2.out, ← HE2.out, ← HS3.out]
            exact ⟨rfl, rfl⟩)
          go_upto_region 14 with (go_at_call 63; go_loud (refine K2.out.mono ?_; rintro e w3 ⟨rfl, h2, h3⟩; have R3 := Lib.hid h2; have F3 := Lib.hid (F2.out.trans h3); clear h2 h3))
          have K3 := Lib.hid (flushX R3.out)
          unfold ptr at K3
          go_wp2_with (go_at_call 42; go_loud (refine K3.out.mono ?_; rintro e w4 ⟨rfl, h2, h3⟩; have R4 := Lib.hid h2; have F4 := Lib.hid (F3.out.trans h3); clear h2 h3))
          go_ret
          rw [HP.out.1, HP.out.2]
          exact ⟨rfl, R4.out, F4.out⟩
        · have hzi : (e2 != 0) = true := by simpa using hz2
          have HP := Lib.hid (show finE s l = e2 ∧ finS s l = S3 by
            rw [HFE.out, HFS.out]
            unfold endE endS
            rw [← HE1.out, ← HS2.out, ← HE2.out, ← HS3.out]
            simp [hz2])
          clear hz2
          go_wp2_with (go_at_call 63; go_loud (refine K2.out.mono ?_; rintro e w3 ⟨rfl, h2, h3⟩; have R3 := Lib.hid h2; have F3 := Lib.hid (F2.out.trans h3); clear h2 h3))
          go_ret
          rw [HP.out.1, HP.out.2]
          exact ⟨rfl, R3.out, F3.out⟩
      · have hzi : (e1 != 0) = true := by simpa using hz1
        have HP := Lib.hid (show finE s l = e1 ∧ finS s l = S2 by
          rw [HFE.out, HFS.out]
          unfold endE endS
          rw [← HE1.out, ← HS2.out, if_pos hz1, if_pos hz1]
          exact ⟨rfl, rfl⟩)
        clear hz1
        go_wp2_with (go_at_call 42; go_loud (refine K1.out.mono ?_; rintro e w2 ⟨rfl, h2, h3⟩; have R2 := Lib.hid h2; have F2 := Lib.hid (HF.out.trans h3); clear h2 h3))
        go_ret
        rw [HP.out.1, HP.out.2]
        exact ⟨rfl, R2.out.more (by omega), F2.out⟩
end
end Go.Proofs.Ytolkghdeppoanaa.SfL
