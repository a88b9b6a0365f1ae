/-
  SafeBytes: changes are read as they were written, one behind the other.
-/
import Derived.Test.YtolkghdeppoanaaSwL
import Derived.Test.YtolkghdeppoanaaSwS
import Derived.Test.YtolkghdeppoanaaSwA
import Derived.Test.YtolkghdeppoanaaSwR
set_option linter.unusedVariables false
set_option linter.unusedSimpArgs false
namespace Go.Proofs.Ytolkghdeppoanaa.SwB
open Go.RowKit Go.Proofs.Ytolkghdeppoanaa.PkA Go.Proofs.Ytolkghdeppoanaa.BxD Go.Proofs.Ytolkghdeppoanaa.BxKit Go.Proofs.Ytolkghdeppoanaa.PkKit Go.Proofs.Ytolkghdeppoanaa.RkO Go.Proofs.Ytolkghdeppoanaa.RkC Go.Proofs.Ytolkghdeppoanaa.RkD Go.Proofs.Ytolkghdeppoanaa.RkR Go.Proofs.Ytolkghdeppoanaa.RkK Go.Proofs.Ytolkghdeppoanaa.RkP Go.Proofs.Ytolkghdeppoanaa.RkM Go.Proofs.Ytolkghdeppoanaa.RkS Go.Proofs.Ytolkghdeppoanaa.SfM Go.Proofs.Ytolkghdeppoanaa.SfB Go.Proofs.Ytolkghdeppoanaa.SfC Go.Proofs.Ytolkghdeppoanaa.SfE Go.Proofs.Ytolkghdeppoanaa.SfF Go.Proofs.Ytolkghdeppoanaa.SwL Go.Proofs.Ytolkghdeppoanaa.SwS Go.Proofs.Ytolkghdeppoanaa.SwA Go.Proofs.Ytolkghdeppoanaa.SwR

theorem bare_id {c : Ch} (h : ¬ (c.cut = true ∧ 0 < c.data.length)) : bare c = c := by
  obtain ⟨nm, ct, d⟩ := c
  cases ct with
  | false => rfl
  | true =>
    simp at h
    subst h
    rfl
theorem parse_id {l : List Ch} (h : ∀ c ∈ l, c.name.size ≤ 24 ∧ c.data.length ≤ 200000 ∧ ¬ (c.cut = true ∧ 0 < c.data.length)) : parse (bsL l) = (l, 0) := by
  rw [parse_bytes fun c hc => ⟨(h c hc).1, fun _ => (h c hc).2.1⟩]
  congr 1
  exact (List.map_congr_left fun c hc => bare_id (h c hc).2.2).trans (List.map_id l)
set_option maxHeartbeats 8000000 in
set_option maxRecDepth 100000 in
theorem walk {w : World} {LA MA : Option Addr} {n m lc mc : Nat} {l ml : List Ch} (hl : Arg w w.heap.size LA n l) (hm : Arg w w.heap.size MA m ml) :
    Calls Try.prog 7 #[.slice LA n lc, .slice MA m mc] w fun e w' => e = .returned (.bool true) ∧ Below w.heap.size w w' := by
  have HL := Lib.hid hl
  have HM := Lib.hid hm
  have KA := Lib.hid (fun wx => awake wx)
  have KH := Lib.hid (heavy_any (c := lc) hl (Nat.le_refl _))
  have KH2 := Lib.hid (fun (wx : World) (hb : Below w.heap.size w wx) => heavy_any (c := mc) (hm.keep hb) hb.size)
  unfold HvPost at KH KH2
  clear hl hm
  go_enter Try.func7, Try.ntmps7
  go_upto_region 1 with fail
  go_cut [14] (fun s14 wx => ∃ b : Bool, s14 = .bool b ∧ Hid (b = false → Lt l ∧ Lt ml) ∧ Hid (Below w.heap.size w wx))
  case first =>
    go_wp2_with (first
      | (go_at_call 9; go_loud (refine (KH2.out _ HB.out).mono ?_; rintro e w3 ⟨h2, rfl, g1, g2, g3, hb2⟩; have HB3 := Lib.hid (HB.out.trans (hb2.mono HB.out.size)); have HT3 := Lib.hid g3; clear hb2 g3))
      | (go_at_call 9; go_loud (refine KH.out.mono ?_; rintro e w2 ⟨h, rfl, h1, h2', h3, hb⟩; have HB := Lib.hid hb; have HT := Lib.hid h3; clear hb h3)))
    go_meet
    exact ⟨decide (0 < h + h2), rfl, fun hb => by
      have := of_decide_eq_false hb
      exact ⟨HT.out (by omega), HT3.out (by omega)⟩, HB3⟩
  case rest =>
    obtain ⟨b, rfl, HLT, HB⟩ := hcut
    clear KH KH2
    cases b with
    | true =>
      go_wp2_with (go_at_call 10; go_loud (refine (KA.out _).mono ?_; rintro e w3 ⟨rfl, hb⟩))
      go_ret
      exact ⟨rfl, HB.out.trans (hb.mono HB.out.size)⟩
    | false =>
      obtain ⟨hl1, hl2⟩ := HLT.out rfl
      have hn : n ≤ 60 := by rw [← HL.out.chs.1]; exact hl1.1
      have hm : m ≤ 60 := by rw [← HM.out.chs.1]; exact hl2.1
      have SZ1 := Lib.hid hl1.szC
      have SZ2 := Lib.hid hl2.szC
      have A0 := Lib.hid (HL.out.keep HB.out)
      have M0 := Lib.hid (HM.out.keep HB.out)
      have hbs := HB.out.size
      clear HLT hl1 hl2
      obtain ⟨rs, hrs1, hrs2, hrs3⟩ := chs_src A0.out.chs
      obtain ⟨ms, hms1, hms2, hms3⟩ := chs_src M0.out.chs
      have S1 := Lib.hid hrs2
      have S2 := Lib.hid hms2
      have E1 := Lib.hid hrs1
      have E2 := Lib.hid hms1
      have D1 := Lib.hid hrs3
      have D2 := Lib.hid hms3
      clear hrs1 hrs2 hrs3 hms1 hms2 hms3
      go_upto_region 3 with fail
      go_upto_region 4 with (first
        | (at_builtin; go_loud (
           refine wpList_rows elC rfl _ _ rfl rfl rfl HO1.out (src_keep S2.out X1.out) (by unfold maxLen; omega) (by omega) X1.out.size ?_
           intro v2 w2 hown2 hg2 _
           have X2 := Lib.hid (Below.grown X1.out hg2 X1.out.size (fun k e => (HO1.out.lt k e).1))
           obtain ⟨A2, c2, rfl, hc2⟩ := RkR.own_slice hown2
           have HO2 := Lib.hid hown2
           clear hown2 hg2))
        | (at_builtin; go_loud (
           refine wpList_rows elC (base := wc.heap.size) rfl _ _ rfl rfl rfl (own_empty (heap_alloc_new wc _) (Nat.le_refl _)) (src_keep S1.out (below_alloc wc _)) (by unfold maxLen; omega) (by omega) (below_alloc wc _).size ?_
           intro v1 w1 hown1 hg1 _
           have X1 := Lib.hid (Below.grown (below_alloc wc _) hg1 (below_alloc wc _).size (fun k e => by have := Option.some.inj e; dsimp only at this; omega))
           have HO1 := Lib.hid hown1
           clear hown1 hg1)))
      have e0 : 0 + n + m = n + m := by omega
      have HC2 := Lib.hid (show ChsP w2 w2.heap.size 0 0 A2 (n + m) (l ++ ml) from by
        have h := HO2.out
        rw [List.nil_append, ← cc_append, e0] at h
        have h2 := chs_own (base := w2.heap.size) (lo := 0) (hi := 0) h (fun r hr => by
          have hup : Dr wc w.heap.size 0 0 r := by
            rcases List.mem_append.1 hr with hr | hr
            · exact D1.out r hr
            · exact D2.out r hr
          exact (hup.keep (Kb.below X2.out hbs (Nat.zero_le _))).up (fun k hk => pb_up (Nat.le_trans hbs X2.out.size) hk)) (fun g _ hg => .inl hg)
        rw [List.map_append, E1.out, E2.out] at h2
        exact h2)
      clear e0
      have HW2 := Lib.hid (HB.out.trans (X2.out.mono hbs))
      clear hc2 HO2 HO1
      go_loopw [22] (fun s22 wr => ∃ k : Nat, k ≤ n + m ∧ s22 = .int .i64 k ∧ Hid (∀ (j : Nat) (c : Ch), j < k → (l ++ ml)[j]? = some c → c.name.size ≤ 24 ∧ c.data.length ≤ 200000 ∧ ¬ (c.cut = true ∧ 0 < c.data.length)) ∧ Hid (Below w2.heap.size w2 wr)) (fun s22 _ => n + m - (intOf s22).toNat)
      case atStart => exact ⟨0, Nat.zero_le _, rfl, fun j c h => absurd h (Nat.not_lt_zero j), Below.refl _ _⟩
      case round =>
        obtain ⟨k, hk, rfl, HG, HY⟩ := hrel
        by_cases hlt : k < n + m
        · obtain ⟨ad, x, ct, K, kd, kc, rfl, hx, d0, d1, d2, hle, hby, hpb⟩ := HC2.out.sp (Kb.below HY.out (Nat.le_refl _) (Nat.zero_le _)) hlt
          have HYA := Lib.hid (HY.out.trans ((below_alloc wr (.cells #[.string x, .bool ct, .slice K kd.length kc] 42)).mono HY.out.size))
          have HX := Lib.hid hx
          obtain ⟨q, hq⟩ : ∃ q, q = kd.length := ⟨_, rfl⟩
          rw [← hq] at d2 HYA
          have HQ := Lib.hid hq
          have hki : (k : Int) < ((n + m : Nat) : Int) := by omega
          have hk0 : (0 : Int) ≤ (k : Int) := by omega
          clear hx hby hle hpb hq
          by_cases hbad : 24 < x.size ∨ 200000 < q ∨ (ct = true ∧ 0 < q)
          · have hB := Lib.hid (up (HB.out.trans (X2.out.mono hbs)) (Nat.le_refl _) HYA.out)
            by_cases b1 : 24 < x.size
            · have i1 : (24 : Int) < (x.size : Int) := by omega
              go_wp2_with (go_at_call 10; go_loud (refine (KA.out _).mono ?_; rintro e w4 ⟨rfl, hb⟩; have B4 := Lib.hid (hB.out.trans (hb.mono hB.out.size)); clear hb))
              go_ret
              exact ⟨rfl, B4.out⟩
            · have i1 : ¬ (24 : Int) < (x.size : Int) := by omega
              by_cases b2 : 200000 < q
              · have i2 : (200000 : Int) < (q : Int) := by omega
                go_wp2_with (go_at_call 10; go_loud (refine (KA.out _).mono ?_; rintro e w4 ⟨rfl, hb⟩; have B4 := Lib.hid (hB.out.trans (hb.mono hB.out.size)); clear hb))
                go_ret
                exact ⟨rfl, B4.out⟩
              · have i2 : ¬ (200000 : Int) < (q : Int) := by omega
                obtain ⟨b3, b4⟩ : ct = true ∧ 0 < q := by
                  rcases hbad with h | h | h
                  · exact absurd h b1
                  · exact absurd h b2
                  · exact h
                subst b3
                have i4 : (0 : Int) < (q : Int) := by omega
                clear hbad
                go_wp2_with (go_at_call 10; go_loud (refine (KA.out _).mono ?_; rintro e w4 ⟨rfl, hb⟩; have B4 := Lib.hid (hB.out.trans (hb.mono hB.out.size)); clear hb))
                go_ret
                exact ⟨rfl, B4.out⟩
          · have HG2 : Hid (∀ (j : Nat) (c : Ch), j < k + 1 → (l ++ ml)[j]? = some c → c.name.size ≤ 24 ∧ c.data.length ≤ 200000 ∧ ¬ (c.cut = true ∧ 0 < c.data.length)) := by
              intro j c hj hc
              rcases Nat.lt_or_ge j k with h | h
              · exact HG.out j c h hc
              · obtain rfl : j = k := by omega
                have hx := HX.out
                rw [hc] at hx
                obtain rfl := Option.some.inj hx
                have := HQ.out
                refine ⟨by show x.size ≤ 24; omega, by show kd.length ≤ 200000; omega, fun h => hbad (.inr (.inr ⟨h.1, by have h2 : 0 < kd.length := h.2; omega⟩))⟩
            have i1 : ¬ (24 : Int) < (x.size : Int) := by omega
            have i2 : ¬ (200000 : Int) < (q : Int) := by omega
            cases ct with
            | true =>
              have i3 : ¬ (0 : Int) < (q : Int) := by have : ¬ 0 < q := fun h => hbad (.inr (.inr ⟨rfl, h⟩)); omega
              clear hbad
              go_wp2_with fail
              go_roundw
              case measure => simp [intOf]; omega
              case rel => exact ⟨k + 1, by omega, by go_num, HG2, HYA⟩
            | false =>
              clear hbad
              go_wp2_with fail
              go_roundw
              case measure => simp [intOf]; omega
              case rel => exact ⟨k + 1, by omega, by go_num, HG2, HYA⟩
        · obtain rfl : k = n + m := by omega
          have HPI := Lib.hid (parse_id (l := l ++ ml) (fun c hc => by
            obtain ⟨j, hj⟩ := List.mem_iff_getElem?.1 hc
            have hjl := (List.getElem?_eq_some_iff.1 hj).1
            have hll := HC2.out.1
            exact HG.out j c (by omega) hj))
          have HWR := Lib.hid (up HW2.out (by have := HB.out.size; omega) HY.out)
          clear HG
          go_upto_region 9 with fail
          have BW0 := Lib.hid (up HWR.out (Nat.le_refl _) (below_alloc wr (.cells #[] 5)))
          have KB1 := Lib.hid (bytes_any (cp := lc) (HL.out.keep BW0.out).chs BW0.out.size (Nat.zero_le _) (by omega) SZ1.out)
          have KB2 := Lib.hid (fun (wx : World) (hb : Below w.heap.size w wx) => bytes_any (cp := mc) (HM.out.keep hb).chs hb.size (Nat.zero_le _) (by omega) SZ2.out)
          have hq1 := SfO.bsL_len SZ1.out
          have hq2 := SfO.bsL_len SZ2.out
          rw [HL.out.chs.1] at hq1
          rw [HM.out.chs.1] at hq2
          unfold BsPost at KB1 KB2
          obtain ⟨q1, hq1e⟩ : ∃ q, q = (bsL l).length := ⟨_, rfl⟩
          obtain ⟨q2, hq2e⟩ : ∃ q, q = (bsL ml).length := ⟨_, rfl⟩
          rw [← hq1e] at KB1 hq1
          rw [← hq2e] at KB2 hq2
          have HQ1 := Lib.hid hq1e
          have HQ2 := Lib.hid hq2e
          have eq0 : 0 + q1 + q2 = q1 + q2 := by omega
          have E0 := Lib.hid eq0
          clear hq1e hq2e eq0
          go_upto_region 10 with (first
            | (go_at_call 11; go_loud (
               refine KP.out.mono ?_
               rintro e w7 ⟨A7, m7, c7, rfl, hc7, hl7, hb7⟩
               have L7 := Lib.hid hl7
               have B7 := Lib.hid (up (up HWR.out (Nat.le_refl _) B6.out) (Nat.le_refl _) hb7)
               have hm7 := hl7.1
               have B67 := Lib.hid hb7
               clear hc7 hl7 hb7))
            | (at_builtin; go_loud (
               refine wpList_rows elB rfl _ _ rfl rfl rfl O5.out (by_src Y5.out) (by unfold maxLen; omega) (by omega) B5.out.size ?_
               intro v6 w6 hown6 hg6 _
               have B6 := Lib.hid (Below.grown B5.out hg6 B5.out.size (fun k e => (O5.out.lt k e).1))
               obtain ⟨A6, c6, rfl, _⟩ := RkR.own_slice hown6
               have KP := Lib.hid (parse_any (cp := c6) (l := bsL l ++ bsL ml) (show BytesAt w6 w6.heap.size A6 (q1 + q2) (bsL l ++ bsL ml) from by
                 have h := hown6
                 rw [List.nil_append, ← by_append, E0.out] at h
                 exact Ow.bytes (.inl h)) (Nat.le_refl _) (by omega))
               unfold PaPost at KP
               rw [← bsL_append, HPI.out] at KP
               dsimp only at KP
               clear hown6 hg6))
            | (go_at_call 13; go_loud (
               refine (KB2.out _ (up HWR.out (Nat.le_refl _) B4.out)).mono ?_
               rintro e w5 ⟨A5, c5, rfl, _, ho5, hb5⟩
               have Y5 := Lib.hid ho5.bytes
               have O5 := Lib.hid (own_go O4.out hb5)
               have B5 := Lib.hid (B4.out.trans (hb5.mono B4.out.size))
               clear ho5 hb5))
            | (at_builtin; go_loud (
               refine wpList_rows elB rfl _ _ rfl rfl rfl O3.out (by_src Y3.out) (by unfold maxLen; omega) (by omega) B3.out.size ?_
               intro v4 w4 hown4 hg4 _
               have B4 := Lib.hid (Below.grown B3.out hg4 B3.out.size (fun k e => (O3.out.lt k e).1))
               have O4 := Lib.hid hown4
               clear hown4 hg4))
            | (go_at_call 13; go_loud (
               refine KB1.out.mono ?_
               rintro e w3 ⟨A3, c3, rfl, _, ho3, hb3⟩
               have Y3 := Lib.hid ho3.bytes
               have O3 := Lib.hid (own_go (own_empty (t := 5) (sz := 1) (heap_alloc_new wr _) (Nat.le_refl _)) hb3)
               have B3 := Lib.hid ((below_alloc wr (.cells #[] 5)).trans (hb3.mono (below_alloc wr _).size))
               clear ho3 hb3)))
          clear KB1 KB2 KP O3 O4 O5 Y3 Y5
          have HWX := Lib.hid (show Below wc.heap.size wc w7 from up (up X2.out (Nat.le_refl _) HY.out) (Nat.le_refl _) (up B6.out (Nat.le_refl _) (show Below w6.heap.size w6 w7 from B67.out)))
          go_wp2_with (first
            | (at_builtin; go_loud (
               refine wpList_rows_w elC rfl _ _ rfl rfl rfl HO9.out (src_keep S2.out (HWX.out.trans (X9.out.mono HWX.out.size))) (by unfold maxLen; omega) (by omega) X9.out.size ?_
               intro v10 w10 hown10 hg10 _
               have X10 := Lib.hid (Below.grown X9.out hg10 X9.out.size (fun k e => (HO9.out.lt k e).1))
               obtain ⟨A10, c10, rfl, hc10⟩ := RkR.own_slice hown10
               have C10 := Lib.hid (show ChsP w10 w10.heap.size 0 0 A10 (n + m) (l ++ ml) from by
                 have h := hown10
                 rw [List.nil_append, ← cc_append, show 0 + n + m = n + m by omega] at h
                 have h2 := chs_own (base := w10.heap.size) (lo := 0) (hi := 0) h (fun r hr => by
                   have hup : Dr wc w.heap.size 0 0 r := by
                     rcases List.mem_append.1 hr with hr | hr
                     · exact D1.out r hr
                     · exact D2.out r hr
                   have hx := HWX.out.trans (X10.out.mono HWX.out.size)
                   exact (hup.keep (Kb.below hx hbs (Nat.zero_le _))).up (fun k hk => pb_up (Nat.le_trans hbs hx.size) hk)) (fun g _ hg => .inl hg)
                 rw [List.map_append, E1.out, E2.out] at h2
                 exact h2)
               have hll := HC2.out.1
               have KE := Lib.hid (same_changes (c1 := c7) (c2 := c10) (L7.out.keep (Kb.below X10.out (Nat.zero_le _) (Nat.le_refl _))) C10.out (Nat.zero_le _) X10.out.size (Nat.le_refl _) (Nat.zero_le _) (by omega) (by omega))
               rw [show decide (l ++ ml = l ++ ml) = true from decide_eq_true rfl] at KE
               clear hown10 hg10 hll))
            | (go_at_call 15; go_loud (refine KE.out.mono ?_; rintro e w11 ⟨rfl, h3⟩; have B11 := Lib.hid (up (B7.out.trans (X10.out.mono B7.out.size)) (Nat.le_refl _) h3); clear h3))
            | (go_at_call 10; go_loud (refine (KA.out _).mono ?_; rintro e w12 ⟨rfl, hb⟩; have B12 := Lib.hid (up B11.out (Nat.le_refl _) hb); clear hb))
            | (at_builtin; go_loud (
               refine wpList_rows_w elC (base := w7.heap.size) rfl _ _ rfl rfl rfl (own_empty (heap_alloc_new w7 _) (Nat.le_refl _)) (src_keep S1.out (HWX.out.trans ((below_alloc w7 _).mono HWX.out.size))) (by unfold maxLen; omega) (by omega) (below_alloc w7 _).size ?_
               intro v9 w9 hown9 hg9 _
               have X9 := Lib.hid (Below.grown (below_alloc w7 _) hg9 (below_alloc w7 _).size (fun k e => by have := Option.some.inj e; dsimp only at this; omega))
               have HO9 := Lib.hid hown9
               clear hown9 hg9)))
          go_ret
          exact ⟨rfl, B12.out⟩
end Go.Proofs.Ytolkghdeppoanaa.SwB
