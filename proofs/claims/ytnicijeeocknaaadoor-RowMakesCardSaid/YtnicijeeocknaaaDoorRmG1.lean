/-
  The document's Flags.
-/
import Derived.Test.YtnicijeeocknaaaDoorRmF
import Derived.Test.YtnicijeeocknaaaDoorL4
set_option linter.unusedVariables false
set_option linter.unusedSimpArgs false
namespace Go.Proofs.YtnicijeeocknaaaDoor.RmG1
open Go.RowKit Go.Proofs.YtnicijeeocknaaaDoor.BxD Go.Proofs.YtnicijeeocknaaaDoor.BxKit Go.Proofs.YtnicijeeocknaaaDoor.BxA Go.Proofs.YtnicijeeocknaaaDoor.BxB Go.Proofs.YtnicijeeocknaaaDoor.BxM Go.Proofs.YtnicijeeocknaaaDoor.BxF Go.Proofs.YtnicijeeocknaaaDoor.BxR Go.Proofs.YtnicijeeocknaaaDoor.BxC Go.Proofs.YtnicijeeocknaaaDoor.RwD Go.Proofs.YtnicijeeocknaaaDoor.RwM Go.Proofs.YtnicijeeocknaaaDoor.RwF Go.Proofs.YtnicijeeocknaaaDoor.RwKit Go.Proofs.YtnicijeeocknaaaDoor.RwRo Go.Proofs.YtnicijeeocknaaaDoor.RwW17 Go.Proofs.YtnicijeeocknaaaDoor.RmD Go.Proofs.YtnicijeeocknaaaDoor.RmA Go.Proofs.YtnicijeeocknaaaDoor.RmB Go.Proofs.YtnicijeeocknaaaDoor.RmC Go.Proofs.YtnicijeeocknaaaDoor.RmF

theorem ints_move {w w4 wr : World} {B n : Nat} {K : Option Addr} {l : List Int} (h : IntsAt w4 B K n l) (b1 : Below B w w4) (b2 : Below B w wr) : IntsAt wr B K n l := IntsAt.keep h (Nat.le_refl _) fun p hp => (b2.cell hp).trans (b1.cell hp).symm
set_option maxHeartbeats 8000000 in
set_option maxRecDepth 100000 in
theorem refFl_1 {w : World} {b : Box} {u flags : Int} {words : List ByteArray} {WA MA A : Option Addr} {wn wc mn mcp n cp B : Nat} (hx : StrsAt w B WA wn b.words) (hm : MsgsAt w B MA mn b.msgs) (hwc : wn ≤ wc) (hB : B ≤ w.heap.size) (hz : StrsAt w B A n words) (hn : n ≤ cp) (h0 : mbE b = 0) (hw : wordsB words = true) (hfew : words.length ≤ 100000) (g1 : 0 ≤ flags) (g2 : flags ≤ 31) :
    Calls Tryd.prog 10 #[.agg #[.string b.id, .int .i64 b.valid, .int .i64 b.next, .int .i64 b.high, .slice WA wn wc, .slice MA mn mcp], .int .i64 u, .int .i64 flags, .slice A n cp, .int .i64 1] w (RowsOut (flP b u flags words 1) (flE b u flags words 1) w) := by
  have hn1 : n ≤ 100000 := by rw [← hz.len]; exact hfew
  have hmb := (mb_iff b).1 h0
  obtain ⟨_, hid12, _, hh, hnx1, hnx2⟩ := head_parts hmb.1
  have hwn : wn ≤ 64 := by rw [← hx.len]; exact hmb.2.1
  have HMB := Lib.hid hmb.2.2.2.2.1
  have HRI := Lib.hid hmb.2.2.2.2.2
  have HWD := Lib.hid (nodup_of hw)
  have HBD := Lib.hid (nodup_of hmb.2.2.2.1)
  have A0 := Lib.hid (After.start w (.cells #[.string b.id, .int .i64 b.valid, .int .i64 b.next, .int .i64 b.high, .slice WA wn wc, .slice MA mn mcp] 25))
  have hbl := A0.out.below
  have km := ref_may (bid := b.id) (bv := b.valid) (bn := b.next) (bh := b.high) (mc := mcp) (StrsAt.below hx hbl hB) (MsgsAt.below hm hbl hB) (by simp; omega) hwc
  rw [show mbE ⟨b.id, b.valid, b.next, b.high, b.words, b.msgs⟩ = 0 from h0] at km
  have KM := Lib.hid km
  have HZ := Lib.hid hz
  have HX := Lib.hid hx
  have HM := Lib.hid hm
  have HWB := Lib.hid hw
  obtain ⟨R, hR⟩ : ∃ R, R = flP b u flags words 1 := ⟨_, rfl⟩
  obtain ⟨E, hE⟩ : ∃ E, E = flE b u flags words 1 := ⟨_, rfl⟩
  have HR := Lib.hid (show R = if E = 0 then flL b u flags words 1 else [] by rw [hR, hE]; rfl)
  have HGD := Lib.hid (show E = match theM b.msgs u with
    | Option.none => 6
    | some m => if flSame b m flags words 1 then 0 else if 64 < (flAll b words 1).length then 4 else if 1000000 ≤ b.high then 9 else 0 by
    rw [hE]
    unfold flE
    rw [if_neg (by rw [h0, hw]; simp only [ne_eq, not_true_eq_false, false_or, Bool.true_eq_false, not_or, Bool.not_eq_false]; exact ⟨inB_true g1 g2, by decide⟩)]
    cases theM b.msgs u <;> rfl)
  rw [← hR, ← hE]
  have NONE := Lib.hid (fun (w' : World) (hne : E ≠ 0) (hb : Below w.heap.size w w') => show RowsOut R E w (.returned (.tuple #[.slice none 0 0, .int .i64 E])) w' by
    rw [HR.out, if_neg hne]
    exact rowsOut_nil hb)
  have hf1 : ¬ flags < 0 := by omega
  have hf2 : ¬ 31 < flags := by omega
  have hml := hm.len
  clear hbl km hx hm hz hmb hw h0 hfew hR hE
  go_enter Tryd.func10, Tryd.ntmps10
  go_upto_region 1 with fail
  generalize (World.alloc w _) = w1 at A0 KM ⊢
  obtain ⟨c0, c1, c2, c3, c4, c5⟩ := A0.out.box
  go_upto_region 3 with (first
      | (go_at_call 23; go_loud (
                 refine KM.out.mono ?_
                 rintro e w2 ⟨rfl, hb2⟩
                 have A2 := Lib.hid (A0.out.go hb2)
                 have kw := mayWords_any (cp := cp) (StrsAt.below HZ.out A2.out.below hB) hn (by have := A2.out.size; omega)
                 rw [HWB.out] at kw
                 have KW := Lib.hid kw
                 clear hb2 kw c0 c1 c2 c3 c4 c5))
      | (go_at_call 24; go_loud (refine KW.out.mono ?_; rintro e w3 ⟨rfl, rfl⟩)))
  clear KM KW A0
  have hs2 := A2.out.size
  have KF := Lib.hid (refFind_any (bid := b.id) (bv := b.valid) (bn := b.next) (bh := b.high) (WA := WA) (wn := wn) (wc := wc) (mc := mcp) (uid := u) (MsgsAt.below HM.out A2.out.below hB) (show B ≤ w2.heap.size by omega))
  obtain ⟨c0, c1, c2, c3, c4, c5⟩ := A2.out.box
  rcases RwW8.find_cases b.msgs u with hfi | ⟨k, m, hmk, hmu, hfi⟩
  · rw [hfi] at KF
    have hth : theM b.msgs u = Option.none := theM_none.2 (by rw [hfi]; decide)
    have he6 : E = 6 := by rw [HGD.out, hth]
    subst he6
    clear hfi hth
    go_wp2_with (go_at_call 33; go_loud (
       refine KF.out.mono ?_
       rintro e w4 ⟨rfl, hb4⟩
       have A4 := Lib.hid (A2.out.go hb4)
       clear hb4))
    refine bodyPost_ret (v := .tuple #[.slice none 0 0, .int .i64 6]) (by rw [results_tmp2 (t := 10) (u := 11) rfl]; rfl) rfl ?_
    exact NONE.out _ (by decide) A4.out.below
  rw [hfi] at KF
  have hth : theM b.msgs u = some m := by rw [← hmu]; exact (theM_at HRI.out hmk).1
  rw [hth] at HGD
  have HTH := Lib.hid hth
  have hkm : k < mn := by have := (List.getElem?_eq_some_iff.1 hmk).1; omega
  have hk0 : ¬ ((k : Int) < 0) := by omega
  have hk1 : (0 : Int) ≤ (k : Int) := by omega
  have hk2 : (k : Int) < (mn : Int) := by omega
  clear hfi hth hmu
  go_upto_region 6 with (go_at_call 33; go_loud (
       refine KF.out.mono ?_
       rintro e w4 ⟨rfl, hb4⟩
       have A4 := Lib.hid (A2.out.go hb4)
       clear hb4 c0 c1 c2 c3 c4 c5))
  clear KF A2
  have hs4 := A4.out.size
  obtain ⟨ad, mu, md, d, id, fl, ks, tx, K, kn, kc, rfl, hab, e1, m0, m1, m2, m3, m4, m5, m6, hkc, hks, y1, y2⟩ := MsgsAt.sp HM.out A4.out.below hB hkm
  rw [hmk] at e1
  obtain rfl := Option.some.inj e1
  obtain ⟨p1, p2, p3, p4, p5, p6, p7⟩ := mm_parts (HMB.out _ (List.mem_of_getElem? hmk)).1
  have HKS := Lib.hid hks
  have HP6 := Lib.hid p6
  simp only at p5
  have HB4 := Lib.hid (A4.out.below.mono hB)
  have hkn6 : kn ≤ 64 := by
    have h1 := RwOwn.keys_le p6
    have h2 := HX.out.len
    have h3 := hks.len
    simp only at h1
    omega
  have HKB := Lib.hid (show ∀ k ∈ ks, 0 ≤ k ∧ k < (wn : Int) from fun k hk => by
    have h1 := ((keysB_iff _ _).1 p6).1 k hk
    have h2 := HX.out.len
    omega)
  clear e1 hmk hks p1 p2 p3 p4 p6 p7
  obtain ⟨c0, c1, c2, c3, c4, c5⟩ := A4.out.box
  have HSB := Lib.hid (show SA w (w4.alloc (.cells #[.int .i64 mu, .int .i64 md, .int .i64 d, .string id, .int .i64 fl, .slice K kn kc, .string tx] 28)) w4.heap.size b (.slice WA wn wc) (.slice (some ad) mn mcp) (.int .i64 mu) (.int .i64 md) (.int .i64 d) (.string id) (.int .i64 fl) (.slice K kn kc) (.string tx) from
    ⟨A4.out.below.alloc A4.out.below.size _, by omega, (heap_alloc_old w4 _ (by omega)).trans ((Below.block A4.out w.heap.size (by omega)).trans (heap_alloc_new w _)), heap_alloc_new w4 _⟩)
  go_upto_region 7 with fail
  obtain ⟨P, hP⟩ : ∃ P, P = w4.heap.size := ⟨_, rfl⟩
  rw [← hP] at HSB ⊢
  have HPE := Lib.hid hP
  clear hP c0 c1 c2 c3 c4 c5 m0 m1 m2 m3 m4 m5 m6 A4
  generalize (World.alloc w4 _) = w5 at HSB ⊢
  have hs5 := HSB.out.bl
  have KI := Lib.hid (with_any (w := w5) (b := b) (wc := wc) (mc := mcp) (MA := some ad) (mn := mn) (cp := cp) (StrsAt.below HX.out HSB.out.bel hB) (StrsAt.below HZ.out HSB.out.bel hB) (by omega) HWD.out (by omega) (by omega))
  unfold WiPost at KI
  obtain ⟨⟨c0, c1, c2, c3, c4, c5, cf⟩, d0, d1, d2, d3, d4, d5, d6, df3, df5⟩ := HSB.out.cells
  go_upto_region 8 with (go_at_call 25; go_loud (
     refine KI.out.mono ?_
     rintro e w6 ⟨A1, n1, k1, A2', n2, k2, rfl, hc1, hc2, hl1, hl2, hsa, hro, hb3⟩
     have HS6 := Lib.hid (HSB.out.go hb3)
     have HSA := Lib.hid hsa
     have HRO := Lib.hid hro
     have HL1 := Lib.hid hl1
     have HL2 := Lib.hid hl2
     have hs56 := hb3.size
     have hn2 : n2 ≤ 100000 := by
       have h1 : (newW b.words words).length ≤ words.length := (newW_sub _ _).length_le
       have h2 := HZ.out.len
       omega
     clear hsa hro hb3 hl1 hl2 c0 c1 c2 c3 c4 c5 cf d0 d1 d2 d3 d4 d5 d6 df3 df5))
  clear KI
  obtain ⟨⟨c0, c1, c2, c3, c4, c5, cf⟩, d0, d1, d2, d3, d4, d5, d6, df3, df5⟩ := HS6.out.cells
  go_upto_region 12 with fail
  obtain ⟨AL, hAL⟩ : ∃ AL, AL = allW b.words words := ⟨_, rfl⟩
  have HALL := Lib.hid (show StrsAt w6 w6.heap.size A1 n1 AL by rw [hAL]; exact HSA.out)
  have HALN := Lib.hid (show AL.Nodup by rw [hAL]; exact allW_nodup HBD.out HWD.out)
  have HAF := Lib.hid (show flAll b words 1 = AL by rw [hAL]; rfl)
  obtain ⟨AX, nx, kx, hax, hnx, hkx⟩ : ∃ AX nx kx, AX = A1 ∧ nx = n1 ∧ kx = k1 := ⟨_, _, _, rfl, rfl, rfl⟩
  rw [← hax, ← hnx] at HALL
  rw [← hax, ← hnx, ← hkx]
  obtain ⟨RL, hRL⟩ : ∃ RL : List ByteArray, RL = newW b.words words := ⟨_, rfl⟩
  obtain ⟨RX, rn, rk, hrx, hrn, hrk⟩ : ∃ RX rn rk, RX = A2' ∧ rn = n2 ∧ rk = k2 := ⟨_, _, _, rfl, rfl, rfl⟩
  have HRX := Lib.hid (show w6.ownsRow w5.heap.size 51 11 (.slice RX rn rk) rn (rc (RL.map wRaw)) by rw [hRL, hrx, hrn, hrk]; exact HRO.out)
  have HRLN := Lib.hid (show flNew b words 1 = RL by rw [hRL]; rfl)
  have HRS := Lib.hid (show ∀ x ∈ RL, x.size ≤ 140737488355328 by rw [hRL]; exact fun y hy => strs_size HZ.out y (List.mem_filter.1 hy).1)
  have hrn9 : rn ≤ 100000 := by omega
  rw [← hrx, ← hrn, ← hrk]
  clear hax hnx hkx hRL hrx hrn hrk
  have HS6L := Lib.hid (Nat.le_of_lt HS6.out.bl.1)
  go_loopw [70, 16] (fun s70 s16 wr => ∃ (k p : Nat) (v : Value), v = s16 ∧ k ≤ n ∧ p ≤ k ∧ s70 = .int .i64 k ∧ Hid (SA w wr P b (.slice WA wn wc) (.slice (some ad) mn mcp) (.int .i64 mu) (.int .i64 md) (.int .i64 d) (.string id) (.int .i64 fl) (.slice K kn kc) (.string tx)) ∧
      Hid (wr.ownsRow w5.heap.size 51 11 (.slice RX rn rk) rn (rc (RL.map wRaw))) ∧ Hid (Below w6.heap.size w6 wr) ∧ Hid (wr.ownsRow w6.heap.size 3 1 v p ((plL AL (words.take k)).map (Value.int .i64)))) (fun s70 _ _ => n - (intOf s70).toNat)
  case atStart => exact ⟨0, 0, _, rfl, Nat.zero_le _, Nat.le_refl _, rfl, HS6, HRX, Lib.hid (Below.refl _ _), Lib.hid (World.ownsRow_nil _ _ _ _)⟩
  case round =>
    clear HS6 HRX
    obtain ⟨k, p, v, rfl, hk, hp, rfl, HSB, HRX, HB6, HV⟩ := hrel
    have hsz := HB6.out.size
    by_cases hlt : k < n
    · obtain ⟨az, x, rfl, e1, m0⟩ := StrsAt.at_ HZ.out HSB.out.bel hB hlt
      have z0 : (0 : Int) ≤ (k : Int) := by omega
      have z1 : (k : Int) < (n : Int) := by omega
      have HST := Lib.hid (show plL AL (words.take (k + 1)) = plL AL (words.take k) ++ (if 0 ≤ plI AL x then [plI AL x] else []) by
        obtain ⟨hl, e⟩ := List.getElem?_eq_some_iff.1 e1
        rw [List.take_succ_eq_append_getElem hl, e]
        unfold plL
        rw [List.map_append, List.filter_append]
        by_cases h : 0 ≤ plI AL x <;> simp [h])
      have KP := Lib.hid (place_any (cp := kx) (x := x) (StrsAt.below HALL.out HB6.out (Nat.le_refl _)))
      obtain ⟨pp, hpp⟩ : ∃ pp, pp = plI AL x := ⟨_, rfl⟩
      rw [← hpp] at KP HST
      clear e1 hpp
      by_cases hpz : 0 ≤ pp
      · rw [if_pos hpz] at HST
        go_wp2_with (first
          | (go_at_call 27; go_loud (refine KP.out.mono ?_; rintro e w7 ⟨rfl, rfl⟩))
          | (at_builtin; go_loud (
             refine wpList_rows elI rfl _ _ rfl rfl rfl (HV.out.alloc (.cells #[.int .i64 pp] 3)) (src_new _ #[.int .i64 pp] 3 (m := 1) (sz := 1) rfl rfl (fun u hu => by simp at hu; subst hu; rfl)) (by unfold maxLen; omega) (by omega) (by simp; omega) ?_
             intro v7 w7 hown hg _
             have HV7 := Lib.hid (show w7.ownsRow w6.heap.size 3 1 v7 (p + 1) ((plL AL (words.take (k + 1))).map (Value.int .i64)) by rw [HST.out, List.map_append]; exact hown)
             have HSB7 := Lib.hid (SA.grown (HSB.out.alloc (.cells #[.int .i64 pp] 3)) hg (HV.out.alloc (.cells #[.int .i64 pp] 3)) HS6L.out (by decide) (by decide))
             have HRX7 := Lib.hid ((HRX.out.alloc (.cells #[.int .i64 pp] 3)).kept hg (own_apart (HRX.out.alloc (.cells #[.int .i64 pp] 3)) (HV.out.alloc (.cells #[.int .i64 pp] 3)) (by decide)))
             have HB67 := Lib.hid ((HB6.out.alloc HB6.out.size (.cells #[.int .i64 pp] 3)).grown hg (by simp; omega) (fun g e => (HV.out.lt g e).1))
             clear hown hg)))
        go_roundw
        case rel => exact ⟨k + 1, p + 1, _, rfl, hlt, by omega, by go_num, HSB7, HRX7, HB67, HV7⟩
        case measure => exact meas hlt
      · rw [if_neg hpz, List.append_nil] at HST
        have HV7 := Lib.hid (show wr.ownsRow w6.heap.size 3 1 v p ((plL AL (words.take (k + 1))).map (Value.int .i64)) by rw [HST.out]; exact HV.out)
        go_wp2_with (go_at_call 27; go_loud (refine KP.out.mono ?_; rintro e w7 ⟨rfl, rfl⟩))
        go_roundw
        case rel => exact ⟨k + 1, p, v, rfl, hlt, by omega, by go_num, HSB, HRX, HB6, HV7⟩
        case measure => exact meas hlt
    · obtain rfl : k = n := by omega
      obtain ⟨AV, cv, rfl, hcv⟩ := own_slice HV.out
      have hV := HV.out
      rw [List.take_of_length_le (by rw [HZ.out.len]; exact Nat.le_refl _)] at hV
      have HVI := Lib.hid (intsAt_own hV (by omega))
      clear hV
      have hs7 := HSB.out.bl
      have KS := Lib.hid (sorted_any (cp := cv) HVI.out (Nat.le_refl _) (by omega))
      unfold SoPost at KS
      obtain ⟨Q0, hQ0⟩ : ∃ Q0, Q0 = srtI (plL AL words) := ⟨_, rfl⟩
      rw [← hQ0] at KS
      obtain ⟨q, hq⟩ : ∃ q, q = Q0.length := ⟨_, rfl⟩
      rw [← hq] at KS
      have HQ := Lib.hid hq
      have HQ0 := Lib.hid hQ0
      have hq9 : q ≤ 100000 := by
        rw [hq, hQ0]
        have h1 := srtI_len (plL AL words)
        have h2 := HVI.out.len
        omega
      clear hq hQ0
      go_upto_region 21 with (go_at_call 28; go_loud (
         refine KS.out.mono ?_
         rintro e w7 ⟨A5a, k5a, rfl, _, _, hb8⟩
         have HS7 := Lib.hid (HSB.out.go hb8)
         have HR7 := Lib.hid (own_go HRX.out hb8)
         have HVI7 := Lib.hid (IntsAt.below HVI.out hb8 (Nat.le_refl _))
         have hs77 := hb8.size
         clear hb8
         obtain ⟨⟨c0, c1, c2, c3, c4, c5, cf⟩, d0, d1, d2, d3, d4, d5, d6, df3, df5⟩ := HS7.out.cells))
      have HK7 := Lib.hid (ints_move HKS.out HB4.out (HS7.out.bel.mono hB))
      have hB7 : B ≤ w7.heap.size := by have := HS7.out.bel.size; omega
      clear c0 c1 c2 c3 c4 c5 cf d0 d1 d2 d3 d6 df3 df5
      obtain ⟨Q0, hQ0⟩ : ∃ Q0, Q0 = srtI (ks ++ plL AL words) := ⟨_, rfl⟩
      obtain ⟨q, hq⟩ : ∃ q, q = Q0.length := ⟨_, rfl⟩
      have HQ := Lib.hid hq
      have HQ0 := Lib.hid hQ0
      have hq9 : q ≤ 200000 := by
        rw [hq, hQ0]
        have h1 := srtI_len (ks ++ plL AL words)
        have h2 := HVI.out.len
        have h3 := HKS.out.len
        rw [List.length_append] at h1
        omega
      clear hq hQ0
      have F0 := (show w7.cell? { block := P, off := 4 } = some (.int .i64 fl) ∧ w7.cell? { block := P, off := 5 } = some (.slice K kn kc) from ⟨d4, d5⟩)
      go_region_held3 (fun wx => wx.cell? { block := P, off := 4 } = some (.int .i64 fl) ∧ wx.cell? { block := P, off := 5 } = some (.slice K kn kc)) (with_reducible first | exact F0 | exact F1 | exact F2 | exact F3 | go_keep) (first
        | (go_simp; go_at_call 28; go_loud (
           refine (KT.out _ (by (repeat (with_reducible first | exact Below.refl _ _ | refine Below.drew ?_)); first | done | fail)).mono ?_
           rintro e w8 ⟨A5, k5, rfl, hk5, ho5, hb8⟩
           have HB78 := Lib.hid (X2.out.trans (hb8.mono X2.out.size))
           have HO8 := Lib.hid ho5
           have HS8 := Lib.hid (HS7.out.go HB78.out)
           have F3 := (show w8.cell? { block := P, off := 4 } = some (.int .i64 fl) ∧ w8.cell? { block := P, off := 5 } = some (.slice K kn kc) from ⟨HS8.out.cells.2.2.2.2.2.1, HS8.out.cells.2.2.2.2.2.2.1⟩)
           clear ho5 hb8
           dsimp only))
        | (show (if Region.wanted ⟨some 96, _, _, _, _, _⟩ _ = true then _ else _)
           go_loud (
           refine step_rows elI (base := w7.heap.size) (c := kc) rfl (.const (.slice none 0 0)) (.tmp 95) rfl rfl rfl (World.ownsRow_nil _ _ _ _) (ints_src (IntsAt.below HK7.out (by (repeat (with_reducible first | exact Below.refl _ _ | refine Below.drew ?_)); first | done | fail) hB7)) (by unfold maxLen; omega) (by omega) (Nat.le_refl _) ?_
           intro v1 u1 hown1 hg1 _
           have X1 := Lib.hid (Below.grown (show Below w7.heap.size w7 _ from (by (repeat (with_reducible first | exact Below.refl _ _ | refine Below.drew ?_)); first | done | fail)) hg1 (Nat.le_refl _) (fun k e => by cases e))
           rw [Nat.zero_add, List.nil_append] at hown1
           have HO1 := Lib.hid hown1
           have HS1x := Lib.hid (HS7.out.go X1.out)
           have F1 := (show u1.cell? { block := P, off := 4 } = some (.int .i64 fl) ∧ u1.cell? { block := P, off := 5 } = some (.slice K kn kc) from ⟨HS1x.out.cells.2.2.2.2.2.1, HS1x.out.cells.2.2.2.2.2.2.1⟩)
           clear hown1 hg1
           dsimp only))
        | (show (if Region.wanted ⟨some 98, _, _, _, _, _⟩ _ = true then _ else _)
           go_loud (
           refine step_rows elI (base := w7.heap.size) (c := cv) rfl (.tmp 96) (.tmp 97) rfl rfl rfl HO1.out (ints_src (IntsAt.below HVI7.out ((X1.out).mono hs77) (Nat.le_refl _))) (by unfold maxLen; omega) (by omega) (X1.out.size) ?_
           intro v2 u2 hown2 hg2 _
           have X2 := Lib.hid (Below.grown X1.out hg2 X1.out.size (fun k e => (HO1.out.lt k e).1))
           obtain ⟨A2b, c2b, rfl, hc2b⟩ := own_slice hown2
           have HI2 := Lib.hid (show IntsAt u2 u2.heap.size A2b (kn + p) (ks ++ plL AL words) from intsAt_own (by rw [List.map_append]; exact hown2) (by omega))
           have KT := Lib.hid (fun (wq : World) (hb : Below u2.heap.size u2 wq) => show Calls Tryd.prog 28 #[.slice A2b (kn + p) c2b] wq (fun e w' => ∃ A c, e = .returned (.slice A q c) ∧ q ≤ c ∧ w'.ownsRow wq.heap.size 3 1 (.slice A q c) q (Q0.map (Value.int .i64)) ∧ Below u2.heap.size u2 w') from
             (sorted_any (IntsAt.below HI2.out hb (Nat.le_refl _)) hb.size (by omega)).mono fun e w' hh => by
               rw [← HQ0.out] at hh
               obtain ⟨Az, cz, z1, z2, z3, z4⟩ := hh
               rw [← HQ.out] at z1 z2 z3
               exact ⟨Az, cz, z1, z2, z3, hb.trans (z4.mono hb.size)⟩)
           have HS2x := Lib.hid (HS7.out.go X2.out)
           have F2 := (show u2.cell? { block := P, off := 4 } = some (.int .i64 fl) ∧ u2.cell? { block := P, off := 5 } = some (.slice K kn kc) from ⟨HS2x.out.cells.2.2.2.2.2.1, HS2x.out.cells.2.2.2.2.2.2.1⟩)
           clear hown2 hg2
           dsimp only)))
      rename_i hHeld
      clear hHeld F0 F1 F2 F3
      have HR8 := Lib.hid (own_go HR7.out HB78.out)
      have hs88 := HB78.out.size
      go_upto_region 30 with fail
      have hs8 := HS8.out.bl
      obtain ⟨FB, hFB⟩ : ∃ FB, FB = orI fl flags := ⟨_, rfl⟩
      have HFB := Lib.hid (show flBits ⟨mu, md, d, id, fl, ks, tx⟩ flags 1 = FB by rw [hFB]; rfl)
      unfold orI at hFB
      rw [← hFB]
      have HOL := Lib.hid (show flKeys b ⟨mu, md, d, id, fl, ks, tx⟩ words 1 = Q0 by
        rw [HQ0.out, srt_more HALN.out (fun k hk => by
          have h1 := HKB.out k hk
          have h2 := HAF.out
          have h3 : wn ≤ AL.length := by rw [← h2, ← HX.out.len]; exact flAll_le b words 1
          omega), ← HAF.out]; rfl)
      clear hFB
      have HKX := Lib.hid (ints_move HKS.out HB4.out (HS8.out.bel.mono hB))
      have KM := Lib.hid (sameInts_any (cp := k5) (cq := kc) (intsAt_own HO8.out (by omega)) HKX.out)
      obtain ⟨⟨c0, c1, c2, c3, c4, c5, cf⟩, d0, d1, d2, d3, d4, d5, d6, df3, df5⟩ := HS8.out.cells
      by_cases hsame : flSame b ⟨mu, md, d, id, fl, ks, tx⟩ flags words 1
      · obtain ⟨hs1, hs2⟩ := hsame
        have HP := Lib.hid (fun (w' : World) (hb : Below w.heap.size w w') => show RowsOut R E w (.returned (.tuple #[.slice none 0 0, .int .i64 0])) w' by
          have he : E = 0 := by rw [HGD.out, if_pos ⟨hs1, hs2⟩]
          rw [HR.out, if_pos he, he]
          unfold flL
          rw [HTH.out]
          dsimp only
          rw [if_pos ⟨hs1, hs2⟩]
          exact rowsOut_nil hb)
        rw [HFB.out] at hs1
        rw [HOL.out] at hs2
        have i1 : (FB == fl) = true := by rw [beq_iff_eq]; exact hs1
        rw [decide_eq_true hs2] at KM
        clear hs1 hs2
        go_wp2_with (go_at_call 35; go_loud (
           refine KM.out.mono ?_
           rintro e w9 ⟨rfl, nd, rfl⟩))
        refine bodyPost_ret (v := .tuple #[.slice none 0 0, .int .i64 0]) (by rw [results_tmp2 (t := 10) (u := 11) rfl]; rfl) rfl ?_
        exact HP.out _ (BxKit.below_drewN HS8.out.bel nd)
      · have HNS := Lib.hid hsame
        have hgd2 : E = if 64 < nx then 4 else if 1000000 ≤ b.high then 9 else 0 := by
          have h9 := HALL.out.len
          rw [HGD.out, if_neg HNS.out, HAF.out, h9]
        have HG2 := Lib.hid hgd2
        have hdiff : FB ≠ fl ∨ Q0 ≠ ks := by
          by_cases h1 : FB = fl
          · right
            intro h2
            exact hsame ⟨by rw [HFB.out]; exact h1, by rw [HOL.out]; exact h2⟩
          · exact .inl h1
        clear hsame hgd2
        rcases hdiff with hdf | hdf
        · have i1 : (FB == fl) = false := by rw [beq_eq_false_iff_ne]; exact hdf
          clear hdf
          go_upto_region 32 with fail
          clear c0 c1 c2 c3 c4 c5 cf d0 d1 d2 d3 d4 d5 d6 df3 df5
          have HS9 := HS8
          have HR9 := HR8
          have HO9 := HO8
          have HW9 := Lib.hid (show w5.heap.size ≤ w8.heap.size by omega)
          obtain ⟨⟨c0, c1, c2, c3, c4, c5, cf⟩, d0, d1, d2, d3, d4, d5, d6, df3, df5⟩ := HS9.out.cells
          have hs9 := HS9.out.bl
          by_cases hbig : 64 < nx
          · have he4 : E = 4 := by rw [HG2.out, if_pos hbig]
            have hbi : (64 : Int) < (nx : Int) := by omega
            have HP := Lib.hid (show RowsOut R E w (.returned (.tuple #[.slice none 0 0, .int .i64 4])) _ from by
              have := NONE.out _ (by rw [he4]; decide) HS9.out.bel
              rwa [he4] at this ⊢)
            clear he4 hbig
            go_wp2_with fail
            refine bodyPost_ret (v := .tuple #[.slice none 0 0, .int .i64 4]) (by rw [results_tmp2 (t := 10) (u := 11) rfl]; rfl) rfl ?_
            exact HP.out
          have hbi : ¬ (64 : Int) < (nx : Int) := by omega
          by_cases hov : 1000000 ≤ b.high
          · have he4 : E = 9 := by rw [HG2.out, if_neg hbig, if_pos hov]
            have HP := Lib.hid (show RowsOut R E w (.returned (.tuple #[.slice none 0 0, .int .i64 9])) _ from by
              have := NONE.out _ (by rw [he4]; decide) HS9.out.bel
              rwa [he4] at this ⊢)
            clear he4 hbig
            go_wp2_with fail
            refine bodyPost_ret (v := .tuple #[.slice none 0 0, .int .i64 9]) (by rw [results_tmp2 (t := 10) (u := 11) rfl]; rfl) rfl ?_
            exact HP.out
          have hE0 : E = 0 := by rw [HG2.out, if_neg hbig, if_neg hov]
          have HR0 := Lib.hid (show R = flL b u flags words 1 by rw [HR.out, if_pos hE0])
          subst hE0
          clear hbig
          obtain ⟨q0, hq0⟩ : ∃ q0 : RRaw, q0 = ⟨flR b ⟨mu, md, d, id, fl, ks, tx⟩ u flags words 1, A5, k5⟩ := ⟨_, rfl⟩
          have HCL := Lib.hid (show cell11 q0 = [.int .i64 2, .int .i64 u, .int .i64 (b.high + 1), .int .i64 0, .int .i64 0, .int .i64 0, .string ⟨#[]⟩, .int .i64 FB, .slice A5 q k5, .string ⟨#[]⟩, .string ⟨#[]⟩] by
            rw [hq0, HQ.out]
            unfold cell11 flR
            rw [HFB.out, HOL.out]
            rfl)
          have HQZ := Lib.hid hq0
          have hss := src_row w8 q0
          rw [HCL.out] at hss
          have HSS := Lib.hid hss
          clear hss hq0
          go_wp2_with (at_builtin; go_loud (
             refine wpList_rows elR rfl _ _ rfl rfl rfl (HR9.out.alloc (.cells #[.int .i64 2, .int .i64 u, .int .i64 (b.high + 1), .int .i64 0, .int .i64 0, .int .i64 0, .string ⟨#[]⟩, .int .i64 FB, .slice A5 q k5, .string ⟨#[]⟩, .string ⟨#[]⟩] 51)) HSS.out (by unfold maxLen; omega) (by omega) (by have := HW9.out; simp; omega) ?_
             intro vz wz hown hg _
             obtain ⟨AZ, kz, rfl, hkz⟩ := own_slice hown
             have HRZ := Lib.hid (show wz.ownsRow w5.heap.size 51 11 (.slice AZ (rn + 1) kz) (rn + 1) (rc (RL.map wRaw ++ [q0])) by rw [rc_snoc, HCL.out]; exact hown)
             have HOZ := Lib.hid ((HO9.out.alloc (.cells #[.int .i64 2, .int .i64 u, .int .i64 (b.high + 1), .int .i64 0, .int .i64 0, .int .i64 0, .string ⟨#[]⟩, .int .i64 FB, .slice A5 q k5, .string ⟨#[]⟩, .string ⟨#[]⟩] 51)).kept hg (own_apart (HO9.out.alloc (.cells #[.int .i64 2, .int .i64 u, .int .i64 (b.high + 1), .int .i64 0, .int .i64 0, .int .i64 0, .string ⟨#[]⟩, .int .i64 FB, .slice A5 q k5, .string ⟨#[]⟩, .string ⟨#[]⟩] 51)) (HR9.out.alloc (.cells #[.int .i64 2, .int .i64 u, .int .i64 (b.high + 1), .int .i64 0, .int .i64 0, .int .i64 0, .string ⟨#[]⟩, .int .i64 FB, .slice A5 q k5, .string ⟨#[]⟩, .string ⟨#[]⟩] 51)) (by decide)))
             have HBZ := Lib.hid ((HS9.out.bel.alloc HS9.out.bel.size (.cells #[.int .i64 2, .int .i64 u, .int .i64 (b.high + 1), .int .i64 0, .int .i64 0, .int .i64 0, .string ⟨#[]⟩, .int .i64 FB, .slice A5 q k5, .string ⟨#[]⟩, .string ⟨#[]⟩] 51)).grown hg (by have := HS9.out.bel.size; simp; omega) (fun g e => by have := (HR9.out.lt g e).1; omega))
             clear hown hg c0 c1 c2 c3 c4 c5 cf d0 d1 d2 d3 d4 d5 d6 df3 df5))
          refine bodyPost_ret (v := .tuple #[.slice AZ (rn + 1) kz, .int .i64 0]) (by rw [results_tmp2 (t := 10) (u := 11) rfl]; rfl) rfl ?_
          rw [HR0.out]
          refine ⟨AZ, rn + 1, kz, rfl, hkz, ?_, HBZ.out⟩
          have this := rowsAt_own HRZ.out (fun g e => (HRZ.out.lt g e).2) (by omega) (fun q9 hq9 => by
            rcases List.mem_append.1 hq9 with hq9 | hq9
            · exact wRaw_keys HRS.out q9 hq9
            · obtain rfl := List.mem_singleton.1 hq9
              rw [HQZ.out]
              refine ⟨?_, ?_, by show (⟨#[]⟩ : ByteArray).size ≤ _; decide, by show (⟨#[]⟩ : ByteArray).size ≤ _; decide, by show (⟨#[]⟩ : ByteArray).size ≤ _; decide⟩
              · have h1 := intsAt_own HOZ.out (by omega)
                rw [HQ.out] at h1
                show IntsAt _ _ A5 (flKeys b ⟨mu, md, d, id, fl, ks, tx⟩ words 1).length (flKeys b ⟨mu, md, d, id, fl, ks, tx⟩ words 1)
                rw [HOL.out]
                exact h1
              · show (flKeys b ⟨mu, md, d, id, fl, ks, tx⟩ words 1).length ≤ k5
                rw [HOL.out, ← HQ.out]; exact hk5)
          rw [List.map_append, wRaw_r, show [q0].map RRaw.r = [q0.r] from rfl, HQZ.out] at this
          unfold flL
          rw [HTH.out]
          dsimp only
          rw [if_neg HNS.out, HRLN.out]
          exact this
        · rw [decide_eq_false hdf] at KM
          clear hdf
          by_cases hfb : FB = fl
          · have i1 : (FB == fl) = true := by rw [beq_iff_eq]; exact hfb
            clear hfb
            go_upto_region 32 with (go_at_call 35; go_loud (
               refine KM.out.mono ?_
               rintro e w9 ⟨rfl, nd, rfl⟩
               have HS9 := Lib.hid (HS8.out.go (BxKit.below_drewN (Below.refl _ _) nd))
               have HR9 := Lib.hid (own_go HR8.out (BxKit.below_drewN (Below.refl _ _) nd))
               have HW9 := Lib.hid (show w5.heap.size ≤ (w8.drewN nd).heap.size from (show w5.heap.size ≤ w8.heap.size by omega))
               have HO9 := Lib.hid (own_go HO8.out (BxKit.below_drewN (Below.refl _ _) nd))
               clear c0 c1 c2 c3 c4 c5 cf d0 d1 d2 d3 d4 d5 d6 df3 df5))
            generalize (World.drewN w8 _) = wd at HS9 HR9 HO9 HW9 ⊢
            obtain ⟨⟨c0, c1, c2, c3, c4, c5, cf⟩, d0, d1, d2, d3, d4, d5, d6, df3, df5⟩ := HS9.out.cells
            have hs9 := HS9.out.bl
            by_cases hbig : 64 < nx
            · have he4 : E = 4 := by rw [HG2.out, if_pos hbig]
              have hbi : (64 : Int) < (nx : Int) := by omega
              have HP := Lib.hid (show RowsOut R E w (.returned (.tuple #[.slice none 0 0, .int .i64 4])) _ from by
                have := NONE.out _ (by rw [he4]; decide) HS9.out.bel
                rwa [he4] at this ⊢)
              clear he4 hbig
              go_wp2_with fail
              refine bodyPost_ret (v := .tuple #[.slice none 0 0, .int .i64 4]) (by rw [results_tmp2 (t := 10) (u := 11) rfl]; rfl) rfl ?_
              exact HP.out
            have hbi : ¬ (64 : Int) < (nx : Int) := by omega
            by_cases hov : 1000000 ≤ b.high
            · have he4 : E = 9 := by rw [HG2.out, if_neg hbig, if_pos hov]
              have HP := Lib.hid (show RowsOut R E w (.returned (.tuple #[.slice none 0 0, .int .i64 9])) _ from by
                have := NONE.out _ (by rw [he4]; decide) HS9.out.bel
                rwa [he4] at this ⊢)
              clear he4 hbig
              go_wp2_with fail
              refine bodyPost_ret (v := .tuple #[.slice none 0 0, .int .i64 9]) (by rw [results_tmp2 (t := 10) (u := 11) rfl]; rfl) rfl ?_
              exact HP.out
            have hE0 : E = 0 := by rw [HG2.out, if_neg hbig, if_neg hov]
            have HR0 := Lib.hid (show R = flL b u flags words 1 by rw [HR.out, if_pos hE0])
            subst hE0
            clear hbig
            obtain ⟨q0, hq0⟩ : ∃ q0 : RRaw, q0 = ⟨flR b ⟨mu, md, d, id, fl, ks, tx⟩ u flags words 1, A5, k5⟩ := ⟨_, rfl⟩
            have HCL := Lib.hid (show cell11 q0 = [.int .i64 2, .int .i64 u, .int .i64 (b.high + 1), .int .i64 0, .int .i64 0, .int .i64 0, .string ⟨#[]⟩, .int .i64 FB, .slice A5 q k5, .string ⟨#[]⟩, .string ⟨#[]⟩] by
              rw [hq0, HQ.out]
              unfold cell11 flR
              rw [HFB.out, HOL.out]
              rfl)
            have HQZ := Lib.hid hq0
            have hss := src_row wd q0
            rw [HCL.out] at hss
            have HSS := Lib.hid hss
            clear hss hq0
            go_wp2_with (at_builtin; go_loud (
               refine wpList_rows elR rfl _ _ rfl rfl rfl (HR9.out.alloc (.cells #[.int .i64 2, .int .i64 u, .int .i64 (b.high + 1), .int .i64 0, .int .i64 0, .int .i64 0, .string ⟨#[]⟩, .int .i64 FB, .slice A5 q k5, .string ⟨#[]⟩, .string ⟨#[]⟩] 51)) HSS.out (by unfold maxLen; omega) (by omega) (by have := HW9.out; simp; omega) ?_
               intro vz wz hown hg _
               obtain ⟨AZ, kz, rfl, hkz⟩ := own_slice hown
               have HRZ := Lib.hid (show wz.ownsRow w5.heap.size 51 11 (.slice AZ (rn + 1) kz) (rn + 1) (rc (RL.map wRaw ++ [q0])) by rw [rc_snoc, HCL.out]; exact hown)
               have HOZ := Lib.hid ((HO9.out.alloc (.cells #[.int .i64 2, .int .i64 u, .int .i64 (b.high + 1), .int .i64 0, .int .i64 0, .int .i64 0, .string ⟨#[]⟩, .int .i64 FB, .slice A5 q k5, .string ⟨#[]⟩, .string ⟨#[]⟩] 51)).kept hg (own_apart (HO9.out.alloc (.cells #[.int .i64 2, .int .i64 u, .int .i64 (b.high + 1), .int .i64 0, .int .i64 0, .int .i64 0, .string ⟨#[]⟩, .int .i64 FB, .slice A5 q k5, .string ⟨#[]⟩, .string ⟨#[]⟩] 51)) (HR9.out.alloc (.cells #[.int .i64 2, .int .i64 u, .int .i64 (b.high + 1), .int .i64 0, .int .i64 0, .int .i64 0, .string ⟨#[]⟩, .int .i64 FB, .slice A5 q k5, .string ⟨#[]⟩, .string ⟨#[]⟩] 51)) (by decide)))
               have HBZ := Lib.hid ((HS9.out.bel.alloc HS9.out.bel.size (.cells #[.int .i64 2, .int .i64 u, .int .i64 (b.high + 1), .int .i64 0, .int .i64 0, .int .i64 0, .string ⟨#[]⟩, .int .i64 FB, .slice A5 q k5, .string ⟨#[]⟩, .string ⟨#[]⟩] 51)).grown hg (by have := HS9.out.bel.size; simp; omega) (fun g e => by have := (HR9.out.lt g e).1; omega))
               clear hown hg c0 c1 c2 c3 c4 c5 cf d0 d1 d2 d3 d4 d5 d6 df3 df5))
            refine bodyPost_ret (v := .tuple #[.slice AZ (rn + 1) kz, .int .i64 0]) (by rw [results_tmp2 (t := 10) (u := 11) rfl]; rfl) rfl ?_
            rw [HR0.out]
            refine ⟨AZ, rn + 1, kz, rfl, hkz, ?_, HBZ.out⟩
            have this := rowsAt_own HRZ.out (fun g e => (HRZ.out.lt g e).2) (by omega) (fun q9 hq9 => by
              rcases List.mem_append.1 hq9 with hq9 | hq9
              · exact wRaw_keys HRS.out q9 hq9
              · obtain rfl := List.mem_singleton.1 hq9
                rw [HQZ.out]
                refine ⟨?_, ?_, by show (⟨#[]⟩ : ByteArray).size ≤ _; decide, by show (⟨#[]⟩ : ByteArray).size ≤ _; decide, by show (⟨#[]⟩ : ByteArray).size ≤ _; decide⟩
                · have h1 := intsAt_own HOZ.out (by omega)
                  rw [HQ.out] at h1
                  show IntsAt _ _ A5 (flKeys b ⟨mu, md, d, id, fl, ks, tx⟩ words 1).length (flKeys b ⟨mu, md, d, id, fl, ks, tx⟩ words 1)
                  rw [HOL.out]
                  exact h1
                · show (flKeys b ⟨mu, md, d, id, fl, ks, tx⟩ words 1).length ≤ k5
                  rw [HOL.out, ← HQ.out]; exact hk5)
            rw [List.map_append, wRaw_r, show [q0].map RRaw.r = [q0.r] from rfl, HQZ.out] at this
            unfold flL
            rw [HTH.out]
            dsimp only
            rw [if_neg HNS.out, HRLN.out]
            exact this
          · have i1 : (FB == fl) = false := by rw [beq_eq_false_iff_ne]; exact hfb
            clear hfb
            go_upto_region 32 with fail
            clear c0 c1 c2 c3 c4 c5 cf d0 d1 d2 d3 d4 d5 d6 df3 df5
            have HS9 := HS8
            have HR9 := HR8
            have HO9 := HO8
            have HW9 := Lib.hid (show w5.heap.size ≤ w8.heap.size by omega)
            obtain ⟨⟨c0, c1, c2, c3, c4, c5, cf⟩, d0, d1, d2, d3, d4, d5, d6, df3, df5⟩ := HS9.out.cells
            have hs9 := HS9.out.bl
            by_cases hbig : 64 < nx
            · have he4 : E = 4 := by rw [HG2.out, if_pos hbig]
              have hbi : (64 : Int) < (nx : Int) := by omega
              have HP := Lib.hid (show RowsOut R E w (.returned (.tuple #[.slice none 0 0, .int .i64 4])) _ from by
                have := NONE.out _ (by rw [he4]; decide) HS9.out.bel
                rwa [he4] at this ⊢)
              clear he4 hbig
              go_wp2_with fail
              refine bodyPost_ret (v := .tuple #[.slice none 0 0, .int .i64 4]) (by rw [results_tmp2 (t := 10) (u := 11) rfl]; rfl) rfl ?_
              exact HP.out
            have hbi : ¬ (64 : Int) < (nx : Int) := by omega
            by_cases hov : 1000000 ≤ b.high
            · have he4 : E = 9 := by rw [HG2.out, if_neg hbig, if_pos hov]
              have HP := Lib.hid (show RowsOut R E w (.returned (.tuple #[.slice none 0 0, .int .i64 9])) _ from by
                have := NONE.out _ (by rw [he4]; decide) HS9.out.bel
                rwa [he4] at this ⊢)
              clear he4 hbig
              go_wp2_with fail
              refine bodyPost_ret (v := .tuple #[.slice none 0 0, .int .i64 9]) (by rw [results_tmp2 (t := 10) (u := 11) rfl]; rfl) rfl ?_
              exact HP.out
            have hE0 : E = 0 := by rw [HG2.out, if_neg hbig, if_neg hov]
            have HR0 := Lib.hid (show R = flL b u flags words 1 by rw [HR.out, if_pos hE0])
            subst hE0
            clear hbig
            obtain ⟨q0, hq0⟩ : ∃ q0 : RRaw, q0 = ⟨flR b ⟨mu, md, d, id, fl, ks, tx⟩ u flags words 1, A5, k5⟩ := ⟨_, rfl⟩
            have HCL := Lib.hid (show cell11 q0 = [.int .i64 2, .int .i64 u, .int .i64 (b.high + 1), .int .i64 0, .int .i64 0, .int .i64 0, .string ⟨#[]⟩, .int .i64 FB, .slice A5 q k5, .string ⟨#[]⟩, .string ⟨#[]⟩] by
              rw [hq0, HQ.out]
              unfold cell11 flR
              rw [HFB.out, HOL.out]
              rfl)
            have HQZ := Lib.hid hq0
            have hss := src_row w8 q0
            rw [HCL.out] at hss
            have HSS := Lib.hid hss
            clear hss hq0
            go_wp2_with (at_builtin; go_loud (
               refine wpList_rows elR rfl _ _ rfl rfl rfl (HR9.out.alloc (.cells #[.int .i64 2, .int .i64 u, .int .i64 (b.high + 1), .int .i64 0, .int .i64 0, .int .i64 0, .string ⟨#[]⟩, .int .i64 FB, .slice A5 q k5, .string ⟨#[]⟩, .string ⟨#[]⟩] 51)) HSS.out (by unfold maxLen; omega) (by omega) (by have := HW9.out; simp; omega) ?_
               intro vz wz hown hg _
               obtain ⟨AZ, kz, rfl, hkz⟩ := own_slice hown
               have HRZ := Lib.hid (show wz.ownsRow w5.heap.size 51 11 (.slice AZ (rn + 1) kz) (rn + 1) (rc (RL.map wRaw ++ [q0])) by rw [rc_snoc, HCL.out]; exact hown)
               have HOZ := Lib.hid ((HO9.out.alloc (.cells #[.int .i64 2, .int .i64 u, .int .i64 (b.high + 1), .int .i64 0, .int .i64 0, .int .i64 0, .string ⟨#[]⟩, .int .i64 FB, .slice A5 q k5, .string ⟨#[]⟩, .string ⟨#[]⟩] 51)).kept hg (own_apart (HO9.out.alloc (.cells #[.int .i64 2, .int .i64 u, .int .i64 (b.high + 1), .int .i64 0, .int .i64 0, .int .i64 0, .string ⟨#[]⟩, .int .i64 FB, .slice A5 q k5, .string ⟨#[]⟩, .string ⟨#[]⟩] 51)) (HR9.out.alloc (.cells #[.int .i64 2, .int .i64 u, .int .i64 (b.high + 1), .int .i64 0, .int .i64 0, .int .i64 0, .string ⟨#[]⟩, .int .i64 FB, .slice A5 q k5, .string ⟨#[]⟩, .string ⟨#[]⟩] 51)) (by decide)))
               have HBZ := Lib.hid ((HS9.out.bel.alloc HS9.out.bel.size (.cells #[.int .i64 2, .int .i64 u, .int .i64 (b.high + 1), .int .i64 0, .int .i64 0, .int .i64 0, .string ⟨#[]⟩, .int .i64 FB, .slice A5 q k5, .string ⟨#[]⟩, .string ⟨#[]⟩] 51)).grown hg (by have := HS9.out.bel.size; simp; omega) (fun g e => by have := (HR9.out.lt g e).1; omega))
               clear hown hg c0 c1 c2 c3 c4 c5 cf d0 d1 d2 d3 d4 d5 d6 df3 df5))
            refine bodyPost_ret (v := .tuple #[.slice AZ (rn + 1) kz, .int .i64 0]) (by rw [results_tmp2 (t := 10) (u := 11) rfl]; rfl) rfl ?_
            rw [HR0.out]
            refine ⟨AZ, rn + 1, kz, rfl, hkz, ?_, HBZ.out⟩
            have this := rowsAt_own HRZ.out (fun g e => (HRZ.out.lt g e).2) (by omega) (fun q9 hq9 => by
              rcases List.mem_append.1 hq9 with hq9 | hq9
              · exact wRaw_keys HRS.out q9 hq9
              · obtain rfl := List.mem_singleton.1 hq9
                rw [HQZ.out]
                refine ⟨?_, ?_, by show (⟨#[]⟩ : ByteArray).size ≤ _; decide, by show (⟨#[]⟩ : ByteArray).size ≤ _; decide, by show (⟨#[]⟩ : ByteArray).size ≤ _; decide⟩
                · have h1 := intsAt_own HOZ.out (by omega)
                  rw [HQ.out] at h1
                  show IntsAt _ _ A5 (flKeys b ⟨mu, md, d, id, fl, ks, tx⟩ words 1).length (flKeys b ⟨mu, md, d, id, fl, ks, tx⟩ words 1)
                  rw [HOL.out]
                  exact h1
                · show (flKeys b ⟨mu, md, d, id, fl, ks, tx⟩ words 1).length ≤ k5
                  rw [HOL.out, ← HQ.out]; exact hk5)
            rw [List.map_append, wRaw_r, show [q0].map RRaw.r = [q0.r] from rfl, HQZ.out] at this
            unfold flL
            rw [HTH.out]
            dsimp only
            rw [if_neg HNS.out, HRLN.out]
            exact this
end Go.Proofs.YtnicijeeocknaaaDoor.RmG1
