/-
  The document's Cut.
-/
import Derived.Test.YtnicijeeocknaaaDoorRmC
import Derived.Test.YtnicijeeocknaaaDoorRwW12
set_option linter.unusedVariables false
set_option linter.unusedSimpArgs false
namespace Go.Proofs.YtnicijeeocknaaaDoor.RmE
open Go.RowKit Go.Proofs.YtnicijeeocknaaaDoor.BxD Go.Proofs.YtnicijeeocknaaaDoor.BxKit Go.Proofs.YtnicijeeocknaaaDoor.BxA Go.Proofs.YtnicijeeocknaaaDoor.BxB Go.Proofs.YtnicijeeocknaaaDoor.BxF Go.Proofs.YtnicijeeocknaaaDoor.BxR Go.Proofs.YtnicijeeocknaaaDoor.BxC Go.Proofs.YtnicijeeocknaaaDoor.RwD Go.Proofs.YtnicijeeocknaaaDoor.RwM Go.Proofs.YtnicijeeocknaaaDoor.RwKit Go.Proofs.YtnicijeeocknaaaDoor.RwRo Go.Proofs.YtnicijeeocknaaaDoor.RwW12 Go.Proofs.YtnicijeeocknaaaDoor.RmD Go.Proofs.YtnicijeeocknaaaDoor.RmA Go.Proofs.YtnicijeeocknaaaDoor.RmB Go.Proofs.YtnicijeeocknaaaDoor.RmC

set_option maxHeartbeats 2000000 in
set_option maxRecDepth 100000 in
theorem refCut_bad {w : World} {b : Box} {l : List Int} {WA MA A : Option Addr} {wn wc mn mcp n cp B : Nat} (hx : StrsAt w B WA wn b.words) (hm : MsgsAt w B MA mn b.msgs) (hwc : wn ≤ wc) (hB : B ≤ w.heap.size) (hl : IntsAt w B A n l) (hn : n ≤ cp) {E : Int} (h0 : mbE b = E) (he : E ≠ 0) :
    Calls Tryd.prog 12 #[.agg #[.string b.id, .int .i64 b.valid, .int .i64 b.next, .int .i64 b.high, .slice WA wn wc, .slice MA mn mcp], .slice A n cp] w (RowsOut [] 1 w) := by
  have A0 := Lib.hid (After.start w (.cells #[.string b.id, .int .i64 b.valid, .int .i64 b.next, .int .i64 b.high, .slice WA wn wc, .slice MA mn mcp] 25))
  have hbl := A0.out.below
  have km := ref_may (bid := b.id) (bv := b.valid) (bn := b.next) (bh := b.high) (mc := mcp) (StrsAt.below hx hbl hB) (MsgsAt.below hm hbl hB) (by simp; omega) hwc
  rw [show mbE ⟨b.id, b.valid, b.next, b.high, b.words, b.msgs⟩ = E from h0] at km
  have KM := Lib.hid km
  have he2 : (E != 0) = true := by simpa using he
  clear hbl km hx hm hl h0 he
  go_enter Tryd.func12, Tryd.ntmps12
  go_upto_region 1 with fail
  generalize (World.alloc w _) = w1 at A0 KM ⊢
  obtain ⟨c0, c1, c2, c3, c4, c5⟩ := A0.out.box
  go_wp2_with (go_at_call 23; go_loud (
               refine KM.out.mono ?_
               rintro e w2 ⟨rfl, hb2⟩
               have A2 := Lib.hid (A0.out.go hb2)
               clear hb2))
  refine bodyPost_ret (v := .tuple #[.slice none 0 0, .int .i64 1]) (by rw [results_tmp2 (t := 4) (u := 5) rfl]; rfl) rfl ?_
  exact ⟨none, 0, 0, rfl, Nat.le_refl _, RowAt.nil _ _ _ _ _, A2.out.below⟩
set_option maxHeartbeats 8000000 in
set_option maxRecDepth 100000 in
theorem refCut_ok {w : World} {b : Box} {l : List Int} {WA MA A : Option Addr} {wn wc mn mcp n cp B : Nat} (hx : StrsAt w B WA wn b.words) (hm : MsgsAt w B MA mn b.msgs) (hwc : wn ≤ wc) (hB : B ≤ w.heap.size) (hl : IntsAt w B A n l) (hn : n ≤ cp) (h0 : mbE b = 0) (hn6 : n ≤ 1000000) :
    Calls Tryd.prog 12 #[.agg #[.string b.id, .int .i64 b.valid, .int .i64 b.next, .int .i64 b.high, .slice WA wn wc, .slice MA mn mcp], .slice A n cp] w (RowsOut (cutP b l) (cutE b l) w) := by
  obtain ⟨R, hR⟩ : ∃ R, R = cutP b l := ⟨_, rfl⟩
  obtain ⟨E, hE⟩ : ∃ E, E = cutE b l := ⟨_, rfl⟩
  have HR := Lib.hid hR
  have HE := Lib.hid hE
  rw [← hR, ← hE]
  clear hR hE
  obtain ⟨_, _, _, hh, _⟩ := head_parts ((mb_iff b).1 h0).1
  have A0 := Lib.hid (After.start w (.cells #[.string b.id, .int .i64 b.valid, .int .i64 b.next, .int .i64 b.high, .slice WA wn wc, .slice MA mn mcp] 25))
  have hbl := A0.out.below
  have HX := Lib.hid (StrsAt.below hx hbl hB)
  have HM := Lib.hid (MsgsAt.below hm hbl hB)
  have HL := Lib.hid hl
  have HMW := Lib.hid hm
  have hnm := hl.max
  have H0 := Lib.hid h0
  clear hx hm hl h0 hbl
  go_enter Tryd.func12, Tryd.ntmps12
  go_upto_region 1 with fail
  generalize (World.alloc w _) = w1 at A0 HX HM ⊢
  have hs1 := A0.out.size
  have km := ref_may (bid := b.id) (bv := b.valid) (bn := b.next) (bh := b.high) (mc := mcp) HX.out HM.out (by omega) hwc
  rw [show mbE ⟨b.id, b.valid, b.next, b.high, b.words, b.msgs⟩ = 0 from H0.out] at km
  have KM := Lib.hid km
  clear km
  obtain ⟨c0, c1, c2, c3, c4, c5⟩ := A0.out.box
  go_upto_region 3 with (go_at_call 23; go_loud (
               refine KM.out.mono ?_
               rintro e w2 ⟨rfl, hb2⟩
               have A2 := Lib.hid (A0.out.go hb2)
               clear hb2 c0 c1 c2 c3 c4 c5))
  clear HM HX KM A0
  go_upto_region 5 with fail
  go_loopw [14, 6] (fun s14 s6 wr => ∃ (k : Nat) (v : Value), v = s6 ∧ k ≤ n ∧ s14 = .int .i64 k ∧ Hid (After w (.cells #[.string b.id, .int .i64 b.valid, .int .i64 b.next, .int .i64 b.high, .slice WA wn wc, .slice MA mn mcp] 25) wr) ∧ Hid ((∀ u ∈ l.take k, 0 ≤ findI b.msgs u) ∧ (l.take k).Nodup) ∧ Hid (wr.ownsRow (w.heap.size + 1) 51 11 v k (rc ((cutG b.high (l.take k)).map raw0)))) (fun s14 _ _ => n - (intOf s14).toNat)
  case atStart => exact ⟨0, _, rfl, Nat.zero_le _, rfl, A2, ⟨by simp, by simp⟩, by rw [List.take_zero]; exact World.ownsRow_nil _ _ _ _⟩
  case round =>
    clear A2
    obtain ⟨k, v, rfl, hk, rfl, A2, HG, HO⟩ := hrel
    have hsr := A2.out.size
    obtain ⟨c0, c1, c2, c3, c4, c5⟩ := A2.out.box
    by_cases hlt : k < n
    · obtain ⟨ad, x, rfl, e1, c6⟩ := IntsAt.at_ HL.out A2.out.below hB hlt
      have HE1 := Lib.hid e1
      clear e1
      have kf := refFind_any (bid := b.id) (bv := b.valid) (bn := b.next) (bh := b.high) (WA := WA) (wn := wn) (wc := wc) (mc := mcp) (uid := x) (MsgsAt.below HMW.out A2.out.below hB) (show B ≤ wr.heap.size by omega)
      obtain ⟨f, hf⟩ : ∃ f, f = findI b.msgs x := ⟨_, rfl⟩
      rw [← hf] at kf
      have KF := Lib.hid kf
      have HFI := Lib.hid hf
      have g0 : (0 : Int) ≤ (k : Int) := by omega
      have g1 : (k : Int) < (n : Int) := by omega
      have g2 : (k : Int) ≤ (cp : Int) := by omega
      clear kf hf
      by_cases hf0 : f < 0
      · have HQ := Lib.hid (cut_stop H0.out HE1.out (.inl (by rw [← HFI.out]; exact hf0)))
        go_wp2_with (go_at_call 33; go_loud (
               refine KF.out.mono ?_
               rintro e w3 ⟨rfl, hb3⟩
               have A3 := Lib.hid (A2.out.go hb3)
               clear hb3 c0 c1 c2 c3 c4 c5 c6))
        refine bodyPost_ret (v := .tuple #[.slice none 0 0, .int .i64 6]) (by rw [results_tmp2 (t := 4) (u := 5) rfl]; rfl) rfl ?_
        rw [HR.out, HE.out]
        unfold cutP
        rw [HQ.out, if_neg (by decide)]
        exact ⟨none, 0, 0, rfl, Nat.le_refl _, RowAt.nil _ _ _ _ _, A3.out.below⟩
      · have KI := Lib.hid (fun (w3 : World) (hb : Below wr.heap.size wr w3) => hasInt_any (cp := cp) (x := x) (RowAt.take (IntsAt.below HL.out (A2.out.below.trans (hb.mono (by omega))) hB) (k := k) hk))
        have hf1 : decide (f < 0) = false := decide_eq_false hf0
        by_cases hin : x ∈ l.take k
        · have HQ := Lib.hid (cut_stop H0.out HE1.out (.inr hin))
          have HIN := Lib.hid hin
          clear hin
          go_wp2_with (first
            | (go_at_call 33; go_loud (
               refine KF.out.mono ?_
               rintro e w3 ⟨rfl, hb3⟩
               have A3 := Lib.hid (A2.out.go hb3)
               have ki := KI.out w3 hb3
               rw [decide_eq_true HIN.out] at ki
               have KI3 := Lib.hid ki
               clear hb3 ki c0 c1 c2 c3 c4 c5 c6))
            | (go_at_call 34; go_loud (
               refine KI3.out.mono ?_
               rintro e w4 ⟨rfl, rfl⟩)))
          refine bodyPost_ret (v := .tuple #[.slice none 0 0, .int .i64 6]) (by rw [results_tmp2 (t := 4) (u := 5) rfl]; rfl) rfl ?_
          rw [HR.out, HE.out]
          unfold cutP
          rw [HQ.out, if_neg (by decide)]
          exact ⟨none, 0, 0, rfl, Nat.le_refl _, RowAt.nil _ _ _ _ _, A3.out.below⟩
        · have hg2 : (∀ u ∈ l.take (k + 1), 0 ≤ findI b.msgs u) ∧ (l.take (k + 1)).Nodup := by
            obtain ⟨hl, hxe⟩ := List.getElem?_eq_some_iff.1 HE1.out
            rw [List.take_succ_eq_append_getElem hl, hxe]
            refine ⟨fun u hu => ?_, ?_⟩
            · rcases List.mem_append.1 hu with hu | hu
              · exact HG.out.1 u hu
              · obtain rfl := List.mem_singleton.1 hu
                have := HFI.out; omega
            · rw [List.nodup_append]
              exact ⟨HG.out.2, by simp, fun a ha c hc e => by obtain rfl := List.mem_singleton.1 hc; subst e; exact hin ha⟩
          have HG2 := Lib.hid hg2
          have HIN := Lib.hid hin
          clear hin hg2
          go_upto_region 9 with (first
            | (go_at_call 33; go_loud (
               refine KF.out.mono ?_
               rintro e w3 ⟨rfl, hb3⟩
               have A3 := Lib.hid (A2.out.go hb3)
               have HO3 := Lib.hid (own_go HO.out hb3)
               have ki := KI.out w3 hb3
               rw [decide_eq_false HIN.out] at ki
               have KI3 := Lib.hid ki
               clear hb3 ki c0 c1 c2 c3 c4 c5 c6))
            | (go_at_call 34; go_loud (
               refine KI3.out.mono ?_
               rintro e w4 ⟨rfl, rfl⟩)))
          obtain ⟨c0, c1, c2, c3, c4, c5⟩ := A3.out.box
          have hs4 := A3.out.size
          have hs := src_row w3 (raw0 ⟨3, x, b.high + (k : Int) + 1, noM, emT⟩)
          simp only [cell11, raw0, noM, emT, List.length_nil] at hs
          have HS := Lib.hid hs
          have HO5 := Lib.hid (HO3.out.alloc (.cells #[.int .i64 3, .int .i64 x, .int .i64 (b.high + (k : Int) + 1), .int .i64 0, .int .i64 0, .int .i64 0, .string ⟨#[]⟩, .int .i64 0, .slice none 0 0, .string ⟨#[]⟩, .string ⟨#[]⟩] 51))
          have HB9 := Lib.hid (show w.heap.size + 1 ≤ (w3.alloc (.cells #[.int .i64 3, .int .i64 x, .int .i64 (b.high + (k : Int) + 1), .int .i64 0, .int .i64 0, .int .i64 0, .string ⟨#[]⟩, .int .i64 0, .slice none 0 0, .string ⟨#[]⟩, .string ⟨#[]⟩] 51)).heap.size by simp; omega)
          have HSN := Lib.hid (cutG_snoc b.high HE1.out)
          clear hs
          go_wp2_with (at_builtin; go_loud (
               refine wpList_rows elR rfl _ _ rfl rfl rfl HO5.out HS.out (by unfold maxLen; omega) (by omega) HB9.out ?_
               intro v6 w6 hown hg6 _
               obtain ⟨A6, k6, rfl, hk6⟩ := own_slice hown
               have HO6 := Lib.hid (show w6.ownsRow (w.heap.size + 1) 51 11 (.slice A6 (k + 1) k6) (k + 1) (rc ((cutG b.high (l.take (k + 1))).map raw0)) by rw [HSN.out, List.map_append, List.map_singleton, rc_snoc, show b.high + 1 + (k : Int) = b.high + (k : Int) + 1 by omega]; exact hown)
               have A6' := Lib.hid (show After w (.cells #[.string b.id, .int .i64 b.valid, .int .i64 b.next, .int .i64 b.high, .slice WA wn wc, .slice MA mn mcp] 25) w6 from aft_grown (A3.out.alloc (.cells #[.int .i64 3, .int .i64 x, .int .i64 (b.high + (k : Int) + 1), .int .i64 0, .int .i64 0, .int .i64 0, .string ⟨#[]⟩, .int .i64 0, .slice none 0 0, .string ⟨#[]⟩, .string ⟨#[]⟩] 51)) hg6 (fun g e => (HO5.out.lt g e).1))
               clear hown hg6 c0 c1 c2 c3 c4 c5))
          go_roundw
          case rel => exact ⟨k + 1, _, rfl, by omega, by go_num, A6', HG2, HO6⟩
          case measure => simp [intOf]; omega
    · obtain rfl : n = k := by omega
      have hok : cutOk b l := by
        have := HG.out
        rw [List.take_of_length_le (by rw [HL.out.len]; omega)] at this
        exact this
      have hln := HL.out.len
      have hcE : cutE b l = if 1000000 < b.high + n then 9 else 0 := by unfold cutE; rw [if_neg (by have := H0.out; omega), if_pos hok, hln]
      have HCE := Lib.hid hcE
      clear hok hln hcE HG
      by_cases hov : 1000000 < b.high + (n : Int)
      · go_wp2_with fail
        refine bodyPost_ret (v := .tuple #[.slice none 0 0, .int .i64 9]) (by rw [results_tmp2 (t := 4) (u := 5) rfl]; rfl) rfl ?_
        have hq := HCE.out
        rw [if_pos hov] at hq
        rw [HR.out, HE.out]
        unfold cutP
        rw [hq, if_neg (by decide)]
        exact ⟨none, 0, 0, rfl, Nat.le_refl _, RowAt.nil _ _ _ _ _, A2.out.below⟩
      · have hq := HCE.out
        rw [if_neg hov] at hq
        have HRR := Lib.hid (show R = cutG b.high l by rw [HR.out]; unfold cutP; rw [if_pos hq])
        have he0 : E = 0 := HE.out.trans hq
        clear hq HR HE HCE
        subst he0
        have hov2 : b.high + (n : Int) ≤ 1000000 := by omega
        have ho := HO.out
        rw [List.take_of_length_le (by rw [HL.out.len]; omega)] at ho
        obtain ⟨A6, k6, rfl, hk6⟩ := own_slice ho
        have HO6 := Lib.hid ho
        clear ho
        go_wp2_with fail
        refine bodyPost_ret (v := .tuple #[.slice A6 n k6, .int .i64 0]) (by rw [results_tmp2 (t := 4) (u := 5) rfl]; rfl) rfl ?_
        rw [HRR.out]
        refine ⟨A6, n, k6, rfl, hk6, ?_, A2.out.below⟩
        have := rowsAt_own HO6.out (fun g e => (HO6.out.lt g e).2) (by omega) (cut_rkeys _ wr.heap.size l b.high)
        rw [List.map_map] at this
        have e : (RRaw.r ∘ raw0) = id := rfl
        rwa [e, List.map_id] at this
theorem refCut_any {w : World} {b : Box} {l : List Int} {WA MA A : Option Addr} {wn wc mn mcp n cp B : Nat} (hx : StrsAt w B WA wn b.words) (hm : MsgsAt w B MA mn b.msgs) (hwc : wn ≤ wc) (hB : B ≤ w.heap.size) (hl : IntsAt w B A n l) (hn : n ≤ cp) (hn6 : n ≤ 1000000) :
    Calls Tryd.prog 12 #[.agg #[.string b.id, .int .i64 b.valid, .int .i64 b.next, .int .i64 b.high, .slice WA wn wc, .slice MA mn mcp], .slice A n cp] w (RowsOut (cutP b l) (cutE b l) w) := by
  by_cases h0 : mbE b = 0
  · exact refCut_ok hx hm hwc hB hl hn h0 hn6
  · have e : cutE b l = 1 := by unfold cutE; rw [if_pos h0]
    unfold cutP
    rw [e, if_neg (by decide)]
    exact refCut_bad hx hm hwc hB hl hn rfl h0
end Go.Proofs.YtnicijeeocknaaaDoor.RmE
