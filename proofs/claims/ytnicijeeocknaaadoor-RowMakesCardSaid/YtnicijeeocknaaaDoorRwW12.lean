/-
  Cut: the rows that take messages out of a box.
-/
import Derived.Test.YtnicijeeocknaaaDoorRwRo
import Derived.Test.YtnicijeeocknaaaDoorL3
import Derived.Test.YtnicijeeocknaaaDoorL1
import Derived.Test.YtnicijeeocknaaaDoorN5
set_option linter.unusedVariables false
set_option linter.unusedSimpArgs false
namespace Go.Proofs.YtnicijeeocknaaaDoor.RwW12
open Go.RowKit Go.Proofs.YtnicijeeocknaaaDoor.BxD Go.Proofs.YtnicijeeocknaaaDoor.BxKit Go.Proofs.YtnicijeeocknaaaDoor.BxA Go.Proofs.YtnicijeeocknaaaDoor.BxB Go.Proofs.YtnicijeeocknaaaDoor.BxF Go.Proofs.YtnicijeeocknaaaDoor.BxR Go.Proofs.YtnicijeeocknaaaDoor.BxC Go.Proofs.YtnicijeeocknaaaDoor.RwD Go.Proofs.YtnicijeeocknaaaDoor.RwM Go.Proofs.YtnicijeeocknaaaDoor.RwF Go.Proofs.YtnicijeeocknaaaDoor.RwKit Go.Proofs.YtnicijeeocknaaaDoor.RwOwn Go.Proofs.YtnicijeeocknaaaDoor.RwRo

def cutP (b : Box) (l : List Int) : List Row := if cutE b l = 0 then cutG b.high l else []
def raw0 (r : Row) : RRaw := ⟨r, none, 0⟩
theorem cutG_append : ∀ (a l : List Int) (h : Int), cutG h (a ++ l) = cutG h a ++ cutG (h + a.length) l
  | [], l, h => by simp [cutG]
  | u :: a, l, h => by
    have e : ∀ z : List Int, cutG h (u :: z) = ⟨3, u, h + 1, noM, emT⟩ :: cutG (h + 1) z := fun _ => rfl
    rw [List.cons_append, e, e, cutG_append a l (h + 1), List.cons_append, List.length_cons]
    rw [show h + ((a.length + 1 : Nat) : Int) = h + 1 + (a.length : Int) by push_cast; omega]
theorem aft_grown {w wr w2 : World} {o : Obj} {row : Option Nat} (h : After w o wr) (hg : wr.grownBy w2 row) (hr : ∀ g, row = some g → w.heap.size + 1 ≤ g) : After w o w2 := Below.grown h hg h.size hr
theorem cutG_snoc {l : List Int} {k : Nat} {x : Int} (h : Int) (hx : l[k]? = some x) : cutG h (l.take (k + 1)) = cutG h (l.take k) ++ [⟨3, x, h + 1 + k, noM, emT⟩] := by
  obtain ⟨hl, rfl⟩ := List.getElem?_eq_some_iff.1 hx
  rw [List.take_succ_eq_append_getElem hl, cutG_append]
  congr 1
  have : (l.take k).length = k := by rw [List.length_take]; omega
  simp only [cutG, this]
  congr 2
  omega
theorem cutG_keys : ∀ (l : List Int) (h : Int), ∀ r ∈ cutG h l, r.msg = noM ∧ r.text = emT
  | [], h, r, hr => by simp [cutG] at hr
  | u :: l, h, r, hr => by
    unfold cutG at hr
    rcases List.mem_cons.1 hr with rfl | hr
    · exact ⟨rfl, rfl⟩
    · exact cutG_keys l _ r hr
theorem cut_rkeys (w : World) (B : Nat) (l : List Int) (h : Int) : RKeys w B ((cutG h l).map raw0) := by
  intro q hq
  obtain ⟨r, hr, rfl⟩ := List.mem_map.1 hq
  obtain ⟨h1, h2⟩ := cutG_keys l h r hr
  have e1 : (raw0 r).r.msg = noM := h1
  have e2 : (raw0 r).r.text = emT := h2
  rw [e1, e2]
  exact ⟨RowAt.nil _ _ _ _ _, Nat.le_refl _, by decide, by decide, by decide⟩
theorem cut_stop {b : Box} {l : List Int} {k : Nat} {x : Int} (h0 : mbE b = 0) (hx : l[k]? = some x) (h : findI b.msgs x < 0 ∨ x ∈ l.take k) : cutE b l = 6 := by
  unfold cutE
  rw [if_neg (by omega), if_neg]
  intro ⟨h1, h2⟩
  rcases h with h | h
  · have := h1 x (List.mem_of_getElem? hx); omega
  · obtain ⟨i, hi, e⟩ := List.mem_take_iff_getElem.1 h
    obtain ⟨hk, e2⟩ := List.getElem?_eq_some_iff.1 hx
    exact List.pairwise_iff_getElem.1 h2 i k (by omega) hk (by omega) (e.trans e2.symm)
set_option maxHeartbeats 4000000 in
set_option maxRecDepth 100000 in
theorem cut_bad {w : World} {b : Box} {l : List Int} {WA MA A : Option Addr} {wn wc mn mcp n cp B : Nat} (hx : StrsAt w B WA wn b.words) (hm : MsgsAt w B MA mn b.msgs) (hwc : wn ≤ wc) (hmc : mn ≤ mcp) (hB : B ≤ w.heap.size) (hl : IntsAt w B A n l) (hn : n ≤ cp) {E : Int} (h0 : mbE b = E) (he : E ≠ 0) : Calls Tryd.prog 11 #[.agg #[.string b.id, .int .i64 b.valid, .int .i64 b.next, .int .i64 b.high, .slice WA wn wc, .slice MA mn mcp], .slice A n cp] w (RowsOut [] 1 w) := by
  have A0 := Lib.hid (After.start w (.cells #[.string b.id, .int .i64 b.valid, .int .i64 b.next, .int .i64 b.high, .slice WA wn wc, .slice MA mn mcp] 25))
  have hbl := A0.out.below
  have HX := Lib.hid (StrsAt.below hx hbl hB)
  have HM := Lib.hid (MsgsAt.below hm hbl hB)
  have HL := Lib.hid hl
  have HMW := Lib.hid hm
  have hnm := hl.max
  have H0 := Lib.hid h0
  clear hx hm hl h0 hbl
  go_enter Tryd.func11, Tryd.ntmps11
  go_upto_region 1 with fail
  generalize (World.alloc w _) = w1 at A0 HX HM ⊢
  have hs1 := A0.out.size
  have km := may_box (bid := b.id) (bv := b.valid) (bn := b.next) (bh := b.high) (mc := mcp) HX.out HM.out (by omega) hwc
  rw [show mbE ⟨b.id, b.valid, b.next, b.high, b.words, b.msgs⟩ = E from H0.out] at km
  have KM := Lib.hid km
  clear km
  obtain ⟨c0, c1, c2, c3, c4, c5⟩ := A0.out.box
  have he2 : (E == 0) = false := by simpa using he
  go_wp2_with (go_at_call 15; go_loud (
               refine KM.out.mono ?_
               rintro e w2 ⟨rfl, hb2⟩
               have A2 := Lib.hid (A0.out.go hb2)
               clear hb2))
  go_ret2
  exact ⟨none, 0, 0, rfl, Nat.le_refl _, RowAt.nil _ _ _ _ _, A2.out.below⟩
set_option maxHeartbeats 8000000 in
set_option maxRecDepth 100000 in
theorem cut_ok {w : World} {b : Box} {l : List Int} {WA MA A : Option Addr} {wn wc mn mcp n cp B : Nat} (hx : StrsAt w B WA wn b.words) (hm : MsgsAt w B MA mn b.msgs) (hwc : wn ≤ wc) (hmc : mn ≤ mcp) (hB : B ≤ w.heap.size) (hl : IntsAt w B A n l) (hn : n ≤ cp) (h0 : mbE b = 0) : Calls Tryd.prog 11 #[.agg #[.string b.id, .int .i64 b.valid, .int .i64 b.next, .int .i64 b.high, .slice WA wn wc, .slice MA mn mcp], .slice A n cp] w (RowsOut (cutP b l) (cutE b l) w) := by
  obtain ⟨R, hR⟩ : ∃ R, R = cutP b l := ⟨_, rfl⟩
  obtain ⟨E, hE⟩ : ∃ E, E = cutE b l := ⟨_, rfl⟩
  have HR := Lib.hid hR
  have HE := Lib.hid hE
  rw [← hR, ← hE]
  clear hR hE
  obtain ⟨_, _, _, hh, _⟩ := head_parts ((mb_iff b).1 h0).1
  have A0 := Lib.hid (After.start w (.cells #[.string b.id, .int .i64 b.valid, .int .i64 b.next, .int .i64 b.high, .slice WA wn wc, .slice MA mn mcp] 25))
  have hbl := A0.out.below
  have HX := Lib.hid (StrsAt.below hx hbl hB)
  have HM := Lib.hid (MsgsAt.below hm hbl hB)
  have HL := Lib.hid hl
  have HMW := Lib.hid hm
  have hnm := hl.max
  have H0 := Lib.hid h0
  clear hx hm hl h0 hbl
  go_enter Tryd.func11, Tryd.ntmps11
  go_upto_region 1 with fail
  generalize (World.alloc w _) = w1 at A0 HX HM ⊢
  have hs1 := A0.out.size
  have km := may_box (bid := b.id) (bv := b.valid) (bn := b.next) (bh := b.high) (mc := mcp) HX.out HM.out (by omega) hwc
  rw [show mbE ⟨b.id, b.valid, b.next, b.high, b.words, b.msgs⟩ = 0 from H0.out] at km
  have KM := Lib.hid km
  clear km
  obtain ⟨c0, c1, c2, c3, c4, c5⟩ := A0.out.box
  go_upto_region 3 with (go_at_call 15; go_loud (
               refine KM.out.mono ?_
               rintro e w2 ⟨rfl, hb2⟩
               have A2 := Lib.hid (A0.out.go hb2)
               have HM2 := Lib.hid (MsgsAt.below HM.out hb2 (by omega))
               have hs2 := hb2.size
               clear hb2 c0 c1 c2 c3 c4 c5))
  clear HM HX KM A0
  go_wp2_with fail
  go_loopw [16] (fun s16 wr => ∃ k : Nat, k ≤ n ∧ s16 = .int .i64 k ∧ Hid (After w (.cells #[.string b.id, .int .i64 b.valid, .int .i64 b.next, .int .i64 b.high, .slice WA wn wc, .slice MA mn mcp] 25) wr) ∧ Hid ((∀ u ∈ l.take k, 0 ≤ findI b.msgs u) ∧ (l.take k).Nodup)) (fun s16 _ => n - (intOf s16).toNat)
  case atStart => exact ⟨0, Nat.zero_le _, rfl, A2, ⟨by simp, by simp⟩⟩
  case round =>
    clear A2
    obtain ⟨k, hk, rfl, A2, HG⟩ := hrel
    have hsr := A2.out.size
    obtain ⟨c0, c1, c2, c3, c4, c5⟩ := A2.out.box
    by_cases hlt : k < n
    · obtain ⟨ad, x, rfl, e1, c6⟩ := IntsAt.at_ HL.out A2.out.below hB hlt
      have HE1 := Lib.hid e1
      clear e1
      have kf := find_any (bid := b.id) (bv := b.valid) (bn := b.next) (bh := b.high) (WA := WA) (wn := wn) (wc := wc) (mc := mcp) (uid := x) (MsgsAt.below HMW.out A2.out.below hB) (show B ≤ wr.heap.size by omega)
      obtain ⟨f, hf⟩ : ∃ f, f = findI b.msgs x := ⟨_, rfl⟩
      rw [← hf] at kf
      have KF := Lib.hid kf
      have HFI := Lib.hid hf
      clear kf hf
      by_cases hf0 : f < 0
      · have HQ := Lib.hid (cut_stop H0.out HE1.out (.inl (by rw [← HFI.out]; exact hf0)))
        go_wp2_with (go_at_call 30; go_loud (
               refine KF.out.mono ?_
               rintro e w3 ⟨rfl, hb3⟩
               have A3 := Lib.hid (A2.out.go hb3)
               clear hb3 c0 c1 c2 c3 c4 c5 c6))
        go_ret2
        rw [HR.out, HE.out]
        unfold cutP
        rw [HQ.out, if_neg (by decide)]
        exact ⟨none, 0, 0, rfl, Nat.le_refl _, RowAt.nil _ _ _ _ _, A3.out.below⟩
      · have KI := Lib.hid (fun (w3 : World) (hb : Below wr.heap.size wr w3) => containsI_any (cp := cp) x (RowAt.take (IntsAt.below HL.out (A2.out.below.trans (hb.mono (by omega))) hB) (k := k) hk))
        have hf1 : decide (f < 0) = false := decide_eq_false hf0
        by_cases hin : x ∈ l.take k
        · have HQ := Lib.hid (cut_stop H0.out HE1.out (.inr hin))
          have HIN := Lib.hid hin
          clear hin
          go_wp2_with (first
            | (go_at_call 30; go_loud (
               refine KF.out.mono ?_
               rintro e w3 ⟨rfl, hb3⟩
               have A3 := Lib.hid (A2.out.go hb3)
               have ki := KI.out w3 hb3
               rw [decide_eq_true HIN.out] at ki
               have KI3 := Lib.hid ki
               clear hb3 ki c0 c1 c2 c3 c4 c5 c6))
            | (go_at_call 36; go_loud (
               refine KI3.out.mono ?_
               rintro e w4 ⟨rfl, rfl⟩)))
          go_ret2
          rw [HR.out, HE.out]
          unfold cutP
          rw [HQ.out, if_neg (by decide)]
          exact ⟨none, 0, 0, rfl, Nat.le_refl _, RowAt.nil _ _ _ _ _, A3.out.below⟩
        · have hg2 : (∀ u ∈ l.take (k + 1), 0 ≤ findI b.msgs u) ∧ (l.take (k + 1)).Nodup := by
            obtain ⟨hl, hxe⟩ := List.getElem?_eq_some_iff.1 HE1.out
            rw [List.take_succ_eq_append_getElem hl, hxe]
            refine ⟨fun u hu => ?_, ?_⟩
            · rcases List.mem_append.1 hu with hu | hu
              · exact HG.out.1 u hu
              · obtain rfl := List.mem_singleton.1 hu
                have := HFI.out; omega
            · rw [List.nodup_append]
              exact ⟨HG.out.2, by simp, fun a ha c hc e => by obtain rfl := List.mem_singleton.1 hc; subst e; exact hin ha⟩
          have HG2 := Lib.hid hg2
          have HIN := Lib.hid hin
          clear hin hg2
          go_wp2_with (first
            | (go_at_call 30; go_loud (
               refine KF.out.mono ?_
               rintro e w3 ⟨rfl, hb3⟩
               have A3 := Lib.hid (A2.out.go hb3)
               have ki := KI.out w3 hb3
               rw [decide_eq_false HIN.out] at ki
               have KI3 := Lib.hid ki
               clear hb3 ki c0 c1 c2 c3 c4 c5 c6))
            | (go_at_call 36; go_loud (
               refine KI3.out.mono ?_
               rintro e w4 ⟨rfl, rfl⟩)))
          go_roundw
          case rel => exact ⟨k + 1, by omega, by go_num, A3, HG2⟩
          case measure => simp [intOf]; omega
    · obtain rfl : n = k := by omega
      have hok : cutOk b l := by
        have := HG.out
        rw [List.take_of_length_le (by rw [HL.out.len]; omega)] at this
        exact this
      have HOK := Lib.hid hok
      have hln := HL.out.len
      have hcE : cutE b l = if 1000000 < b.high + n then 9 else 0 := by unfold cutE; rw [if_neg (by have := H0.out; omega), if_pos hok, hln]
      have HCE := Lib.hid hcE
      clear hok hln hcE HG
      by_cases hov : 1000000 < b.high + (n : Int)
      · go_wp2_with fail
        go_ret2
        have hq := HCE.out
        rw [if_pos hov] at hq
        rw [HR.out, HE.out]
        unfold cutP
        rw [hq, if_neg (by decide)]
        exact ⟨none, 0, 0, rfl, Nat.le_refl _, RowAt.nil _ _ _ _ _, A2.out.below⟩
      · have hq := HCE.out
        rw [if_neg hov] at hq
        have HRR := Lib.hid (show R = cutG b.high l by rw [HR.out]; unfold cutP; rw [if_pos hq])
        have he0 : E = 0 := HE.out.trans hq
        clear hq HR HE HCE
        subst he0
        go_upto_region 12 with fail
        clear c0 c1 c2 c3 c4 c5
        have hov2 : b.high + (n : Int) ≤ 1000000 := by omega
        go_wp2_with fail
        go_loopw [41, 8] (fun s41 s8 wr => ∃ (j : Nat) (v : Value), v = s8 ∧ j ≤ n ∧ s41 = .int .i64 j ∧ Hid (After w (.cells #[.string b.id, .int .i64 b.valid, .int .i64 b.next, .int .i64 b.high, .slice WA wn wc, .slice MA mn mcp] 25) wr) ∧ Hid (wr.ownsRow (w.heap.size + 1) 51 11 v j (rc ((cutG b.high (l.take j)).map raw0)))) (fun s41 _ _ => n - (intOf s41).toNat)
        case atStart => exact ⟨0, _, rfl, Nat.zero_le _, rfl, A2, by rw [List.take_zero]; exact World.ownsRow_nil _ _ _ _⟩
        case round =>
          clear A2
          obtain ⟨j, v, rfl, hj, rfl, A4, HO⟩ := hrel
          have hs4 := A4.out.size
          obtain ⟨c0, c1, c2, c3, c4, c5⟩ := A4.out.box
          by_cases hlt2 : j < n
          · obtain ⟨ad, x, rfl, e1, c6⟩ := IntsAt.at_ HL.out A4.out.below hB hlt2
            have hs := src_row wr (raw0 ⟨3, x, b.high + 1 + (j : Int), noM, emT⟩)
            simp only [cell11, raw0, noM, emT, List.length_nil] at hs
            have HS := Lib.hid hs
            have HO5 := Lib.hid (HO.out.alloc (.cells #[.int .i64 3, .int .i64 x, .int .i64 (b.high + 1 + (j : Int)), .int .i64 0, .int .i64 0, .int .i64 0, .string ⟨#[]⟩, .int .i64 0, .slice none 0 0, .string ⟨#[]⟩, .string ⟨#[]⟩] 51))
            have HB9 := Lib.hid (show w.heap.size + 1 ≤ (wr.alloc (.cells #[.int .i64 3, .int .i64 x, .int .i64 (b.high + 1 + (j : Int)), .int .i64 0, .int .i64 0, .int .i64 0, .string ⟨#[]⟩, .int .i64 0, .slice none 0 0, .string ⟨#[]⟩, .string ⟨#[]⟩] 51)).heap.size by simp; omega)
            have HSN := Lib.hid (cutG_snoc b.high e1)
            clear hs e1
            go_wp2_with (at_builtin; go_loud (
               refine wpList_rows elR rfl _ _ rfl rfl rfl HO5.out HS.out (by unfold maxLen; omega) (by omega) HB9.out ?_
               intro v6 w6 hown hg6 _
               obtain ⟨A6, k6, rfl, hk6⟩ := own_slice hown
               have HO6 := Lib.hid (show w6.ownsRow (w.heap.size + 1) 51 11 (.slice A6 (j + 1) k6) (j + 1) (rc ((cutG b.high (l.take (j + 1))).map raw0)) by rw [HSN.out, List.map_append, List.map_singleton, rc_snoc]; exact hown)
               have A6' := Lib.hid (show After w (.cells #[.string b.id, .int .i64 b.valid, .int .i64 b.next, .int .i64 b.high, .slice WA wn wc, .slice MA mn mcp] 25) w6 from aft_grown (A4.out.alloc (.cells #[.int .i64 3, .int .i64 x, .int .i64 (b.high + 1 + (j : Int)), .int .i64 0, .int .i64 0, .int .i64 0, .string ⟨#[]⟩, .int .i64 0, .slice none 0 0, .string ⟨#[]⟩, .string ⟨#[]⟩] 51)) hg6 (fun g e => (HO.out.lt g e).1))
               clear hown hg6 c0 c1 c2 c3 c4 c5 c6))
            go_roundw
            case rel => exact ⟨j + 1, _, rfl, by omega, by go_num, A6', HO6⟩
            case measure => simp [intOf]; omega
          · obtain rfl : n = j := by omega
            have ho := HO.out
            rw [List.take_of_length_le (by rw [HL.out.len]; omega)] at ho
            obtain ⟨A6, k6, rfl, hk6⟩ := own_slice ho
            have HO6 := Lib.hid ho
            clear ho c0 c1 c2 c3 c4 c5
            go_wp2_with fail
            go_ret2
            rw [HRR.out]
            refine ⟨A6, n, k6, rfl, hk6, ?_, A4.out.below⟩
            have := rowsAt_own HO6.out (fun g e => (HO6.out.lt g e).2) (by omega) (cut_rkeys _ wr.heap.size l b.high)
            rw [List.map_map] at this
            have e : (RRaw.r ∘ raw0) = id := rfl
            rwa [e, List.map_id] at this
theorem cut_any {w : World} {b : Box} {l : List Int} {WA MA A : Option Addr} {wn wc mn mcp n cp B : Nat} (hx : StrsAt w B WA wn b.words) (hm : MsgsAt w B MA mn b.msgs) (hwc : wn ≤ wc) (hmc : mn ≤ mcp) (hB : B ≤ w.heap.size) (hl : IntsAt w B A n l) (hn : n ≤ cp) : Calls Tryd.prog 11 #[.agg #[.string b.id, .int .i64 b.valid, .int .i64 b.next, .int .i64 b.high, .slice WA wn wc, .slice MA mn mcp], .slice A n cp] w (RowsOut (cutP b l) (cutE b l) w) := by
  by_cases h0 : mbE b = 0
  · exact cut_ok hx hm hwc hmc hB hl hn h0
  · have e : cutE b l = 1 := by unfold cutE; rw [if_pos h0]
    unfold cutP
    rw [e, if_neg (by decide)]
    exact cut_bad hx hm hwc hmc hB hl hn rfl h0
end Go.Proofs.YtnicijeeocknaaaDoor.RwW12
