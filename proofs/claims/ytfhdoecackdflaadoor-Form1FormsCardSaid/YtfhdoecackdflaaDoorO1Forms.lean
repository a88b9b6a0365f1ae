/-
  Form1Forms: any box, any bytes, any ID: as the document answers.
-/
import Derived.Test.YtfhdoecackdflaaDoorO1Aw
import Derived.Test.YtfhdoecackdflaaDoorOlQ1
import Derived.Test.YtfhdoecackdflaaDoorBxH
import Derived.Test.YtfhdoecackdflaaDoorK7
set_option linter.unusedVariables false
set_option linter.unusedSimpArgs false
namespace Go.Proofs.YtfhdoecackdflaaDoor.O1Forms
open Go.Proofs.YtfhdoecackdflaaDoor.PtK
open Go.RowKit Go.Proofs.YtfhdoecackdflaaDoor.BxD Go.Proofs.YtfhdoecackdflaaDoor.BxKit Go.Proofs.YtfhdoecackdflaaDoor.BxB Go.Proofs.YtfhdoecackdflaaDoor.BxH Go.Proofs.YtfhdoecackdflaaDoor.BxS Go.Proofs.YtfhdoecackdflaaDoor.OlD Go.Proofs.YtfhdoecackdflaaDoor.OlU Go.Proofs.YtfhdoecackdflaaDoor.OlY
open Go.Proofs.YtfhdoecackdflaaDoor.PkKit (BytesAt)
open Go.Proofs.YtfhdoecackdflaaDoor.PtK (BytesOut)

set_option maxHeartbeats 4000000 in
set_option maxRecDepth 100000 in
theorem walk {b : Box} {l : List UInt8} {id : ByteArray} {WA MA SA : Option Addr} {wn wcp mn mcp sn scp : Nat} {w : World} (ht : BxO.Tab w) (h1 : StrsAt w w.heap.size WA wn b.words) (h2 : MsgsAt w w.heap.size MA mn b.msgs) (h3 : BytesAt w w.heap.size SA sn l) (hwc : wn ≤ wcp) (hmc : mn ≤ mcp) (hsc : sn ≤ scp) (hsn : sn ≤ 140737488355328) (z1 : b.id.size ≤ 140737488355328) (z2 : id.size ≤ 140737488355328) :
    Calls Tryd.prog 3 #[.agg #[.string b.id, .int .i64 b.valid, .int .i64 b.next, .int .i64 b.high, .slice WA wn wcp, .slice MA mn mcp], .slice SA sn scp, .string id] w fun e w' => e = .returned (.bool true) ∧ Below w.heap.size w w' := by
  have KH := fun o => heavy_any (bid := b.id) (bv := b.valid) (bn := b.next) (bh := b.high) (wc := wcp) (mc := mcp) (StrsAt.below h1 ((Below.refl _ w).alloc (Nat.le_refl _) o) (Nat.le_refl _)) (MsgsAt.below h2 ((Below.refl _ w).alloc (Nat.le_refl _) o) (Nat.le_refl _)) (by simp) (by simp) z1
  have HAW := Lib.hid (fun (wr : World) => O1Aw.awake wr)
  have HS := Lib.hid (After.start w (.cells #[.string b.id, .int .i64 b.valid, .int .i64 b.next, .int .i64 b.high, .slice WA wn wcp, .slice MA mn mcp] 25))
  have HX := Lib.hid h1
  have HM := Lib.hid h2
  have HZ := Lib.hid h3
  have HT := Lib.hid ht
  have HWC := Lib.hid hwc
  have HMC := Lib.hid hmc
  clear h1 h2 h3 ht hwc hmc
  rcases hv_or b.id b.words b.msgs with hh | ⟨hh, _, _, _⟩
  · simp only [hh] at KH
    have K1 := Lib.hid KH
    clear KH hh
    go_enter Tryd.func3, Tryd.ntmps3
    go_wp2_with fail
    refine (K1.out _).mono ?_
    rintro e w1 ⟨rfl, hb1⟩
    have HB := Lib.hid (HS.out.go hb1).below
    clear hb1
    go_wp2_with (go_at_call 12; refine (HAW.out _).mono ?_; rintro e w2 ⟨rfl, hb2⟩)
    go_ret
    exact ⟨rfl, HB.out.trans (hb2.mono HB.out.size)⟩
  simp only [hh] at KH
  have K1 := Lib.hid KH
  clear KH hh
  by_cases h4 : 40000 < sn
  · have h4' : (40000 : Int) < (sn : Int) := by omega
    go_enter Tryd.func3, Tryd.ntmps3
    go_wp2_with fail
    refine (K1.out _).mono ?_
    rintro e w1 ⟨rfl, hb1⟩
    have HB := Lib.hid (HS.out.go hb1).below
    clear hb1
    go_wp2_with (go_at_call 12; refine (HAW.out _).mono ?_; rintro e w2 ⟨rfl, hb2⟩)
    go_ret
    exact ⟨rfl, HB.out.trans (hb2.mono HB.out.size)⟩
  have h4' : ¬ (40000 : Int) < (sn : Int) := by omega
  by_cases h5 : 100 < id.size
  · have h5' : (100 : Int) < (id.size : Int) := by omega
    go_enter Tryd.func3, Tryd.ntmps3
    go_wp2_with fail
    refine (K1.out _).mono ?_
    rintro e w1 ⟨rfl, hb1⟩
    have HB := Lib.hid (HS.out.go hb1).below
    clear hb1
    go_wp2_with (go_at_call 12; refine (HAW.out _).mono ?_; rintro e w2 ⟨rfl, hb2⟩)
    go_ret
    exact ⟨rfl, HB.out.trans (hb2.mono HB.out.size)⟩
  have h5' : ¬ (100 : Int) < (id.size : Int) := by omega
  -- both tell the same bytes, and the same error
  have hbo : ∃ (L : List UInt8) (E : Int), ∀ wr : World, Below w.heap.size w wr → Calls Tryd.prog 13 #[.agg #[.string b.id, .int .i64 b.valid, .int .i64 b.next, .int .i64 b.high, .slice WA wn wcp, .slice MA mn mcp]] wr (BytesOut L E wr) ∧ Calls Tryd.prog 14 #[.int .i64 1, .agg #[.string b.id, .int .i64 b.valid, .int .i64 b.next, .int .i64 b.high, .slice WA wn wcp, .slice MA mn mcp]] wr (BytesOut L E wr) := by
    by_cases h0 : mbE b = 0
    · exact ⟨eb false b, 0, fun wr hb => ⟨OlW.bytes1_ok (StrsAt.below HX.out hb (Nat.le_refl _)) (MsgsAt.below HM.out hb (Nat.le_refl _)) HWC.out HMC.out hb.size h0, OlOld.old1_ok (HT.out.below hb (Nat.le_refl _)) (StrsAt.below HX.out hb (Nat.le_refl _)) (MsgsAt.below HM.out hb (Nat.le_refl _)) HWC.out HMC.out hb.size h0⟩⟩
    · exact ⟨[], 1, fun wr hb => ⟨OlW.bytes1_bad (mc := mcp) (StrsAt.below HX.out hb (Nat.le_refl _)) (MsgsAt.below HM.out hb (Nat.le_refl _)) HWC.out hb.size h0, OlOld.old_bad (mc := mcp) 1 (StrsAt.below HX.out hb (Nat.le_refl _)) (MsgsAt.below HM.out hb (Nat.le_refl _)) HWC.out hb.size h0⟩⟩
  obtain ⟨L, E, hbo⟩ := hbo
  have HBO := Lib.hid hbo
  have hpo : ∃ (P : Box) (F : Int), ∀ wr : World, Below w.heap.size w wr → Calls Tryd.prog 15 #[.slice SA sn scp, .string id] wr (ParseOut P F wr) ∧ Calls Tryd.prog 16 #[.int .i64 1, .slice SA sn scp, .string id] wr (ParseOut P F wr) :=
    ⟨(parseS false l id).1, (parseS false l id).2, fun wr hb => ⟨(OlW.parse1_any (HT.out.below hb (Nat.le_refl _)) (HZ.out.below hb (Nat.le_refl _)) hb.size hsc hsn (by omega)).mono (fun _ _ => ParseNew.out), OlQ1.parse_old (HT.out.below hb (Nat.le_refl _)) (HZ.out.below hb (Nat.le_refl _)) hb.size hsc hsn (by omega)⟩⟩
  obtain ⟨P, F, hpo⟩ := hpo
  have HPO := Lib.hid hpo
  clear hbo hpo
  go_enter Tryd.func3, Tryd.ntmps3
  go_wp2_with fail
  refine (K1.out _).mono ?_
  rintro e w1 ⟨rfl, hb1⟩
  have HB := Lib.hid (HS.out.go hb1)
  obtain ⟨b0, b1, b2, b3, b4, b5⟩ := HB.out.box
  clear hb1 K1 HS
  have KB := Lib.hid (HBO.out w1 HB.out.below).1
  go_upto_region 4 with (go_at_call 13; go_loud (
     refine KB.out.mono ?_
     rintro e w2 ⟨A2, n2, c2, rfl, hc2, hx2, hb2⟩
     have HB2 := Lib.hid (HB.out.go hb2)
     have X2 := Lib.hid hx2
     have Z2 := Lib.hid hb2
     clear hx2 hb2 b0 b1 b2 b3 b4 b5))
  obtain ⟨b0, b1, b2, b3, b4, b5⟩ := HB2.out.box
  have KB2 := Lib.hid (HBO.out w2 HB2.out.below).2
  go_upto_region 5 with (go_at_call 14; go_loud (
     refine KB2.out.mono ?_
     rintro e w3 ⟨A3, n3, c3, rfl, hc3, hx3, hb3⟩
     have HB3 := Lib.hid (HB2.out.go hb3)
     have X3 := Lib.hid hx3
     have Z3 := Lib.hid hb3
     clear hx3 hb3 b0 b1 b2 b3 b4 b5))
  clear KB KB2 HBO
  have KP := Lib.hid (HPO.out w3 HB3.out.below).1
  go_upto_region 6 with (go_at_call 15; go_loud (
     refine KP.out.mono ?_
     rintro e w4 ⟨W4, wn4, wc4, M4, mn4, mc4, rfl, _, _, hw4, hm4, hb4⟩
     have HB4 := Lib.hid (HB3.out.go hb4)
     have W4' := Lib.hid hw4
     have M4' := Lib.hid hm4
     have Z4 := Lib.hid hb4
     clear hw4 hm4 hb4))
  have Z5 := Lib.hid ((Below.refl w4.heap.size w4).alloc (Nat.le_refl _) (.cells #[.string P.id, .int .i64 P.valid, .int .i64 P.next, .int .i64 P.high, .slice W4 wn4 wc4, .slice M4 mn4 mc4] 25))
  have C5 := Lib.hid (heap_alloc_new w4 (.cells #[.string P.id, .int .i64 P.valid, .int .i64 P.next, .int .i64 P.high, .slice W4 wn4 wc4, .slice M4 mn4 mc4] 25))
  obtain ⟨L5, hL5⟩ : ∃ L5, L5 = w4.heap.size := ⟨_, rfl⟩
  rw [← hL5] at C5 ⊢
  clear hL5 KP
  generalize (World.alloc w4 _) = w5 at Z5 C5 ⊢
  have HB5 := Lib.hid (HB4.out.go Z5.out)
  have KQ := Lib.hid (HPO.out w5 HB5.out.below).2
  have hs45 := Z5.out.size
  have h5w := (Array.getElem?_eq_some_iff.1 C5.out).1
  go_upto_region 7 with (go_at_call 16; go_loud (
     refine KQ.out.mono ?_
     rintro e w6 ⟨W6, wn6, wc6, M6, mn6, mc6, rfl, _, _, hw6, hm6, hb6⟩
     have HB6 := Lib.hid (HB5.out.go hb6)
     have W6' := Lib.hid hw6
     have M6' := Lib.hid hm6
     have Z6 := Lib.hid hb6
     clear hw6 hm6 hb6))
  have Z7 := Lib.hid ((Below.refl w6.heap.size w6).alloc (Nat.le_refl _) (.cells #[.string P.id, .int .i64 P.valid, .int .i64 P.next, .int .i64 P.high, .slice W6 wn6 wc6, .slice M6 mn6 mc6] 25))
  have C7 := Lib.hid (heap_alloc_new w6 (.cells #[.string P.id, .int .i64 P.valid, .int .i64 P.next, .int .i64 P.high, .slice W6 wn6 wc6, .slice M6 mn6 mc6] 25))
  obtain ⟨L7, hL7⟩ : ∃ L7, L7 = w6.heap.size := ⟨_, rfl⟩
  rw [← hL7] at C7 ⊢
  clear hL7 KQ HPO
  generalize (World.alloc w6 _) = w7 at Z7 C7 ⊢
  have HB7 := Lib.hid (HB6.out.go Z7.out)
  have hs56 := Z6.out.size
  have hs67 := Z7.out.size
  have hs34 := Z4.out.size
  have hs23 := Z3.out.size
  have C5b := Lib.hid ((Z7.out.block L5 (by omega)).trans ((Z6.out.block L5 h5w).trans C5.out))
  have y37 : Below w3.heap.size w3 w7 := Z4.out.trans ((Z5.out.mono hs34).trans ((Z6.out.mono (by omega)).trans (Z7.out.mono (by omega))))
  have y47 : Below w4.heap.size w4 w7 := Z5.out.trans ((Z6.out.mono hs45).trans (Z7.out.mono (by omega)))
  have q2 := (X2.out.below (Z3.out.trans (y37.mono hs23)) (Nat.le_refl _)).conv c2
  have q3 := (X3.out.below y37 (Nat.le_refl _)).conv c3
  obtain ⟨S, hS⟩ : ∃ S : ByteArray, S = ⟨L.toArray⟩ := ⟨_, rfl⟩
  rw [← hS] at q2 q3
  have hq : (S.toList == S.toList) = true := by simp
  have ks := BxX.refSame_any (bid := P.id) (bv := P.valid) (bn := P.next) (bh := P.high) (wc := wc4) (mc := mc4) (bid' := P.id) (bv' := P.valid) (bn' := P.next) (bh' := P.high) (wc' := wc6) (mc' := mc6) (StrsAt.below W4'.out y47 (Nat.le_refl _)) (MsgsAt.below M4'.out y47 (Nat.le_refl _)) (StrsAt.below W6'.out Z7.out (Nat.le_refl _)) (MsgsAt.below M6'.out Z7.out (Nat.le_refl _)) y47.size y47.size hs67 hs67
  rw [eqX_eq rfl] at ks
  have KS := Lib.hid ks
  clear hS ks y37 y47 X2 X3
  have c := fun o => cell_of_row w7 L5 o _ _ _ C5b.out
  have d := fun o => cell_of_row w7 L7 o _ _ _ C7.out
  have x0 := (c 0).trans (show _ = some (Value.string P.id) from rfl)
  have x1 := (c 1).trans (show _ = some (Value.int .i64 P.valid) from rfl)
  have x2 := (c 2).trans (show _ = some (Value.int .i64 P.next) from rfl)
  have x3 := (c 3).trans (show _ = some (Value.int .i64 P.high) from rfl)
  have x4 := (c 4).trans (show _ = some (Value.slice W4 wn4 wc4) from rfl)
  have x5 := (c 5).trans (show _ = some (Value.slice M4 mn4 mc4) from rfl)
  have y0 := (d 0).trans (show _ = some (Value.string P.id) from rfl)
  have y1 := (d 1).trans (show _ = some (Value.int .i64 P.valid) from rfl)
  have y2 := (d 2).trans (show _ = some (Value.int .i64 P.next) from rfl)
  have y3 := (d 3).trans (show _ = some (Value.int .i64 P.high) from rfl)
  have y4 := (d 4).trans (show _ = some (Value.slice W6 wn6 wc6) from rfl)
  have y5 := (d 5).trans (show _ = some (Value.slice M6 mn6 mc6) from rfl)
  clear c d
  go_wp2_with (first
    | (go_at_call 17; go_loud (
       refine KS.out.mono ?_
       rintro e w8 ⟨rfl, hb8⟩
       have HB8 := Lib.hid (HB7.out.go hb8)
       clear hb8 x0 x1 x2 x3 x4 x5 y0 y1 y2 y3 y4 y5))
    | (go_at_call 12; refine (HAW.out _).mono ?_; rintro e w9 ⟨rfl, hb9⟩))
  go_ret
  exact ⟨rfl, HB8.out.below.trans (hb9.mono HB8.out.below.size)⟩
end Go.Proofs.YtfhdoecackdflaaDoor.O1Forms
