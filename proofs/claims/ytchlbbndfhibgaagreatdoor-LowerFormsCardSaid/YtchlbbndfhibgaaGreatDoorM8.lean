/-
  LwB + LwQ
-/
import Derived.Test.YtchlbbndfhibgaaGreatDoorM2
import Derived.Test.YtchlbbndfhibgaaGreatDoorM5
import Derived.Deep.RegionHeld3
import Derived.Deep.DeepCutAuto
set_option linter.unusedVariables false
set_option linter.unusedSimpArgs false
namespace Go.Proofs.YtchlbbndfhibgaaGreatDoor.LwB
open Go.RowKit Go.Proofs.YtchlbbndfhibgaaGreatDoor.BxD Go.Proofs.YtchlbbndfhibgaaGreatDoor.BxKit Go.Proofs.YtchlbbndfhibgaaGreatDoor.OlD Go.Proofs.YtchlbbndfhibgaaGreatDoor.PtK Go.Proofs.YtchlbbndfhibgaaGreatDoor.RwKit Go.Proofs.YtchlbbndfhibgaaGreatDoor.ImD Go.Proofs.YtchlbbndfhibgaaGreatDoor.ImK Go.Proofs.YtchlbbndfhibgaaGreatDoor.ImA Go.Proofs.YtchlbbndfhibgaaGreatDoor.ImL Go.Proofs.YtchlbbndfhibgaaGreatDoor.LwD Go.Proofs.YtchlbbndfhibgaaGreatDoor.LwL
open Go.Proofs.YtchlbbndfhibgaaGreatDoor.PkKit (BytesAt)

theorem no_two {v : Int} (h : v < 1 ∨ 3 < v) : (decide (v < 1) = false ∧ decide (3 < v) = true) ∨ decide (v < 1) = true := by
  by_cases h1 : v < 1
  · exact .inr (decide_eq_true h1)
  · exact .inl ⟨decide_eq_false h1, decide_eq_true (by omega)⟩
set_option maxHeartbeats 2000000 in
set_option maxRecDepth 100000 in
theorem formOf_no {v : Int} (hv : v < 1 ∨ 3 < v) (w : World) : Calls Tryz.prog 69 #[.int .i64 v] w fun e w' => e = .returned (.tuple #[.agg #[.string ⟨#[]⟩, .nilFunc, .nilFunc, .int .i64 0, .bool false, .bool false], .bool false]) ∧ Below w.heap.size w w' := by
  have KF := Lib.hid (forms_any (w.alloc (.cells #[.string ⟨#[]⟩, .nilFunc, .nilFunc, .int .i64 0, .bool false, .bool false] 106)))
  have hr0 := Lib.hid (heap_alloc_new w (.cells #[.string ⟨#[]⟩, .nilFunc, .nilFunc, .int .i64 0, .bool false, .bool false] 106))
  have hb0 := Lib.hid ((Below.refl w.heap.size w).alloc (Nat.le_refl _) (.cells #[.string ⟨#[]⟩, .nilFunc, .nilFunc, .int .i64 0, .bool false, .bool false] 106))
  go_enter Tryz.func69, Tryz.ntmps69
  go_upto_region 2 with (go_at_call 101; go_loud (
     refine KF.out.mono ?_
     rintro e w1 ⟨rfl, hb⟩
     have hst := run_storeCells_new (P := Tryz.prog) w1 133 #[.string ⟨#[]⟩, .nilFunc, .nilFunc, .int .i64 0, .bool false, .bool false, .string ⟨#[]⟩, .nilFunc, .nilFunc, .int .i64 0, .bool false, .bool false, .string ⟨#[]⟩, .nilFunc, .nilFunc, .int .i64 0, .bool false, .bool false] fcs (by kernel_rfl) rfl (by decide +kernel)
     have HB := Lib.hid hb))
  clear hst
  have hsz := HB.out.size
  have hB1 := Lib.hid (heap_alloc_new w1 (.cells fcs 133))
  have hR1 := Lib.hid ((heap_alloc_old w1 (.cells fcs 133) (show w.heap.size < w1.heap.size by simp at hsz; omega)).trans ((HB.out.block w.heap.size (by simp)).trans hr0.out))
  have hW1 := Lib.hid ((hb0.out.trans (HB.out.mono (by simp))).alloc (by simp at hsz; omega) (.cells fcs 133))
  have hne : w.heap.size ≠ w1.heap.size := by simp at hsz; omega
  obtain ⟨B, hB⟩ : ∃ B, B = w1.heap.size := ⟨_, rfl⟩
  rw [← hB] at hB1 hne ⊢
  clear hB KF HB hsz hr0 hb0 hb
  generalize (World.alloc w1 _) = w2 at hB1 hR1 hW1 ⊢
  have cZ := fun o => cell_of_row w2 w.heap.size o _ _ _ hR1.out
  have z0 := (cZ 0).trans (show _ = some (Value.string ⟨#[]⟩) from rfl)
  have z1 := (cZ 1).trans (show _ = some (Value.nilFunc) from rfl)
  have z2 := (cZ 2).trans (show _ = some (Value.nilFunc) from rfl)
  have z3 := (cZ 3).trans (show _ = some (Value.int .i64 0) from rfl)
  have z4 := (cZ 4).trans (show _ = some (Value.bool false) from rfl)
  have z5 := (cZ 5).trans (show _ = some (Value.bool false) from rfl)
  have f0 : w2.frozen? { block := w.heap.size, off := 0 } = false := by simp [World.frozen?, hR1.out]
  have f1 : w2.frozen? { block := w.heap.size, off := 1 } = false := by simp [World.frozen?, hR1.out]
  have f2 : w2.frozen? { block := w.heap.size, off := 2 } = false := by simp [World.frozen?, hR1.out]
  have f3 : w2.frozen? { block := w.heap.size, off := 3 } = false := by simp [World.frozen?, hR1.out]
  have f4 : w2.frozen? { block := w.heap.size, off := 4 } = false := by simp [World.frozen?, hR1.out]
  have f5 : w2.frozen? { block := w.heap.size, off := 5 } = false := by simp [World.frozen?, hR1.out]
  clear cZ
  rcases no_two hv with ⟨hv1, hv2⟩ | hv1
  all_goals (
    go_wp2_with fail
    obtain ⟨W, hW, _, p0, p1, p2, p3, p4, p5, hg⟩ := retF hR1.out (.string ⟨#[]⟩) (.nilFunc) (.nilFunc) (.int .i64 0) (.bool false) (.bool false)
    rw [← hW]
    refine bodyPost_ret (v := .tuple #[.agg #[.string ⟨#[]⟩, .nilFunc, .nilFunc, .int .i64 0, .bool false, .bool false], .bool false]) (by simp [results, Tryz.results69, go_sem, p0, p1, p2, p3, p4, p5]) rfl ?_
    exact ⟨rfl, hW1.out.grown hg hW1.out.size (fun k e => by have : w.heap.size = k := Option.some.inj e; omega)⟩)
/-- What Make tells where it tells no image. -/
def NoOut (er : Int) (w : World) (e : Ending) (w' : World) : Prop := e = .returned (.tuple #[.slice none 0 0, .slice none 0 0, .int .i64 er]) ∧ Below w.heap.size w w'
set_option maxHeartbeats 2000000 in
set_option maxRecDepth 100000 in
theorem make_no {v : Int} (hv : v < 1 ∨ 3 < v) {w : World} {b : Box} {WA MA : Option Addr} {wn wcp mn mcp : Nat} : Calls Tryz.prog 31 #[.int .i64 v, .agg #[.string b.id, .int .i64 b.valid, .int .i64 b.next, .int .i64 b.high, .slice WA wn wcp, .slice MA mn mcp]] w (NoOut 1 w) := by
  have HB0 := Lib.hid ((Below.refl w.heap.size w).alloc (Nat.le_refl _) (.cells #[.string b.id, .int .i64 b.valid, .int .i64 b.next, .int .i64 b.high, .slice WA wn wcp, .slice MA mn mcp] 25))
  have KF0 := Lib.hid (formOf_no hv (w.alloc (.cells #[.string b.id, .int .i64 b.valid, .int .i64 b.next, .int .i64 b.high, .slice WA wn wcp, .slice MA mn mcp] 25)))
  clear hv
  go_enter Tryz.func31, Tryz.ntmps31
  go_upto_region 1 with fail
  generalize (World.alloc w _) = w1 at HB0 KF0 ⊢
  go_wp2_with (go_at_call 69; go_loud (
     refine KF0.out.mono ?_
     rintro e w2 ⟨rfl, hb2⟩
     have HB2 := Lib.hid ((HB0.out.trans (hb2.mono HB0.out.size)).alloc (by have := HB0.out.size; have := hb2.size; omega) (.cells #[.string ⟨#[]⟩, .nilFunc, .nilFunc, .int .i64 0, .bool false, .bool false] 106))
     clear hb2))
  refine bodyPost_ret (v := .tuple #[.slice none 0 0, .slice none 0 0, .int .i64 1]) (by rw [results_tmp3 (t := 4) (u := 5) (v := 6) rfl]; rfl) rfl ?_
  exact ⟨rfl, HB2.out⟩
set_option maxHeartbeats 4000000 in
set_option maxRecDepth 100000 in
theorem make_bad1 {w : World} {B wn wcp mn mcp : Nat} {WA MA : Option Addr} {b : Box} (hx : StrsAt w B WA wn b.words) (hm : MsgsAt w B MA mn b.msgs) (hB : B ≤ w.heap.size) (hwc : wn ≤ wcp) (h0 : mbE b ≠ 0) :
    Calls Tryz.prog 31 #[.int .i64 1, .agg #[.string b.id, .int .i64 b.valid, .int .i64 b.next, .int .i64 b.high, .slice WA wn wcp, .slice MA mn mcp]] w (NoOut 1 w) := by
  have HB0 := Lib.hid ((Below.refl w.heap.size w).alloc (Nat.le_refl _) (.cells #[.string b.id, .int .i64 b.valid, .int .i64 b.next, .int .i64 b.high, .slice WA wn wcp, .slice MA mn mcp] 25))
  have HR0 := Lib.hid (heap_alloc_new w (.cells #[.string b.id, .int .i64 b.valid, .int .i64 b.next, .int .i64 b.high, .slice WA wn wcp, .slice MA mn mcp] 25))
  have hs0 : (w.alloc (.cells #[.string b.id, .int .i64 b.valid, .int .i64 b.next, .int .i64 b.high, .slice WA wn wcp, .slice MA mn mcp] 25)).heap.size = w.heap.size + 1 := by simp
  have HX := Lib.hid hx
  have HM := Lib.hid hm
  have H0 := Lib.hid h0
  clear hx hm h0
  go_enter Tryz.func31, Tryz.ntmps31
  go_upto_region 1 with fail
  generalize (World.alloc w _) = w1 at HB0 HR0 hs0 ⊢
  have KF := Lib.hid (formOf_1 w1)
  go_upto_region 2 with (go_at_call 69; go_loud (
     refine KF.out.mono ?_
     rintro e w2 ⟨rfl, hb2⟩
     have hs2 := hb2.size
     have HB2 := Lib.hid ((HB0.out.trans (hb2.mono (by omega))).alloc (by omega) (.cells #[.string ⟨#[77, 66, 49]⟩, .func (.func 127) #[] #[], .func (.func 128) #[] #[], .int .i64 32, .bool false, .bool false] 106))
     have HR2 := Lib.hid ((heap_alloc_old w2 (.cells #[.string ⟨#[77, 66, 49]⟩, .func (.func 127) #[] #[], .func (.func 128) #[] #[], .int .i64 32, .bool false, .bool false] 106) (show w.heap.size < w2.heap.size by omega)).trans ((hb2.block w.heap.size (by omega)).trans HR0.out))
     have HF2 := Lib.hid (heap_alloc_new w2 (.cells #[.string ⟨#[77, 66, 49]⟩, .func (.func 127) #[] #[], .func (.func 128) #[] #[], .int .i64 32, .bool false, .bool false] 106))
     clear hb2))
  clear HB0 HR0 KF
  obtain ⟨F, hF⟩ : ∃ F, F = w2.heap.size := ⟨_, rfl⟩
  rw [← hF] at HF2 ⊢
  have hsF : (w2.alloc (.cells #[.string ⟨#[77, 66, 49]⟩, .func (.func 127) #[] #[], .func (.func 128) #[] #[], .int .i64 32, .bool false, .bool false] 106)).heap.size = F + 1 := by simp [hF]
  have hF1 : w.heap.size < F := by omega
  clear hF
  generalize (World.alloc w2 _) = w4 at HB2 HR2 HF2 hsF ⊢
  have q1 := (cell_of_row w4 F 1 _ _ _ HF2.out).trans (show _ = some (Value.func (.func 127) #[] #[]) from rfl)
  obtain ⟨b0, b1, b2, b3, b4, b5, _⟩ := six_at HR2.out
  have KB := Lib.hid (OlW.bytes1_bad (b := b) (wc := wcp) (mc := mcp) (StrsAt.below HX.out HB2.out hB) (MsgsAt.below HM.out HB2.out hB) hwc (show B ≤ w4.heap.size by omega) H0.out)
  go_wp2_with (go_at_call 127; go_loud (
     refine KB.out.mono ?_
     rintro e w5 ⟨A, n, c, rfl, hnc, hz, hb5⟩
     have HB5 := Lib.hid (HB2.out.trans (hb5.mono (by omega)))
     clear hz hb5 q1 b0 b1 b2 b3 b4 b5))
  refine bodyPost_ret (v := .tuple #[.slice none 0 0, .slice none 0 0, .int .i64 1]) (by rw [results_tmp3 (t := 4) (u := 5) (v := 6) rfl]; rfl) rfl ?_
  exact ⟨rfl, HB5.out⟩
set_option maxHeartbeats 4000000 in
set_option maxRecDepth 100000 in
theorem make_bad2 {w : World} {B wn wcp mn mcp : Nat} {WA MA : Option Addr} {b : Box} (hx : StrsAt w B WA wn b.words) (hm : MsgsAt w B MA mn b.msgs) (hB : B ≤ w.heap.size) (hwc : wn ≤ wcp) (h0 : mbE b ≠ 0) :
    Calls Tryz.prog 31 #[.int .i64 2, .agg #[.string b.id, .int .i64 b.valid, .int .i64 b.next, .int .i64 b.high, .slice WA wn wcp, .slice MA mn mcp]] w (NoOut 1 w) := by
  have HB0 := Lib.hid ((Below.refl w.heap.size w).alloc (Nat.le_refl _) (.cells #[.string b.id, .int .i64 b.valid, .int .i64 b.next, .int .i64 b.high, .slice WA wn wcp, .slice MA mn mcp] 25))
  have HR0 := Lib.hid (heap_alloc_new w (.cells #[.string b.id, .int .i64 b.valid, .int .i64 b.next, .int .i64 b.high, .slice WA wn wcp, .slice MA mn mcp] 25))
  have hs0 : (w.alloc (.cells #[.string b.id, .int .i64 b.valid, .int .i64 b.next, .int .i64 b.high, .slice WA wn wcp, .slice MA mn mcp] 25)).heap.size = w.heap.size + 1 := by simp
  have HX := Lib.hid hx
  have HM := Lib.hid hm
  have H0 := Lib.hid h0
  clear hx hm h0
  go_enter Tryz.func31, Tryz.ntmps31
  go_upto_region 1 with fail
  generalize (World.alloc w _) = w1 at HB0 HR0 hs0 ⊢
  have KF := Lib.hid (formOf_2 w1)
  go_upto_region 2 with (go_at_call 69; go_loud (
     refine KF.out.mono ?_
     rintro e w2 ⟨rfl, hb2⟩
     have hs2 := hb2.size
     have HB2 := Lib.hid ((HB0.out.trans (hb2.mono (by omega))).alloc (by omega) (.cells #[.string ⟨#[77, 66, 50]⟩, .func (.func 129) #[] #[], .func (.func 130) #[] #[], .int .i64 32, .bool true, .bool false] 106))
     have HR2 := Lib.hid ((heap_alloc_old w2 (.cells #[.string ⟨#[77, 66, 50]⟩, .func (.func 129) #[] #[], .func (.func 130) #[] #[], .int .i64 32, .bool true, .bool false] 106) (show w.heap.size < w2.heap.size by omega)).trans ((hb2.block w.heap.size (by omega)).trans HR0.out))
     have HF2 := Lib.hid (heap_alloc_new w2 (.cells #[.string ⟨#[77, 66, 50]⟩, .func (.func 129) #[] #[], .func (.func 130) #[] #[], .int .i64 32, .bool true, .bool false] 106))
     clear hb2))
  clear HB0 HR0 KF
  obtain ⟨F, hF⟩ : ∃ F, F = w2.heap.size := ⟨_, rfl⟩
  rw [← hF] at HF2 ⊢
  have hsF : (w2.alloc (.cells #[.string ⟨#[77, 66, 50]⟩, .func (.func 129) #[] #[], .func (.func 130) #[] #[], .int .i64 32, .bool true, .bool false] 106)).heap.size = F + 1 := by simp [hF]
  have hF1 : w.heap.size < F := by omega
  clear hF
  generalize (World.alloc w2 _) = w4 at HB2 HR2 HF2 hsF ⊢
  have q1 := (cell_of_row w4 F 1 _ _ _ HF2.out).trans (show _ = some (Value.func (.func 129) #[] #[]) from rfl)
  obtain ⟨b0, b1, b2, b3, b4, b5, _⟩ := six_at HR2.out
  have KB := Lib.hid (OlW.bytes2_bad (b := b) (wc := wcp) (mc := mcp) (StrsAt.below HX.out HB2.out hB) (MsgsAt.below HM.out HB2.out hB) hwc (show B ≤ w4.heap.size by omega) H0.out)
  go_wp2_with (go_at_call 129; go_loud (
     refine KB.out.mono ?_
     rintro e w5 ⟨A, n, c, rfl, hnc, hz, hb5⟩
     have HB5 := Lib.hid (HB2.out.trans (hb5.mono (by omega)))
     clear hz hb5 q1 b0 b1 b2 b3 b4 b5))
  refine bodyPost_ret (v := .tuple #[.slice none 0 0, .slice none 0 0, .int .i64 1]) (by rw [results_tmp3 (t := 4) (u := 5) (v := 6) rfl]; rfl) rfl ?_
  exact ⟨rfl, HB5.out⟩
set_option maxHeartbeats 4000000 in
set_option maxRecDepth 100000 in
theorem make_bad3 {w : World} {B wn wcp mn mcp : Nat} {WA MA : Option Addr} {b : Box} (hx : StrsAt w B WA wn b.words) (hm : MsgsAt w B MA mn b.msgs) (hB : B ≤ w.heap.size) (hwc : wn ≤ wcp) (h0 : mbE b ≠ 0) :
    Calls Tryz.prog 31 #[.int .i64 3, .agg #[.string b.id, .int .i64 b.valid, .int .i64 b.next, .int .i64 b.high, .slice WA wn wcp, .slice MA mn mcp]] w (NoOut 1 w) := by
  have HB0 := Lib.hid ((Below.refl w.heap.size w).alloc (Nat.le_refl _) (.cells #[.string b.id, .int .i64 b.valid, .int .i64 b.next, .int .i64 b.high, .slice WA wn wcp, .slice MA mn mcp] 25))
  have HR0 := Lib.hid (heap_alloc_new w (.cells #[.string b.id, .int .i64 b.valid, .int .i64 b.next, .int .i64 b.high, .slice WA wn wcp, .slice MA mn mcp] 25))
  have hs0 : (w.alloc (.cells #[.string b.id, .int .i64 b.valid, .int .i64 b.next, .int .i64 b.high, .slice WA wn wcp, .slice MA mn mcp] 25)).heap.size = w.heap.size + 1 := by simp
  have HX := Lib.hid hx
  have HM := Lib.hid hm
  have H0 := Lib.hid h0
  clear hx hm h0
  go_enter Tryz.func31, Tryz.ntmps31
  go_upto_region 1 with fail
  generalize (World.alloc w _) = w1 at HB0 HR0 hs0 ⊢
  have KF := Lib.hid (formOf_3 w1)
  go_upto_region 2 with (go_at_call 69; go_loud (
     refine KF.out.mono ?_
     rintro e w2 ⟨rfl, hb2⟩
     have hs2 := hb2.size
     have HB2 := Lib.hid ((HB0.out.trans (hb2.mono (by omega))).alloc (by omega) (.cells #[.string ⟨#[77, 66, 51]⟩, .func (.func 131) #[] #[], .func (.func 132) #[] #[], .int .i64 64, .bool true, .bool true] 106))
     have HR2 := Lib.hid ((heap_alloc_old w2 (.cells #[.string ⟨#[77, 66, 51]⟩, .func (.func 131) #[] #[], .func (.func 132) #[] #[], .int .i64 64, .bool true, .bool true] 106) (show w.heap.size < w2.heap.size by omega)).trans ((hb2.block w.heap.size (by omega)).trans HR0.out))
     have HF2 := Lib.hid (heap_alloc_new w2 (.cells #[.string ⟨#[77, 66, 51]⟩, .func (.func 131) #[] #[], .func (.func 132) #[] #[], .int .i64 64, .bool true, .bool true] 106))
     clear hb2))
  clear HB0 HR0 KF
  obtain ⟨F, hF⟩ : ∃ F, F = w2.heap.size := ⟨_, rfl⟩
  rw [← hF] at HF2 ⊢
  have hsF : (w2.alloc (.cells #[.string ⟨#[77, 66, 51]⟩, .func (.func 131) #[] #[], .func (.func 132) #[] #[], .int .i64 64, .bool true, .bool true] 106)).heap.size = F + 1 := by simp [hF]
  have hF1 : w.heap.size < F := by omega
  clear hF
  generalize (World.alloc w2 _) = w4 at HB2 HR2 HF2 hsF ⊢
  have q1 := (cell_of_row w4 F 1 _ _ _ HF2.out).trans (show _ = some (Value.func (.func 131) #[] #[]) from rfl)
  obtain ⟨b0, b1, b2, b3, b4, b5, _⟩ := six_at HR2.out
  have KB := Lib.hid (F3C.bytes_bad (b := b) (wc := wcp) (mc := mcp) (StrsAt.below HX.out HB2.out hB) (MsgsAt.below HM.out HB2.out hB) hwc (show B ≤ w4.heap.size by omega) H0.out)
  go_wp2_with (go_at_call 131; go_loud (
     refine KB.out.mono ?_
     rintro e w5 ⟨A, n, c, rfl, hnc, hz, hb5⟩
     have HB5 := Lib.hid (HB2.out.trans (hb5.mono (by omega)))
     clear hz hb5 q1 b0 b1 b2 b3 b4 b5))
  refine bodyPost_ret (v := .tuple #[.slice none 0 0, .slice none 0 0, .int .i64 1]) (by rw [results_tmp3 (t := 4) (u := 5) (v := 6) rfl]; rfl) rfl ?_
  exact ⟨rfl, HB5.out⟩
/-- A version that is no form's, or a box that may not be. -/
def Bad (v : Int) (b : Box) : Prop := (v < 1 ∨ 3 < v) ∨ ((v = 1 ∨ v = 2 ∨ v = 3) ∧ mbE b ≠ 0)
theorem make_bad {v : Int} {w : World} {B wn wcp mn mcp : Nat} {WA MA : Option Addr} {b : Box} (h : Bad v b) (hx : StrsAt w B WA wn b.words) (hm : MsgsAt w B MA mn b.msgs) (hB : B ≤ w.heap.size) (hwc : wn ≤ wcp) :
    Calls Tryz.prog 31 #[.int .i64 v, .agg #[.string b.id, .int .i64 b.valid, .int .i64 b.next, .int .i64 b.high, .slice WA wn wcp, .slice MA mn mcp]] w (NoOut 1 w) := by
  rcases h with h | ⟨rfl | rfl | rfl, h⟩
  · exact make_no h
  · exact make_bad1 hx hm hB hwc h
  · exact make_bad2 hx hm hB hwc h
  · exact make_bad3 hx hm hB hwc h
set_option maxHeartbeats 4000000 in
set_option maxRecDepth 100000 in
theorem losses_bad {v : Int} {w : World} {B wn wcp mn mcp : Nat} {WA MA : Option Addr} {b : Box} (h : Bad v b) (hx : StrsAt w B WA wn b.words) (hm : MsgsAt w B MA mn b.msgs) (hB : B ≤ w.heap.size) (hwc : wn ≤ wcp) :
    Calls Tryz.prog 25 #[.int .i64 v, .agg #[.string b.id, .int .i64 b.valid, .int .i64 b.next, .int .i64 b.high, .slice WA wn wcp, .slice MA mn mcp]] w (LosOut [] 1 w) := by
  have hb0 := (Below.refl w.heap.size w).alloc (Nat.le_refl _) (.cells #[.string b.id, .int .i64 b.valid, .int .i64 b.next, .int .i64 b.high, .slice WA wn wcp, .slice MA mn mcp] 25)
  have HB0 := Lib.hid hb0
  have HR0 := Lib.hid (heap_alloc_new w (.cells #[.string b.id, .int .i64 b.valid, .int .i64 b.next, .int .i64 b.high, .slice WA wn wcp, .slice MA mn mcp] 25))
  have KM := Lib.hid (make_bad (mcp := mcp) h (StrsAt.below hx hb0 hB) (MsgsAt.below hm hb0 hB) (by simp; omega) hwc)
  clear hb0 hx hm h
  go_enter Tryz.func25, Tryz.ntmps25
  go_upto_region 1 with fail
  generalize (World.alloc w _) = w1 at HB0 HR0 KM ⊢
  obtain ⟨b0, b1, b2, b3, b4, b5, _⟩ := six_at HR0.out
  go_wp2_with (go_at_call 31; go_loud (
     refine KM.out.mono ?_
     rintro e w2 ⟨rfl, hb2⟩
     have HB2 := Lib.hid (HB0.out.trans (hb2.mono HB0.out.size))
     clear hb2 b0 b1 b2 b3 b4 b5))
  refine bodyPost_ret (v := .tuple #[.slice none 0 0, .int .i64 1]) (by rw [results_tmp2 (t := 4) (u := 5) rfl]; rfl) rfl ?_
  exact ⟨none, 0, 0, rfl, Nat.le_refl _, RowAt.nil _ _ _ _ _, HB2.out⟩
set_option maxHeartbeats 4000000 in
set_option maxRecDepth 100000 in
theorem project_bad {v : Int} {w : World} {B wn wcp mn mcp : Nat} {WA MA : Option Addr} {b : Box} (h : Bad v b) (hx : StrsAt w B WA wn b.words) (hm : MsgsAt w B MA mn b.msgs) (hB : B ≤ w.heap.size) (hwc : wn ≤ wcp) :
    Calls Tryz.prog 23 #[.int .i64 v, .agg #[.string b.id, .int .i64 b.valid, .int .i64 b.next, .int .i64 b.high, .slice WA wn wcp, .slice MA mn mcp]] w (BoxOut nB 1 w) := by
  have hb0 := (Below.refl w.heap.size w).alloc (Nat.le_refl _) (.cells #[.string b.id, .int .i64 b.valid, .int .i64 b.next, .int .i64 b.high, .slice WA wn wcp, .slice MA mn mcp] 25)
  have hs0 : (w.alloc (.cells #[.string b.id, .int .i64 b.valid, .int .i64 b.next, .int .i64 b.high, .slice WA wn wcp, .slice MA mn mcp] 25)).heap.size = w.heap.size + 1 := by simp
  have hb1 := hb0.alloc hb0.size (.cells zbox 25)
  have hr1 := heap_alloc_new (w.alloc (.cells #[.string b.id, .int .i64 b.valid, .int .i64 b.next, .int .i64 b.high, .slice WA wn wcp, .slice MA mn mcp] 25)) (.cells zbox 25)
  have hr0 := (heap_alloc_old (w.alloc (.cells #[.string b.id, .int .i64 b.valid, .int .i64 b.next, .int .i64 b.high, .slice WA wn wcp, .slice MA mn mcp] 25)) (.cells zbox 25) (show w.heap.size < _ by rw [hs0]; omega)).trans (heap_alloc_new w (.cells #[.string b.id, .int .i64 b.valid, .int .i64 b.next, .int .i64 b.high, .slice WA wn wcp, .slice MA mn mcp] 25))
  have hs1 : ((w.alloc (.cells #[.string b.id, .int .i64 b.valid, .int .i64 b.next, .int .i64 b.high, .slice WA wn wcp, .slice MA mn mcp] 25)).alloc (.cells zbox 25)).heap.size = w.heap.size + 2 := by simp
  have KM0 := make_bad (mcp := mcp) h (StrsAt.below hx hb1 hB) (MsgsAt.below hm hb1 hB) (by omega) hwc
  rw [hs0] at hr1
  unfold zbox at hb1 hr1 hr0 hs1 KM0
  have HB0 := Lib.hid hb1
  have HR0 := Lib.hid hr0
  have HQ0 := Lib.hid hr1
  have KM := Lib.hid KM0
  clear hb0 hb1 hr1 hr0 hs0 hx hm h KM0
  go_enter Tryz.func23, Tryz.ntmps23
  go_upto_region 1 with fail
  generalize (World.alloc (World.alloc w _) _) = w1 at HB0 HR0 HQ0 KM hs1 ⊢
  obtain ⟨b0, b1, b2, b3, b4, b5, _⟩ := six_at HR0.out
  go_wp2_with (go_at_call 31; go_loud (
     refine KM.out.mono ?_
     rintro e w5 ⟨rfl, hb5⟩
     have hs5 := hb5.size
     have HB5 := Lib.hid (HB0.out.trans (hb5.mono (by omega)))
     have HQ5 := Lib.hid ((hb5.block (w.heap.size + 1) (by omega)).trans HQ0.out)
     clear b0 b1 b2 b3 b4 b5
     obtain ⟨z0, z1, z2, z3, z4, z5, zf⟩ := zcells6 HQ5.out
     have f0 := zf 0
     have f1 := zf 1
     have f2 := zf 2
     have f3 := zf 3
     have f4 := zf 4
     have f5 := zf 5
     clear zf hb5))
  obtain ⟨W, hW, p0, p1, p2, p3, p4, p5, hWg⟩ := ret6 HQ5.out (.string ⟨#[]⟩) (.int .i64 0) (.int .i64 0) (.int .i64 0) (.slice none 0 0) (.slice none 0 0)
  rw [← hW]
  refine bodyPost_ret (v := .tuple #[.agg #[.string ⟨#[]⟩, .int .i64 0, .int .i64 0, .int .i64 0, .slice none 0 0, .slice none 0 0], .int .i64 1]) (by simp [results, Tryz.results23, go_sem, p0, p1, p2, p3, p4, p5]) rfl ?_
  exact ⟨none, 0, 0, none, 0, 0, rfl, Nat.le_refl _, Nat.le_refl _, fun W2 _ _ => ⟨RowAt.nil _ _ _ _ _, RowAt.nil _ _ _ _ _⟩, HB5.out.grown hWg (by omega) (fun k e => by have : w.heap.size + 1 = k := Option.some.inj e; omega)⟩
end Go.Proofs.YtchlbbndfhibgaaGreatDoor.LwB

namespace Go.Proofs.YtchlbbndfhibgaaGreatDoor.LwQ
open Go.RowKit Go.Proofs.YtchlbbndfhibgaaGreatDoor.BxD Go.Proofs.YtchlbbndfhibgaaGreatDoor.BxKit Go.Proofs.YtchlbbndfhibgaaGreatDoor.LwD Go.Proofs.YtchlbbndfhibgaaGreatDoor.LwT Go.Proofs.YtchlbbndfhibgaaGreatDoor.LwX

theorem cat_one (a b c d : ByteArray) : ((a ++ b) ++ c) ++ d = ((a ++ b) ++ c) ++ d := rfl
theorem key_eq (u : Int) (tx : ByteArray) : ((((⟨#[107, 101, 121, 115, 32]⟩ : ByteArray) ++ digT u) ++ ⟨#[32]⟩) ++ tx) = msgT ⟨#[107, 101, 121, 115]⟩ u tx := rfl
theorem name_eq (u : Int) (tx : ByteArray) : ((((⟨#[110, 97, 109, 101, 32]⟩ : ByteArray) ++ digT u) ++ ⟨#[32]⟩) ++ tx) = msgT ⟨#[110, 97, 109, 101]⟩ u tx := rfl
theorem mod_eq (u : Int) (tx : ByteArray) : ((((⟨#[109, 111, 100, 32]⟩ : ByteArray) ++ digT u) ++ ⟨#[32]⟩) ++ tx) = msgT ⟨#[109, 111, 100]⟩ u tx := rfl
set_option maxHeartbeats 1000000 in
set_option maxRecDepth 100000 in
theorem text_any {k u : Int} {tx : ByteArray} {w : World} (ht : BxO.Tab w) (h1 : -9223372036854775808 ≤ u) (h2 : u ≤ 9223372036854775807) (hx : tx.size ≤ 1000000) :
    Calls Tryz.prog 30 #[.agg #[.int .i64 k, .int .i64 u, .string tx]] w fun e w' => e = .returned (.string (textL ⟨k, u, tx⟩)) ∧ Below w.heap.size w w' := by
  have hbl := (Below.refl w.heap.size w).alloc (Nat.le_refl _) (.cells #[.int .i64 k, .int .i64 u, .string tx] 50)
  have HB := Lib.hid hbl
  have KI0 := itoa_any (n := u) (ht.below hbl (Nat.le_refl _)) h1 h2
  have hd := dig_len h1 h2
  have hr := heap_alloc_new w (.cells #[.int .i64 k, .int .i64 u, .string tx] 50)
  have hs0 : (w.alloc (.cells #[.int .i64 k, .int .i64 u, .string tx] 50)).heap.size = w.heap.size + 1 := by simp
  obtain ⟨T, hT⟩ : ∃ T, T = textL ⟨k, u, tx⟩ := ⟨_, rfl⟩
  have HK := Lib.hid (key_eq u tx)
  have HN := Lib.hid (name_eq u tx)
  have HM := Lib.hid (mod_eq u tx)
  obtain ⟨D, hD⟩ : ∃ D : ByteArray, D = digT u := ⟨_, rfl⟩
  rw [← hD] at KI0 hd HK HN HM
  have KI := Lib.hid KI0
  have HT := Lib.hid hT
  rw [← hT]
  clear hT hbl ht hD KI0
  have q1 : ¬ 9223372036854775807 < 5 + tx.size := by omega
  have q2 : ¬ 9223372036854775807 < 5 + D.size := by omega
  have q3 : ¬ 9223372036854775807 < 5 + D.size + 1 := by omega
  have q4 : ¬ 9223372036854775807 < 5 + D.size + 1 + tx.size := by omega
  go_enter Tryz.func30, Tryz.ntmps30
  go_upto_region 1 with fail
  generalize (World.alloc w _) = w1 at HB hr hs0 KI ⊢
  have HR := Lib.hid hr
  have c := fun o => cell_of_row _ w.heap.size o _ _ _ hr
  have c1 := (c 1).trans (show _ = some (Value.int .i64 u) from rfl)
  clear c hr
  go_upto_region 2 with (go_at_call 64; go_loud (
    refine KI.out.mono ?_
    rintro e w2 ⟨rfl, hb2⟩
    have HB2 := Lib.hid (HB.out.trans (hb2.mono HB.out.size))
    have HR2 := Lib.hid ((hb2.block w.heap.size (by omega)).trans HR.out)
    clear hb2 c1))
  have c := fun o => cell_of_row _ w.heap.size o _ _ _ HR2.out
  have c0 := (c 0).trans (show _ = some (Value.int .i64 k) from rfl)
  have c2 := (c 2).trans (show _ = some (Value.string tx) from rfl)
  clear c
  by_cases k4 : k = 4
  · subst k4
    go_wp2_with fail
    go_ret
    refine ⟨?_, HB2.out⟩
    rw [HT.out]
    rfl
  have k4b : (k == 4) = false := by simpa using k4
  by_cases k2 : k = 2
  · subst k2
    go_wp2_with fail
    go_ret
    refine ⟨?_, HB2.out⟩
    rw [HT.out]
    exact ret_str HK.out
  have k2b : (k == 2) = false := by simpa using k2
  by_cases k5 : k = 5
  · subst k5
    go_wp2_with fail
    go_ret
    refine ⟨?_, HB2.out⟩
    rw [HT.out]
    exact ret_str HN.out
  have k5b : (k == 5) = false := by simpa using k5
  by_cases k6 : k = 6
  · subst k6
    go_wp2_with fail
    go_ret
    refine ⟨?_, HB2.out⟩
    rw [HT.out]
    exact ret_str HM.out
  have k6b : (k == 6) = false := by simpa using k6
  by_cases k7 : k = 7
  · subst k7
    go_wp2_with fail
    go_ret
    refine ⟨?_, HB2.out⟩
    rw [HT.out]
    rfl
  have k7b : (k == 7) = false := by simpa using k7
  go_wp2_with fail
  go_ret
  refine ⟨?_, HB2.out⟩
  rw [HT.out]
  unfold textL
  rw [if_neg k4, if_neg k7, if_neg k2, if_neg k5, if_neg k6]
  rfl
end Go.Proofs.YtchlbbndfhibgaaGreatDoor.LwQ
