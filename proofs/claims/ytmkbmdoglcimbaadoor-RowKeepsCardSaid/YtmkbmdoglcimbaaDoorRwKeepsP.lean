/-
  RowKeeps: of all boxes, UIDs, flags and words: what is added and taken away again is as it was; other messages are untouched (the tied card; no condition).
-/
import Derived.Test.YtmkbmdoglcimbaaDoorRwW15
import Derived.Test.YtmkbmdoglcimbaaDoorBxLaw
import Derived.Test.YtmkbmdoglcimbaaDoorRwKeeps
namespace Go.Proofs.YtmkbmdoglcimbaaDoor.RwTab
open Go.RowKit Go.ChangeShapes Go.WideShapes Go.ChangeAt Go.WideMaps Go.WideElems Go.Deep Go.Proofs.YtmkbmdoglcimbaaDoor.BxD Go.Proofs.YtmkbmdoglcimbaaDoor.BxKit

def laid : List (String × DataW Unit) := [("math/bits.deBruijn32tab", Rows.laid_math_bits_deBruijn32tab), ("math/bits.deBruijn64tab", Rows.laid_math_bits_deBruijn64tab), ("internal/strconv.uint64pow10", Rows.laid_internal_strconv_uint64pow10), ("mailsack/flag.flagNames", Rows.laid_mailsack_flag_flagNames)]
set_option maxRecDepth 100000 in
theorem tab_of_laid {W : World} (h : laidMetH Tryd.prog laid W) : RwW15.Tab W := by
  rw [MakeChecks.laidMetH_plain _ _ _ (by kernel_rfl)] at h
  have h2 := (laidMet.tail (laidMet.tail h))
  have h3 := laidMet.tail h2
  rw [BxO.powData] at h2
  refine ⟨Lib.tabIs_of_head BxO.gPow BxO.tPow Tryd.underlying136 Tryd.underlying41 BxO.cOne BxO.cArr h2, FlK.names_of_laid ?_⟩
  rw [MakeChecks.laidMetH_plain _ _ _ (by kernel_rfl)]
  exact h3
set_option maxRecDepth 100000 in
theorem door_met (os : Os) (args : Array Value) : laidMetH Tryd.prog laid ((World.doorLaid Tryd.prog 400 os).forCall (fun _ _ => 0) ⟨#[], args, []⟩).memory :=
  laidMetH_of_parts3 (fuel := 8) (laidMet_of_run' 8 (by kernel_rfl) (by kernel_rfl)) (by kernel_rfl) (by kernel_rfl)
end Go.Proofs.YtmkbmdoglcimbaaDoor.RwTab

namespace Go.Proofs.YtmkbmdoglcimbaaDoor.rowKeeps
open Go.ChangeShapes Go.WideShapes Go.ChangeAt Go.ChangeMaps Go.WideMaps Go.WideElems Go.RowKit Go.Proofs.YtmkbmdoglcimbaaDoor.BxD Go.Proofs.YtmkbmdoglcimbaaDoor.BxKit Go.Proofs.YtmkbmdoglcimbaaDoor.RwTab
open Go.Proofs.YtmkbmdoglcimbaaDoor.BxLaw hiding door_met
set_option maxRecDepth 100000 in
theorem open_strsl {H : Type} {enc : TypeId × Value → H} {W : World} {r : Reach} {b0 : Nat} {v : Value} {d : DataW H} {p : List MemPlace} (hv : Value.okWide Tryd.prog W r b0 22 v) (h : DataW.Trod enc Tryd.prog W 0 (fun _ => true) true 22 v d p) (hs : Small 22 d) :
    ∃ A n c l, v = .slice A n c ∧ n ≤ c ∧ StrsAt W W.heap.size A n l := by
  obtain ⟨a, n, c, rfl⟩ := okWide_slice Tryd.underlying22 hv
  obtain ⟨fuel, hf⟩ := h
  obtain ⟨A, m, c', l, e, h1, h2⟩ := rd_strs (v := .slice a n c) hf hs
  exact ⟨A, m, c', l, e, h1, h2⟩
set_option maxRecDepth 100000 in
theorem lifted (os : Os) (started : os.Started) (H : Type) (enc : TypeId × Value → H) :
    ReturnsInHanded {} Tryd.checked os 6 .any (fun w args => (Rows.rowKeepsSpec.pre enc Tryd.prog Tryd.f6 [] false w args ∧ laidMetH Tryd.prog laid w) ∧ sizedMet enc Tryd.prog Tryd.f6 (OpenSpec.ofChange Rows.rowKeepsSpec) false w args)
      (Rows.rowKeepsSpec.post enc Tryd.prog Tryd.f6 false true false false) := by
  refine returnsInHanded_of_change_and (C := Tryd.checked) (X := fun w _ => laidMetH Tryd.prog laid w) (fun _ _ _ hh h => h.of_heap hh) BxLaw.own started (by kernel_rfl) Tryd.func6
    (ChangeSpec.witness_shaped (enc := enc) (C := Tryd.checked) (os := os) (X := fun w _ => laidMetH Tryd.prog laid w) false (World.doorLaid Tryd.prog 400 os) #[.agg #[.string ⟨#[]⟩, .int .i64 0, .int .i64 0, .int .i64 0, .slice none 0 0, .slice none 0 0], .int .i64 0, .int .i64 0, .slice none 0 0] 8 rfl (World.shaped_of_RefB (by kernel_rfl) (by kernel_rfl)) (by kernel_rfl) (by kernel_rfl) (by kernel_rfl) (door_met os _)) ?_
  intro W base args ds gs before hval0 hW _ hsize hL _
  have hval : ∀ (j : Nat) t v, Tryd.f6.params[j]? = some t → args[j]? = some v → Value.okWide Tryd.prog W .any base t v := hval0
  have hW' := hW
  obtain ⟨p, q, hA0, hV, rfl, hfz, hnd⟩ := hW
  have hA : DataW.TrodAll enc Tryd.prog W 0 (fun _ => true) true Tryd.f6.params.toList args.toList ds p := hA0
  rw [Tryd.params6] at hA hval hsize
  obtain ⟨v0, v1, v2, v3, d0, d1, d2, d3, p0, p1, p2, p3, rfl, rfl, rfl, h0, h1, h2, h3⟩ := trodAll_four hA
  obtain ⟨rfl, rfl⟩ := trodVars_none hV
  obtain ⟨id0, bv0, bn0, bh0, WA0, wn0, wc0, MA0, mn0, mc0, ws0, ms0, rfl, hws0, hms0, hwc0, hmc0, hid0⟩ := open_box (hval 0 25 v0 rfl rfl) h0 (small_of hsize (j := 0) rfl rfl)
  obtain ⟨x1, rfl, rfl, rfl, w1⟩ := open_int Tryd.underlying3 (hval 1 3 v1 rfl rfl) h1
  obtain ⟨x2, rfl, rfl, rfl, w2⟩ := open_int Tryd.underlying3 (hval 2 3 v2 rfl rfl) h2
  obtain ⟨A3, n3, c3, l3, rfl, hc3, hl3⟩ := open_strsl (hval 3 22 v3 rfl rfl) h3 (small_of hsize (j := 3) rfl rfl)
  refine (RwKeeps.walk (b := ⟨id0, bv0, bn0, bh0, ws0, ms0⟩) (u := x1) (flags := x2) (tab_of_laid hL) hws0 hms0 hl3 hwc0 hmc0 hc3 hid0).mono fun e W' ⟨he, hb⟩ => ?_
  subst he
  exact ⟨_, rfl, law_post (by kernel_rfl) (by kernel_rfl) rfl hW' rfl rfl rfl hb⟩

set_option maxRecDepth 100000 in
theorem row_holds : Rows.RowKeepsSaid :=
  OpenClaim.holds_of_wide 6 Tryd.f6 rfl rfl rfl rfl rfl rfl rfl ⟨rfl, rfl, rfl, rfl, rfl⟩ rfl rfl rfl rfl rfl (by kernel_rfl) Tryd.func6 (by kernel_rfl)
    (of_decide_eq_true (by kernel_rfl)) (by unfold Func.isWrapper; first | (rw [if_pos (by decide +kernel)]; kernel_rfl) | (rw [if_neg (by decide +kernel)]; exact ⟨rfl, rfl⟩))
    (fun os started H enc _ => lifted os started H enc)
set_option maxRecDepth 100000 in
theorem rowKeeps_holds : Rows.RowKeepsCardSaid :=
  Claim7.holds_tied_plain_at .later [] [.data, .data, .data, .data] true (true, "0109f90136035ac5bc5e91a7f5ceb05a55d5f30f8f41c2cad10aee0d0972ef63") false
    row_holds (fun _ h => by cases h) (by kernel_rfl) (fun _ h => by cases h) rowKeeps_row_tie rfl ⟨rfl, rfl⟩ (by kernel_rfl) rfl
    (fun f fn hf hfn => by
      obtain rfl : f = 6 := Option.some.inj ((show Tryd.prog.funcNamed "mailsack/mailsacklaw7.RowKeeps" = some 6 by kernel_rfl).symm.trans hf) |>.symm
      obtain rfl : fn = Tryd.f6 := (Option.some.inj (Tryd.func6.symm.trans hfn)).symm
      exact ⟨by kernel_rfl, fun j t ht => by
        rw [Tryd.params6] at ht
        have hm : t ∈ [25, 3, 3, 22] := by simpa using Array.mem_of_getElem? ht
        have hall : ([25, 3, 3, 22].all fun u => !Tryd.prog.wantsStandIn u) = true := by kernel_rfl
        exact (show Tryd.prog.wantsStandIn t = false by simpa using List.all_eq_true.1 hall t hm)⟩)
    (by kernel_rfl)
#print axioms rowKeeps_holds
end Go.Proofs.YtmkbmdoglcimbaaDoor.rowKeeps
