/-
  NumsMore: of all spans l, each span x and all ints: with one span more nothing is lost; what comes is that span's (the tied card).
-/
import Derived.Test.YtmojecimmogeaaaDoorMore
import Derived.Test.YtmojecimmogeaaaDoorDoor
namespace Go.Proofs.YtmojecimmogeaaaDoor.numsMore
open Go.ChangeShapes Go.WideShapes Go.ChangeAt Go.ChangeMaps Go.WideMaps Go.WideElems Go.RowKit Go.Proofs.YtmojecimmogeaaaDoor.Kit

set_option maxRecDepth 100000 in
theorem lifted (os : Os) (started : os.Started) (H : Type) (enc : TypeId × Value → H) :
    ReturnsInHanded {} Tryd.checked os 7 .any (fun w args => (Rows.numsMoreSpec.pre enc Tryd.prog Tryd.f7 [] false w args ∧ laidMetH Tryd.prog laid w) ∧ sizedMet enc Tryd.prog Tryd.f7 (OpenSpec.ofChange Rows.numsMoreSpec) false w args)
      (Rows.numsMoreSpec.post enc Tryd.prog Tryd.f7 false true false false) := by
  refine returnsInHanded_of_change_and (C := Tryd.checked) (X := fun w _ => laidMetH Tryd.prog laid w) (fun _ _ _ hh h => h.of_heap hh) Law.own started (by kernel_rfl) Tryd.func7
    (ChangeSpec.witness_shaped (enc := enc) (C := Tryd.checked) (os := os) (X := fun w _ => laidMetH Tryd.prog laid w) false (World.doorLaid Tryd.prog 400 os) #[.slice none 0 0, .agg #[.int .i64 0, .int .i64 0], .int .i64 0, .int .i64 0] 8 rfl (World.shaped_of_RefB (by kernel_rfl) (by kernel_rfl)) (by kernel_rfl) (by kernel_rfl) (by kernel_rfl) (Door.door_met os _)) ?_
  intro W base args ds gs before hval0 hW _ hsize hL _
  have hval : ∀ (j : Nat) t v, Tryd.f7.params[j]? = some t → args[j]? = some v → Value.okWide Tryd.prog W .any base t v := hval0
  have hW' := hW
  obtain ⟨p, q, hA0, hV, rfl, hfz, hnd⟩ := hW
  have hA : DataW.TrodAll enc Tryd.prog W 0 (fun _ => true) true Tryd.f7.params.toList args.toList ds p := hA0
  rw [Tryd.params7] at hA hval hsize
  obtain ⟨v0, v1, v2, v3, d0, d1, d2, d3, p0, p1, p2, p3, rfl, rfl, rfl, h0, h1, h2, h3⟩ := trodAll_four hA
  obtain ⟨rfl, rfl⟩ := trodVars_none hV
  obtain ⟨a0, n0, c0, rfl⟩ := okWide_slice Tryd.underlying22 (hval 0 22 v0 rfl rfl)
  obtain ⟨z0, s0, m0, q0⟩ := Law.open_spans h0
  obtain ⟨v10, v11, y0, y1, k1, rfl, rfl, rfl, g0, g1⟩ := Joins.open_agg2 Tryd.underlying32 (by kernel_rfl) Law.c32 (hval 1 32 v1 rfl rfl) h1
  obtain ⟨x1, ex, _, _⟩ := DataW.trod_int Tryd.underlying3 g0
  obtain ⟨x2, ey, _, _⟩ := DataW.trod_int Tryd.underlying3 g1
  obtain rfl : v10 = .int .i64 x1 := by simpa using ex
  obtain rfl : v11 = .int .i64 x2 := by simpa using ey
  obtain ⟨x3, rfl, rfl, rfl, w2⟩ := open_int Tryd.underlying3 (hval 2 3 v2 rfl rfl) h2
  obtain ⟨x4, rfl, rfl, rfl, w3⟩ := open_int Tryd.underlying3 (hval 3 3 v3 rfl rfl) h3
  have hlen : n0 ≤ 8796093021952 := by
    rcases q0 with h | ⟨el, sp, rfl, hel⟩
    · omega
    · have h := sized_slice (P := Tryd.prog) hsize (j := 0) (t := 22) (e := 32) rfl rfl Tryd.underlying22
      rw [Law.bytes32, hel] at h
      have hr : reachBytes = 140737488351232 := by decide
      omega
  refine (walk a0 n0 c0 z0 x1 x2 x3 x4 W (tab_of_laid hL) s0 hlen).mono fun e W' ⟨he, hb⟩ => ?_
  subst he
  exact ⟨_, rfl, Law.law_post (by kernel_rfl) (by kernel_rfl) rfl hW' rfl rfl rfl hb⟩

theorem row_holds : Rows.NumsMoreSaid :=
  OpenClaim.holds_of_wide 7 Tryd.f7 rfl rfl rfl rfl rfl rfl rfl ⟨rfl, rfl, rfl, rfl, rfl⟩ rfl rfl rfl rfl rfl (by kernel_rfl) Tryd.func7 (by kernel_rfl)
    (of_decide_eq_true (by kernel_rfl)) (by unfold Func.isWrapper; first | (rw [if_pos (by decide +kernel)]; kernel_rfl) | (rw [if_neg (by decide +kernel)]; exact ⟨rfl, rfl⟩))
    (fun os started H enc _ => lifted os started H enc)
theorem numsMore_holds : Rows.NumsMoreCardSaid :=
  Claim7.holds_tied_plain_at .later [] [.data, .data, .data] true (true, "258aae1a7c77a4a176723ec277c82fe10c6051e6a03b9a95ab32fac6db03785a") false
    row_holds (fun _ h => by cases h) (by kernel_rfl) (fun _ h => by cases h) numsMore_row_tie rfl ⟨rfl, rfl⟩ (by kernel_rfl) rfl
    (fun f fn hf hfn => by
      obtain rfl : f = 7 := Option.some.inj ((show Tryd.prog.funcNamed "mailsack/mailsacklaw4.NumsMore" = some 7 by kernel_rfl).symm.trans hf) |>.symm
      obtain rfl : fn = Tryd.f7 := (Option.some.inj (Tryd.func7.symm.trans hfn)).symm
      exact ⟨by kernel_rfl, fun j t ht => by
        rw [Tryd.params7] at ht
        have hm : t ∈ [22, 32, 3, 3] := by simpa using Array.mem_of_getElem? ht
        have hall : ([22, 32, 3, 3].all fun u => !Tryd.prog.wantsStandIn u) = true := by kernel_rfl
        exact (show Tryd.prog.wantsStandIn t = false by simpa using List.all_eq_true.1 hall t hm)⟩)
    (by kernel_rfl)
#print axioms numsMore_holds
end Go.Proofs.YtmojecimmogeaaaDoor.numsMore
