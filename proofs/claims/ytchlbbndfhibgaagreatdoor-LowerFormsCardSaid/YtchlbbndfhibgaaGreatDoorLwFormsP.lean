/-
  LowerForms: of all numbers, boxes and losses: Project, Losses and Text answer as the document does (the tied card).
-/
import Derived.Test.YtchlbbndfhibgaaGreatDoorM7
import Derived.Test.YtchlbbndfhibgaaGreatDoorBxLaw
set_option linter.unusedVariables false
set_option linter.unusedSimpArgs false
namespace Go.Proofs.YtchlbbndfhibgaaGreatDoor.lowerForms
open Go.ChangeShapes Go.WideShapes Go.ChangeAt Go.ChangeMaps Go.WideMaps Go.WideElems Go.RowKit Go.Proofs.YtchlbbndfhibgaaGreatDoor.BxD Go.Proofs.YtchlbbndfhibgaaGreatDoor.BxKit Go.Proofs.YtchlbbndfhibgaaGreatDoor.BxO Go.Proofs.YtchlbbndfhibgaaGreatDoor.BxLaw

set_option maxRecDepth 100000 in
/-- A loss that came in. -/
theorem open_loss {H : Type} {enc : TypeId × Value → H} {W : World} {r : Reach} {b0 : Nat} {v : Value} {d : DataW H} {p : List MemPlace} (hv : Value.okWide Tryz.prog W r b0 50 v) (h : DataW.Trod enc Tryz.prog W 0 (fun _ => true) true 50 v d p) (hs : Small 50 d) :
    ∃ kd u tx, v = .agg #[.int .i64 kd, .int .i64 u, .string tx] ∧ -9223372036854775808 ≤ u ∧ u ≤ 9223372036854775807 ∧ tx.size ≤ 140737488355328 := by
  obtain ⟨cs, rfl, hsz⟩ := okWide_struct Tryz.underlying50 hv
  obtain ⟨l⟩ := cs
  obtain ⟨fuel, hf⟩ := h
  have hf' : Rd enc W fuel 50 l (d, p) := hf
  obtain ⟨hl, hf⟩ := fields_of Tryz.underlying50 (by kernel_rfl) (by kernel_rfl) hf' hs
  obtain ⟨_, v0, _, e0, r0, _⟩ := hf 0 _ rfl
  obtain ⟨_, v1, _, e1, r1, _⟩ := hf 1 _ rfl
  obtain ⟨_, v2, _, e2, r2, s2⟩ := hf 2 _ rfl
  obtain ⟨kd, rfl⟩ := rd_int r0
  obtain ⟨u, e, _, hw⟩ := DataW.trod_int Tryz.underlying3 r1
  obtain rfl : v1 = .int .i64 u := by simpa using e
  obtain ⟨tx, rfl, htx⟩ := rd_str r2 s2
  have hb : -9223372036854775808 ≤ u ∧ u ≤ 9223372036854775807 := by simpa [Lit.wf, IntKind.min, IntKind.max, IntKind.signed, IntKind.bits] using hw
  refine ⟨kd, u, tx, ?_, hb.1, hb.2, htx⟩
  match l, hl with
  | [a0, a1, a2], _ =>
    simp only [List.getElem?_cons_zero, List.getElem?_cons_succ, Option.some.injEq] at e0 e1 e2
    subst e0 e1 e2
    rfl

set_option maxRecDepth 100000 in
theorem lifted (os : Os) (started : os.Started) (H : Type) (enc : TypeId × Value → H) :
    ReturnsInHanded {} Tryz.checked os 4 .any (fun w args => (Rows.lowerFormsSpec.pre enc Tryz.prog Tryz.f4 [] false w args ∧ laidMetH Tryz.prog laid w) ∧ sizedMet enc Tryz.prog Tryz.f4 (OpenSpec.ofChange Rows.lowerFormsSpec) false w args)
      (Rows.lowerFormsSpec.post enc Tryz.prog Tryz.f4 false true false false) := by
  refine returnsInHanded_of_change_and (C := Tryz.checked) (X := fun w _ => laidMetH Tryz.prog laid w) (fun _ _ _ hh h => h.of_heap hh) BxLaw.own started (by kernel_rfl) Tryz.func4
    (ChangeSpec.witness_shaped (enc := enc) (C := Tryz.checked) (os := os) (X := fun w _ => laidMetH Tryz.prog laid w) false (World.doorLaid Tryz.prog 400 os) #[.int .i64 0, .agg #[.string ⟨#[]⟩, .int .i64 0, .int .i64 0, .int .i64 0, .slice none 0 0, .slice none 0 0], .agg #[.int .i64 0, .int .i64 0, .string ⟨#[]⟩]] 8 rfl (World.shaped_of_RefB (by kernel_rfl) (by kernel_rfl)) (by kernel_rfl) (by kernel_rfl) (by kernel_rfl) (door_met os _)) ?_
  intro W base args ds gs before hval0 hW _ hsize hL _
  have hval : ∀ (j : Nat) t v, Tryz.f4.params[j]? = some t → args[j]? = some v → Value.okWide Tryz.prog W .any base t v := hval0
  have hW' := hW
  obtain ⟨p, q, hA0, hV, rfl, hfz, hnd⟩ := hW
  have hA : DataW.TrodAll enc Tryz.prog W 0 (fun _ => true) true Tryz.f4.params.toList args.toList ds p := hA0
  rw [Tryz.params4] at hA hval hsize
  obtain ⟨v0, v1, v2, d0, d1, d2, p0, p1, p2, rfl, rfl, rfl, h0, h1, h2⟩ := trodAll_three hA
  obtain ⟨rfl, rfl⟩ := trodVars_none hV
  obtain ⟨x0, rfl, rfl, rfl, w0⟩ := open_int Tryz.underlying3 (hval 0 3 v0 rfl rfl) h0
  obtain ⟨id1, bv1, bn1, bh1, WA1, wn1, wc1, MA1, mn1, mc1, ws1, ms1, rfl, hws1, hms1, hwc1, hmc1, hid1⟩ := open_box (hval 1 25 v1 rfl rfl) h1 (small_of hsize (j := 1) rfl rfl)
  obtain ⟨kd2, u2, tx2, rfl, hu2, hv2, htx2⟩ := open_loss (hval 2 50 v2 rfl rfl) h2 (small_of hsize (j := 2) rfl rfl)
  refine (LwForms.walk (x := x0) (b := ⟨id1, bv1, bn1, bh1, ws1, ms1⟩) (tab_of_laid hL) hws1 hms1 hwc1 hmc1 hid1 hu2 hv2).mono fun e W' ⟨he, hb⟩ => ?_
  subst he
  exact ⟨_, rfl, law_post (by kernel_rfl) (by kernel_rfl) rfl hW' rfl rfl rfl hb⟩

set_option maxRecDepth 100000 in
theorem row_holds : Rows.LowerFormsSaid :=
  OpenClaim.holds_of_wide 4 Tryz.f4 rfl rfl rfl rfl rfl rfl rfl ⟨rfl, rfl, rfl, rfl, rfl⟩ rfl rfl rfl rfl rfl (by kernel_rfl) Tryz.func4 (by kernel_rfl)
    (of_decide_eq_true (by kernel_rfl)) (by unfold Func.isWrapper; first | (rw [if_pos (by decide +kernel)]; kernel_rfl) | (rw [if_neg (by decide +kernel)]; exact ⟨rfl, rfl⟩))
    (fun os started H enc _ => lifted os started H enc)
set_option maxRecDepth 100000 in
theorem lowerForms_holds : Rows.LowerFormsCardSaid :=
  Claim7.holds_tied_plain_at .later [] [.data, .data, .data] true (true, "887c71fb6e91ac7dcc214e188b31994c51b47f3b0362187451d90802b362eb2b") false
    row_holds (fun _ h => by cases h) (by kernel_rfl) (fun _ h => by cases h) lowerForms_row_tie rfl ⟨rfl, rfl⟩ (by kernel_rfl) rfl
    (fun f fn hf hfn => by
      obtain rfl : f = 4 := Option.some.inj ((show Tryz.prog.funcNamed "mailsack/mailsacklaw12.LowerForms" = some 4 by kernel_rfl).symm.trans hf) |>.symm
      obtain rfl : fn = Tryz.f4 := (Option.some.inj (Tryz.func4.symm.trans hfn)).symm
      exact ⟨by kernel_rfl, fun j t ht => by
        rw [Tryz.params4] at ht
        have hm : t ∈ [3, 25, 50] := by simpa using Array.mem_of_getElem? ht
        have hall : ([3, 25, 50].all fun u => !Tryz.prog.wantsStandIn u) = true := by kernel_rfl
        exact (show Tryz.prog.wantsStandIn t = false by simpa using List.all_eq_true.1 hall t hm)⟩)
    (by kernel_rfl)
#print axioms lowerForms_holds
end Go.Proofs.YtchlbbndfhibgaaGreatDoor.lowerForms
