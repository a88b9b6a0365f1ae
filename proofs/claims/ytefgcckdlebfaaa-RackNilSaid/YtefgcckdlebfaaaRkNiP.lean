/-
  RackNil: of all calls: a rack that there is not tells zero values and ErrArg.
-/
import Derived.Test.YtefgcckdlebfaaaRkNi
import Derived.Test.YtefgcckdlebfaaaBxLaw
import Derived.Test.YtefgcckdlebfaaaRkL
namespace Go.Proofs.Ytefgcckdlebfaaa.rackNil
open Go.ChangeShapes Go.WideShapes Go.ChangeAt Go.ChangeMaps Go.WideMaps Go.WideElems Go.RowKit Go.Proofs.Ytefgcckdlebfaaa.BxD Go.Proofs.Ytefgcckdlebfaaa.BxKit Go.Proofs.Ytefgcckdlebfaaa.BxLaw

set_option maxRecDepth 100000 in
theorem lifted (os : Os) (started : os.Started) (H : Type) (enc : TypeId × Value → H) :
    ReturnsInHanded {} Try.checked os 4 .any (Rows.rackNilSpec.pre6 enc Try.prog Try.f4 Rows.rackNilRow.domain false) (Rows.rackNilSpec.post enc Try.prog Try.f4 false true false false) := by
  refine returnsInHanded_of_change_sized (C := Try.checked) BxLaw.own started (by kernel_rfl) Try.func4
    (ChangeSpec.witness6 (enc := enc) (C := Try.checked) false ⟨#[], #[.agg #[.int .i64 0, .int .i64 0, .string ⟨#[]⟩, .slice none 0 0, .slice none 0 0]], []⟩ 8 (by kernel_rfl) (by kernel_rfl) (by kernel_rfl) (by kernel_rfl)) ?_
  intro W base args ds gs before hval0 hW _ hsize _
  have hval : ∀ (j : Nat) t v, Try.f4.params[j]? = some t → args[j]? = some v → Value.okWide Try.prog W .any base t v := hval0
  have hW' := hW
  obtain ⟨p, q, hA0, hV, rfl, hfz, hnd⟩ := hW
  have hA : DataW.TrodAll enc Try.prog W 0 (fun _ => true) true Try.f4.params.toList args.toList ds p := hA0
  rw [Try.params4] at hA hval hsize
  obtain ⟨v0, d0, rfl, rfl, h0⟩ := trodAll_one hA
  obtain ⟨rfl, rfl⟩ := trodVars_none hV
  obtain ⟨dd0, nn0, nm0, D0, dc0, ds0, P0, pc0, ps0, rfl, hd0, hdl0, hp0, hpl0, hn0, hnm0, hdc0, hpc0⟩ := RkL.open_call (hval 0 31 v0 rfl rfl) h0 (small_of hsize (j := 0) rfl rfl)
  refine (RkNi.walk hd0 hdl0 hp0 hpl0 hn0 hnm0 hdc0 hpc0).mono fun e W' ⟨he, hb⟩ => ?_
  subst he
  exact ⟨_, rfl, law_post (by kernel_rfl) (by kernel_rfl) rfl hW' rfl rfl rfl hb⟩

set_option maxRecDepth 100000 in
theorem rackNil_holds : Rows.RackNilSaid :=
  OpenClaim.holds_of_wide 4 Try.f4 rfl rfl rfl rfl rfl rfl rfl ⟨rfl, rfl, rfl, rfl, rfl⟩ rfl rfl rfl rfl rfl (by kernel_rfl) Try.func4 (by kernel_rfl)
    (of_decide_eq_true (by kernel_rfl)) (by unfold Func.isWrapper; first | (rw [if_pos (by decide +kernel)]; kernel_rfl) | (rw [if_neg (by decide +kernel)]; exact ⟨rfl, rfl⟩))
    (fun os started H enc _ => lifted os started H enc)
#print axioms rackNil_holds
end Go.Proofs.Ytefgcckdlebfaaa.rackNil
