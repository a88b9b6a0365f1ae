/-
  Form3Msgs: of all boxes: the third form is a head and the messages, one behind the other, each by the one ahead.
-/
import Derived.Test.YtdgcihgohkgecaaF3Msgs
import Derived.Test.YtdgcihgohkgecaaBxLaw
namespace Go.Proofs.Ytdgcihgohkgecaa.form3Msgs
open Go.ChangeShapes Go.WideShapes Go.ChangeAt Go.ChangeMaps Go.WideMaps Go.WideElems Go.RowKit Go.Proofs.Ytdgcihgohkgecaa.BxD Go.Proofs.Ytdgcihgohkgecaa.BxKit Go.Proofs.Ytdgcihgohkgecaa.BxLaw

set_option maxRecDepth 100000 in
theorem lifted (os : Os) (started : os.Started) (H : Type) (enc : TypeId × Value → H) :
    ReturnsInHanded {} Try.checked os 5 .any (Rows.form3MsgsSpec.pre6 enc Try.prog Try.f5 Rows.form3MsgsRow.domain false) (Rows.form3MsgsSpec.post enc Try.prog Try.f5 false true false false) := by
  refine returnsInHanded_of_change_sized (C := Try.checked) BxLaw.own started (by kernel_rfl) Try.func5
    (ChangeSpec.witness6 (enc := enc) (C := Try.checked) false ⟨#[], #[.agg #[.string ⟨#[]⟩, .int .i64 0, .int .i64 0, .int .i64 0, .slice none 0 0, .slice none 0 0]], []⟩ 8 (by kernel_rfl) (by kernel_rfl) (by kernel_rfl) (by kernel_rfl)) ?_
  intro W base args ds gs before hval0 hW _ hsize _
  have hval : ∀ (j : Nat) t v, Try.f5.params[j]? = some t → args[j]? = some v → Value.okWide Try.prog W .any base t v := hval0
  have hW' := hW
  obtain ⟨p, q, hA0, hV, rfl, hfz, hnd⟩ := hW
  have hA : DataW.TrodAll enc Try.prog W 0 (fun _ => true) true Try.f5.params.toList args.toList ds p := hA0
  rw [Try.params5] at hA hval hsize
  obtain ⟨v0, d0, rfl, rfl, h0⟩ := trodAll_one hA
  obtain ⟨rfl, rfl⟩ := trodVars_none hV
  obtain ⟨id0, bv0, bn0, bh0, WA0, wn0, wc0, MA0, mn0, mc0, ws0, ms0, rfl, hws0, hms0, hwc0, hmc0, hid0⟩ := open_box (hval 0 25 v0 rfl rfl) h0 (small_of hsize (j := 0) rfl rfl)
  refine (F3Msgs.walk (b := ⟨id0, bv0, bn0, bh0, ws0, ms0⟩) hws0 hms0 hwc0 hmc0 hid0).mono fun e W' ⟨he, hb⟩ => ?_
  subst he
  exact ⟨_, rfl, law_post (by kernel_rfl) (by kernel_rfl) rfl hW' rfl rfl rfl hb⟩

set_option maxRecDepth 100000 in
theorem form3Msgs_holds : Rows.Form3MsgsSaid :=
  OpenClaim.holds_of_wide 5 Try.f5 rfl rfl rfl rfl rfl rfl rfl ⟨rfl, rfl, rfl, rfl, rfl⟩ rfl rfl rfl rfl rfl (by kernel_rfl) Try.func5 (by kernel_rfl)
    (of_decide_eq_true (by kernel_rfl)) (by unfold Func.isWrapper; first | (rw [if_pos (by decide +kernel)]; kernel_rfl) | (rw [if_neg (by decide +kernel)]; exact ⟨rfl, rfl⟩))
    (fun os started H enc _ => lifted os started H enc)
#print axioms form3Msgs_holds
end Go.Proofs.Ytdgcihgohkgecaa.form3Msgs
