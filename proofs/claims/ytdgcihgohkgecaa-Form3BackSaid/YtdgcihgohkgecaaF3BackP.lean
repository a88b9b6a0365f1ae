/-
  Form3Back: of all two boxes: what is written in the third form is read as it was; there is one form of each box.
-/
import Derived.Test.YtdgcihgohkgecaaF3Back
import Derived.Test.YtdgcihgohkgecaaBxLaw
namespace Go.Proofs.Ytdgcihgohkgecaa.form3Back
open Go.ChangeShapes Go.WideShapes Go.ChangeAt Go.ChangeMaps Go.WideMaps Go.WideElems Go.RowKit Go.Proofs.Ytdgcihgohkgecaa.BxD Go.Proofs.Ytdgcihgohkgecaa.BxKit Go.Proofs.Ytdgcihgohkgecaa.BxLaw

set_option maxRecDepth 100000 in
theorem lifted (os : Os) (started : os.Started) (H : Type) (enc : TypeId × Value → H) :
    ReturnsInHanded {} Try.checked os 3 .any (Rows.form3BackSpec.pre6 enc Try.prog Try.f3 Rows.form3BackRow.domain false) (Rows.form3BackSpec.post enc Try.prog Try.f3 false true false false) := by
  refine returnsInHanded_of_change_sized (C := Try.checked) BxLaw.own started (by kernel_rfl) Try.func3
    (ChangeSpec.witness6 (enc := enc) (C := Try.checked) false ⟨#[], #[.agg #[.string ⟨#[]⟩, .int .i64 0, .int .i64 0, .int .i64 0, .slice none 0 0, .slice none 0 0], .agg #[.string ⟨#[]⟩, .int .i64 0, .int .i64 0, .int .i64 0, .slice none 0 0, .slice none 0 0]], []⟩ 8 (by kernel_rfl) (by kernel_rfl) (by kernel_rfl) (by kernel_rfl)) ?_
  intro W base args ds gs before hval0 hW _ hsize _
  have hval : ∀ (j : Nat) t v, Try.f3.params[j]? = some t → args[j]? = some v → Value.okWide Try.prog W .any base t v := hval0
  have hW' := hW
  obtain ⟨p, q, hA0, hV, rfl, hfz, hnd⟩ := hW
  have hA : DataW.TrodAll enc Try.prog W 0 (fun _ => true) true Try.f3.params.toList args.toList ds p := hA0
  rw [Try.params3] at hA hval hsize
  obtain ⟨v0, v1, d0, d1, p0, p1, rfl, rfl, rfl, h0, h1⟩ := trodAll_two hA
  obtain ⟨rfl, rfl⟩ := trodVars_none hV
  obtain ⟨id0, bv0, bn0, bh0, WA0, wn0, wc0, MA0, mn0, mc0, ws0, ms0, rfl, hws0, hms0, hwc0, hmc0, hid0⟩ := open_box (hval 0 25 v0 rfl rfl) h0 (small_of hsize (j := 0) rfl rfl)
  obtain ⟨id1, bv1, bn1, bh1, WA1, wn1, wc1, MA1, mn1, mc1, ws1, ms1, rfl, hws1, hms1, hwc1, hmc1, hid1⟩ := open_box (hval 1 25 v1 rfl rfl) h1 (small_of hsize (j := 1) rfl rfl)
  refine (F3Back.walk (a := ⟨id0, bv0, bn0, bh0, ws0, ms0⟩) (b := ⟨id1, bv1, bn1, bh1, ws1, ms1⟩) hws0 hms0 hws1 hms1 hwc0 hmc0 hwc1 hmc1 hid0 hid1).mono fun e W' ⟨he, hb⟩ => ?_
  subst he
  exact ⟨_, rfl, law_post (by kernel_rfl) (by kernel_rfl) rfl hW' rfl rfl rfl hb⟩

set_option maxRecDepth 100000 in
theorem form3Back_holds : Rows.Form3BackSaid :=
  OpenClaim.holds_of_wide 3 Try.f3 rfl rfl rfl rfl rfl rfl rfl ⟨rfl, rfl, rfl, rfl, rfl⟩ rfl rfl rfl rfl rfl (by kernel_rfl) Try.func3 (by kernel_rfl)
    (of_decide_eq_true (by kernel_rfl)) (by unfold Func.isWrapper; first | (rw [if_pos (by decide +kernel)]; kernel_rfl) | (rw [if_neg (by decide +kernel)]; exact ⟨rfl, rfl⟩))
    (fun os started H enc _ => lifted os started H enc)
#print axioms form3Back_holds
end Go.Proofs.Ytdgcihgohkgecaa.form3Back
