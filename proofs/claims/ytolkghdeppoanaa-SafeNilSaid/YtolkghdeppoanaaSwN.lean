/-
  SafeNil: a safe that there isn't.
-/
import Derived.Test.YtolkghdeppoanaaSwL
import Derived.Test.YtolkghdeppoanaaSwA
set_option linter.unusedVariables false
set_option linter.unusedSimpArgs false
namespace Go.Proofs.Ytolkghdeppoanaa.SwN
open Go.RowKit Go.Proofs.Ytolkghdeppoanaa.BxD Go.Proofs.Ytolkghdeppoanaa.BxKit Go.Proofs.Ytolkghdeppoanaa.RkD Go.Proofs.Ytolkghdeppoanaa.SfC Go.Proofs.Ytolkghdeppoanaa.SfQ Go.Proofs.Ytolkghdeppoanaa.SwL Go.Proofs.Ytolkghdeppoanaa.SwA

set_option maxHeartbeats 4000000 in
set_option maxRecDepth 100000 in
theorem walk {w : World} {A : Option Addr} {n c : Nat} {l : List Ch} (h : Arg w w.heap.size A n l) :
    Calls Try.prog 5 #[.slice A n c] w fun e w' => e = .returned (.bool true) ∧ Below w.heap.size w w' := by
  have KH := Lib.hid (heavy_any (c := c) h (Nat.le_refl _))
  unfold HvPost at KH
  have KA := Lib.hid (fun wx => awake wx)
  have KD := Lib.hid (fun wx => names0 wx)
  unfold DlPost at KD
  clear h
  go_enter Try.func5, Try.ntmps5
  go_upto_region 1 with fail
  go_cut [10] (fun s10 wx => ∃ h : Int, s10 = .bool (decide (0 < h)) ∧ Hid (Below w.heap.size w wx))
  case first =>
    go_wp2_with (go_at_call 9; go_loud (refine KH.out.mono ?_; rintro e w2 ⟨h, rfl, _, _, _, hb⟩; have HB := Lib.hid hb; clear hb))
    go_meet
    exact ⟨h, rfl, HB⟩
  case rest =>
    obtain ⟨h, rfl, HB⟩ := hcut
    clear KH
    by_cases hh : 0 < h
    · go_wp2_with (go_at_call 10; go_loud (refine (KA.out _).mono ?_; rintro e w3 ⟨rfl, hb⟩))
      go_ret
      exact ⟨rfl, HB.out.trans (hb.mono HB.out.size)⟩
    · go_wp2_with (first
        | (go_at_call 17; go_loud (refine (open0 _).mono ?_; rintro e w3 ⟨rfl, rfl⟩))
        | (go_at_call 24; go_loud (refine (read0 _).mono ?_; rintro e w3 ⟨rfl, rfl⟩))
        | (go_at_call 18; go_loud (refine (commit0 _ _).mono ?_; rintro e w3 ⟨rfl, rfl⟩))
        | (go_at_call 19; go_loud (refine (fits0 _ _).mono ?_; rintro e w3 ⟨rfl, rfl⟩))
        | (go_at_call 25; go_loud (refine (KD.out _).mono ?_; rintro e w4 ⟨A4, c4, rfl, hb⟩; have HB4 := Lib.hid (HB.out.trans (hb.mono HB.out.size)); clear hb))
        | (go_at_call 26; go_loud (refine (rack0 _).mono ?_; rintro e w5 ⟨rfl, rfl⟩))
        | (go_at_call 10; go_loud (refine (KA.out _).mono ?_; rintro e w6 ⟨rfl, hb⟩; have HB6 := Lib.hid (HB4.out.trans (hb.mono HB4.out.size)); clear hb)))
      go_ret
      exact ⟨rfl, HB6.out⟩
end Go.Proofs.Ytolkghdeppoanaa.SwN
