/-
  From name to name by From one comes to all, in order, and by At, too (TableSteps), for every []int.
-/
import Derived.Test.YtnijiimljpbgpaaAwake
import Derived.Test.YtnijiimljpbgpaaPutI
import Derived.Test.YtnijiimljpbgpaaRdI
import Derived.Test.YtnijiimljpbgpaaKeysI
import Derived.Test.YtnijiimljpbgpaaKitB
import Derived.Test.YtnijiimljpbgpaaLawB
namespace Go.Proofs.Ytnijiimljpbgpaa.tableSteps
open Go.ChangeShapes Go.WideShapes Go.ChangeAt Go.RowKit Go.Proofs.Ytnijiimljpbgpaa.Kit Go.Proofs.Ytnijiimljpbgpaa.Arg

/-- each value is the place of a number that is the name -/
def Vals (zs : List Int) (n : Nat) (ps : List TI.PR) : Prop := ∀ p ∈ ps, ∃ i : Nat, p.2 = (i : Int) ∧ i < n ∧ zs[i]? = some p.1

theorem Vals.put {zs : List Int} {j : Nat} {ps : List TI.PR} (h : Vals zs j ps) {x : Int} (hx : zs[j]? = some x) : Vals zs (j + 1) (put Cmp.cmpI x (j : Int) ps) := by
  intro p hp
  rcases mem_put hp with rfl | hp
  · exact ⟨j, rfl, Nat.lt_succ_self j, hx⟩
  · obtain ⟨i, h1, h2, h3⟩ := h p hp
    exact ⟨i, h1, by omega, h3⟩

set_option maxHeartbeats 2000000 in
set_option maxRecDepth 100000 in
theorem walk (A : Option Addr) (n c : Nat) (zs : List Int) (w : World) (hz : IntsAt w A n zs) (hn : n ≤ maxLen) (hwf : ∀ z ∈ zs, -9223372036854775808 ≤ z ∧ z ≤ 9223372036854775807) :
    Calls Try.prog 7 #[.slice A n c] w fun e w' => e = .returned (.bool true) ∧ Below w.heap.size w w' := by
  have HZ := Lib.hid hz
  have HW := Lib.hid hwf
  clear hz hwf
  by_cases hbig : 100 < n
  · unfold maxLen at hn
    go_enter Try.func7, Try.ntmps7
    go_wp2_with (go_at_call 9; refine (AW.awake _).mono ?_; rintro e w' ⟨rfl, hb⟩)
    go_ret
    exact ⟨rfl, hb⟩
  · have hn6 : n ≤ 100 := by omega
    clear hn
    have HNEW := Lib.hid (TI.new 1000 w w.heap.size (Nat.le_refl _))
    go_enter Try.func7, Try.ntmps7
    go_wp2_with fail
    refine HNEW.out.mono ?_
    rintro e w1 ⟨rfl, ht1, hb1⟩
    rw [show TI.rm 1000 = 1000 by decide] at ht1
    have HT1 := Lib.hid ht1
    have HB1 := Lib.hid hb1
    clear ht1 hb1 HNEW
    obtain ⟨T, hT⟩ : ∃ T, T = w.heap.size := ⟨_, rfl⟩
    rw [← hT] at HT1 HB1 ⊢
    have HTT := Lib.hid hT
    clear hT
    have HV0 : Hid (Vals zs 0 []) := fun p hp => by cases hp
    go_wp2
    go_loopw [28] (fun s28 wr => ∃ (j : Nat) (ps : List TI.PR), j ≤ n ∧ s28 = .int .i64 j ∧ ps.length ≤ j ∧ Hid (TI.Tab wr T T 1000 ps) ∧ Hid (Below T w wr) ∧ Hid (Vals zs j ps)) (fun s28 _ => n - (intOf s28).toNat)
    case atStart => exact ⟨0, [], Nat.zero_le _, rfl, Nat.le_refl _, HT1, HB1, HV0⟩
    case round =>
      clear HT1 HB1 HV0
      obtain ⟨j, ps, hj, rfl, hpl, hTab, hB, hV⟩ := hrel
      by_cases hlt : j < n
      · obtain ⟨ad, x, rfl, hx, hc1⟩ := HZ.out.at_ hB.out (Nat.le_of_eq HTT.out.symm) hlt
        have HV := Lib.hid (hV.out.put hx)
        have hput := TI.put_any hTab.out x (j : Int)
        rw [show (hit Cmp.cmpI x ps || decide (ps.length < 1000)) = true by simp; omega] at hput
        have P := Lib.hid hput
        have hbl := hTab.out.base_le
        clear hx hput
        go_wp2_with fail
        refine P.out.mono ?_
        rintro e w2 ⟨rfl, hT2, hF2⟩
        have HT2 := Lib.hid hT2
        have HB2 := Lib.hid (hB.out.trans (hF2.below hbl))
        have hpl2 : (put Cmp.cmpI x (j : Int) ps).length ≤ j + 1 := Nat.le_trans length_put_le (by omega)
        clear hT2 hF2
        go_wp2
        go_roundw
        case rel => exact ⟨j + 1, _, by omega, by go_num, hpl2, HT2, HB2, HV⟩
        case measure => simp [intOf]; omega
      · obtain rfl : n = j := by omega
        have HK := Lib.hid (TI.keys_ hTab.out)
        go_wp2_with fail
        refine HK.out.mono ?_
        rintro e w2 hp
        obtain ⟨A2, c2, rfl, ho, hb2⟩ := hp
        have HI := Lib.hid (ints_of_owns (zs := ps.map (·.1)) (by rw [List.map_map]; exact ho))
        have HT2 := Lib.hid (hTab.out.below hb2)
        have HB2 := Lib.hid (hB.out.trans (hb2.mono hTab.out.base_le))
        have HBS := Lib.hid (Below.refl w2.heap.size w2)
        clear ho hb2
        obtain ⟨m, hm⟩ : ∃ m, ps.length = m := ⟨_, rfl⟩
        rw [hm] at HI hpl ⊢
        have HM := Lib.hid hm
        clear hm hlt
        go_wp2
        go_loopw [42] (fun s42 wr => ∃ i : Nat, i ≤ m ∧ s42 = .int .i64 i ∧ Hid (Below w2.heap.size w2 wr)) (fun s42 _ => m - (intOf s42).toNat)
        case atStart => exact ⟨0, Nat.zero_le _, rfl, HBS⟩
        case round =>
          clear HBS
          obtain ⟨i, hi, rfl, hBr⟩ := hrel
          have hTr := Lib.hid (HT2.out.below hBr.out)
          have hBB := Lib.hid (HB2.out.trans (hBr.out.mono HT2.out.base_le))
          by_cases hlt : i < m
          · obtain ⟨ad2, k, rfl, hk, hc2⟩ := HI.out.at_ hBr.out (Nat.le_refl _) hlt
            obtain ⟨p, hp, rfl⟩ : ∃ p, ps[i]? = some p ∧ p.1 = k := by
              rw [List.getElem?_map] at hk
              cases hq : ps[i]? with
              | none => rw [hq] at hk; cases hk
              | some p => rw [hq] at hk; injection hk with hk; exact ⟨p, rfl, hk⟩
            obtain ⟨k, v⟩ := p
            obtain ⟨iv, hv1, hv2, hv3⟩ := hV.out _ (List.mem_of_getElem? hp)
            simp only at hv1 hv3 hc2 hk
            subst hv1
            have hlo := lo_self Cmp.ordI hTab.out.srt hp
            have F := Lib.hid (TI.from_yes hTr.out k (k, (iv : Int)) (by rw [show lo Cmp.cmpI k ps = i from hlo]; exact hp))
            have hiv : (iv : Int) < (n : Int) := by omega
            have HP := Lib.hid hp
            have HZV := Lib.hid hv3
            clear hk hv3 hlo hp
            go_wp2_with fail
            refine F.out.mono ?_
            rintro e w3 ⟨rfl, hb3⟩
            have HT3 := Lib.hid (hTr.out.below hb3)
            have HA := Lib.hid (TI.at_yes HT3.out i _ HP.out)
            have HB3 := Lib.hid hb3
            clear hb3
            go_wp2_with fail
            refine HA.out.mono ?_
            rintro e w4 ⟨rfl, hb4⟩
            have HT4 := Lib.hid (HT3.out.below hb4)
            have HB4 := Lib.hid (HB3.out.trans (hb4.mono HB3.out.size))
            clear hb4
            have HBR4 := Lib.hid (hBr.out.trans (HB4.out.mono hBr.out.size))
            have HBB4 := Lib.hid (hBB.out.trans (HB4.out.mono hTr.out.base_le))
            have hc4 : ∃ ad, A = some ad ∧ w4.cell? (ad.add iv) = some (.int .i64 k) := by
              obtain ⟨ad, x, e, hx, hc⟩ := HZ.out.at_ HBB4.out (Nat.le_of_eq HTT.out.symm) hv2
              rw [HZV.out] at hx
              injection hx with hx
              subst hx
              exact ⟨ad, e, hc⟩
            obtain ⟨ad, rfl, hc4⟩ := hc4
            have hnn : (k != k) = false := by simp
            have hnv : ((iv : Int) != (iv : Int)) = false := by simp
            cases i with
            | zero =>
              go_wp2
              go_roundw
              case rel => exact ⟨0 + 1, by omega, by go_num, HBR4⟩
              case measure => simp [intOf]; omega
            | succ i' =>
              obtain ⟨ad2', k', e2, hk', hc5⟩ := HI.out.at_ HBR4.out (Nat.le_refl _) (j := i') (by omega)
              injection e2 with e2
              subst e2
              obtain ⟨p', hp', rfl⟩ : ∃ p', ps[i']? = some p' ∧ p'.1 = k' := by
                rw [List.getElem?_map] at hk'
                cases hq : ps[i']? with
                | none => rw [hq] at hk'; cases hk'
                | some p' => rw [hq] at hk'; injection hk' with hk'; exact ⟨p', rfl, hk'⟩
              obtain ⟨k', v'⟩ := p'
              simp only at hc5 hk'
              obtain ⟨hlo2, hkk⟩ := lo_next hTab.out.srt hp' HP.out
              simp only at hlo2 hkk
              have hw1 := HW.out k (List.mem_of_getElem? HZV.out)
              have hw2 : -9223372036854775808 ≤ k' := by
                obtain ⟨iv', _, _, h3⟩ := hV.out _ (List.mem_of_getElem? hp')
                exact (HW.out k' (List.mem_of_getElem? h3)).1
              have F2 := Lib.hid (TI.from_yes HT4.out (k' + 1) (k, (iv : Int)) (by rw [hlo2]; exact HP.out))
              clear hk' hp' hlo2
              go_wp2_with fail
              refine F2.out.mono ?_
              rintro e w5 ⟨rfl, hb5⟩
              have HBR5 := Lib.hid (HBR4.out.trans (hb5.mono HBR4.out.size))
              clear hb5
              go_wp2
              go_roundw
              case rel => exact ⟨i' + 1 + 1, by omega, by go_num, HBR5⟩
              case measure => simp [intOf]; omega
          · obtain rfl : m = i := by omega
            have HA := Lib.hid (TI.at_no hTr.out (m : Int) (.inr (by rw [HM.out]; omega)))
            go_wp2_with fail
            refine HA.out.mono ?_
            rintro e w3 ⟨rfl, hb3⟩
            have HB3 := Lib.hid (hBB.out.trans (hb3.mono hTr.out.base_le))
            clear hb3
            go_wp2_with fail
            refine (AW.awake _).mono ?_
            rintro e w4 ⟨rfl, hb4⟩
            have HB4 := Lib.hid hb4
            clear hb4
            go_wp2
            go_ret
            refine ⟨rfl, ?_⟩
            have h1 := HB3.out
            rw [HTT.out] at h1
            exact h1.trans (HB4.out.mono h1.size)

set_option maxRecDepth 100000 in
theorem lifted (os : Os) (started : os.Started) (H : Type) (enc : TypeId × Value → H) :
    ReturnsInHanded {} Try.checked os 7 .any (Rows.tableStepsSpec.pre6 enc Try.prog Try.f7 Rows.tableStepsRow.domain false) (Rows.tableStepsSpec.post enc Try.prog Try.f7 false true false false) := by
  refine returnsInHanded_of_change (C := Try.checked) Law.own started (by kernel_rfl) Try.func7
    (ChangeSpec.witness6 (enc := enc) (C := Try.checked) false ⟨#[], #[.slice none 0 0], []⟩ 8 (by kernel_rfl) (by kernel_rfl) (by kernel_rfl) (by kernel_rfl)) ?_
  intro W base args ds gs before hval hW hcnd _
  have hW' := hW
  obtain ⟨p, q, hA, hV, rfl, hfz, hnd⟩ := hW
  rw [Try.params7] at hA hval
  obtain ⟨v0, d0, rfl, rfl, h0⟩ := trodAll_one hA
  obtain ⟨rfl, rfl⟩ := trodVars_none hV
  obtain ⟨ad, len, cap, rfl⟩ := okWide_slice Try.underlying26 (hval 0 26 v0 rfl rfl)
  obtain ⟨zs, hzs, hlen, hwf⟩ := Law.open_ints_wf h0
  refine (walk ad len cap zs W hzs hlen hwf).mono fun e W' ⟨he, hb⟩ => ?_
  subst he
  exact ⟨_, rfl, Law.law_post (by kernel_rfl) (by kernel_rfl) rfl hW' rfl rfl rfl hb⟩

theorem tableSteps_holds : Rows.TableStepsSaid :=
  OpenClaim.holds_of_wide 7 Try.f7 rfl rfl rfl rfl rfl rfl rfl ⟨rfl, rfl, rfl, rfl, rfl⟩ rfl rfl rfl rfl rfl (by kernel_rfl) Try.func7 (by kernel_rfl)
    (of_decide_eq_true (by kernel_rfl)) (by unfold Func.isWrapper; first | (rw [if_pos (by decide +kernel)]; kernel_rfl) | (rw [if_neg (by decide +kernel)]; exact ⟨rfl, rfl⟩))
    (fun os started H enc _ => lifted os started H enc)
#print axioms tableSteps_holds
end Go.Proofs.Ytnijiimljpbgpaa.tableSteps
