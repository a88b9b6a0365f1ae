/-
  With room for so many there are no more names, and who is there already is put again all the same (TableRoom), for every int and every []int.
-/
import Derived.Test.YtnijiimljpbgpaaAwake
import Derived.Test.YtnijiimljpbgpaaPutI
import Derived.Test.YtnijiimljpbgpaaRdI
import Derived.Test.YtnijiimljpbgpaaLaw
namespace Go.Proofs.Ytnijiimljpbgpaa.tableRoom
open Go.ChangeShapes Go.WideShapes Go.ChangeAt Go.RowKit Go.Proofs.Ytnijiimljpbgpaa.Kit Go.Proofs.Ytnijiimljpbgpaa.Arg

set_option maxHeartbeats 1000000 in
theorem walk (a0 : Int) (A : Option Addr) (n c : Nat) (zs : List Int) (w : World) (hz : IntsAt w A n zs) (hn : n ≤ maxLen) :
    Calls Try.prog 8 #[.int .i64 a0, .slice A n c] w fun e w' => e = .returned (.bool true) ∧ Below w.heap.size w w' := by
  have HZ := Lib.hid hz
  clear hz
  by_cases hbig : 60 < n
  · unfold maxLen at hn
    go_enter Try.func8, Try.ntmps8
    go_wp2_with (go_at_call 9; refine (AW.awake _).mono ?_; rintro e w' ⟨rfl, hb⟩)
    go_ret
    exact ⟨rfl, hb⟩
  · have hn6 : n ≤ 60 := by omega
    clear hn
    go_enter Try.func8, Try.ntmps8
    go_wp2_with fail
    obtain ⟨m, hm, hm2⟩ : ∃ m : Nat, wrap64 ((IntKind.u64.wrap a0).tmod 20) = (m : Int) ∧ m < 20 := by
      have h0 : 0 ≤ IntKind.u64.wrap a0 := by rw [IntKind.wrap_u64]; omega
      have h1 : (IntKind.u64.wrap a0).tmod 20 = IntKind.u64.wrap a0 % 20 := Int.tmod_eq_emod_of_nonneg h0
      refine ⟨(IntKind.u64.wrap a0 % 20).toNat, ?_, by omega⟩
      rw [h1]
      unfold wrap64
      omega
    rw [hm]
    clear hm
    have hrm : TI.rm (m : Int) = m := by unfold TI.rm; omega
    refine (TI.new (m : Int) w w.heap.size (Nat.le_refl _)).mono ?_
    rintro e w1 ⟨rfl, ht1, hb1⟩
    rw [hrm] at ht1
    have HT1 := Lib.hid ht1
    have HB1 := Lib.hid hb1
    clear ht1 hb1 hrm
    obtain ⟨T, hT⟩ : ∃ T, T = w.heap.size := ⟨_, rfl⟩
    rw [← hT] at HT1 HB1 ⊢
    have HTT := Lib.hid hT
    clear hT
    go_wp2
    go_loopw [23] (fun s23 wr => ∃ (j : Nat) (ps : List TI.PR), j ≤ n ∧ s23 = .int .i64 j ∧ Hid (TI.Tab wr T T m ps) ∧ Hid (Below T w wr)) (fun s23 _ => n - (intOf s23).toNat)
    case atStart => exact ⟨0, [], Nat.zero_le _, rfl, HT1, HB1⟩
    case round =>
      clear HT1 HB1
      obtain ⟨j, ps, hj, rfl, hTab, hB⟩ := hrel
      by_cases hlt : j < n
      · obtain ⟨ad, x, rfl, -, hc1⟩ := HZ.out.at_ hB.out (Nat.le_of_eq HTT.out.symm) hlt
        have hlen := hTab.out.len
        have hbl := hTab.out.base_le
        cases hh : hit Cmp.cmpI x ps with
        | true =>
          obtain ⟨v, hv⟩ := (hit_iff Cmp.ordI).1 hh
          have G := Lib.hid (TI.get_yes hTab.out x v hv)
          have HH := Lib.hid hh
          clear hv hh
          go_wp2_with fail
          refine G.out.mono ?_
          rintro e w2 ⟨rfl, hb2⟩
          have HT2 := Lib.hid (hTab.out.below hb2)
          have HB2 := Lib.hid (hB.out.trans (hb2.mono hbl))
          clear hb2
          have L2 := Lib.hid (TI.len_ HT2.out)
          have P2 := Lib.hid (TI.put_hit HT2.out x (j : Int) HH.out)
          go_wp2_with fail
          refine L2.out.mono ?_
          rintro e w3 ⟨rfl, rfl⟩
          go_wp2_with fail
          refine P2.out.mono ?_
          rintro e w3 ⟨rfl, hT3, hF3⟩
          have hl3 := hT3.len
          have HT3 := Lib.hid hT3
          have HB3 := Lib.hid (HB2.out.trans (hF3.below HT2.out.base_le))
          have L3 := Lib.hid (TI.len_ hT3)
          clear hT3 hF3
          have hd3 : decide ((m : Int) < (((upd Cmp.cmpI x (j : Int) ps).length : Nat) : Int)) = false := by simp; omega
          go_wp2_with (go_at_call 17; refine L3.out.mono ?_; rintro e w4 ⟨rfl, rfl⟩)
          go_roundw
          case rel => exact ⟨j + 1, _, by omega, by go_num, HT3, HB3⟩
          case measure => simp [intOf]; omega
        | false =>
          have G := Lib.hid (TI.get_no hTab.out x hh)
          have HH := Lib.hid hh
          clear hh
          by_cases hfull : ps.length < m
          · have hd1 : decide ((m : Int) ≤ ((ps.length : Nat) : Int)) = false := by simp; omega
            go_wp2_with fail
            refine G.out.mono ?_
            rintro e w2 ⟨rfl, hb2⟩
            have HT2 := Lib.hid (hTab.out.below hb2)
            have HB2 := Lib.hid (hB.out.trans (hb2.mono hbl))
            clear hb2
            have L2 := Lib.hid (TI.len_ HT2.out)
            have P2 := Lib.hid (TI.put_new HT2.out x (j : Int) HH.out hfull)
            go_wp2_with fail
            refine L2.out.mono ?_
            rintro e w3 ⟨rfl, rfl⟩
            go_wp2_with fail
            refine P2.out.mono ?_
            rintro e w3 ⟨rfl, hT3, hF3⟩
            have hl3 := hT3.len
            have HT3 := Lib.hid hT3
            have HB3 := Lib.hid (HB2.out.trans (hF3.below HT2.out.base_le))
            have L3 := Lib.hid (TI.len_ hT3)
            clear hT3 hF3
            have hd3 : decide ((m : Int) < (((ins Cmp.cmpI x (j : Int) ps).length : Nat) : Int)) = false := by simp; omega
            go_wp2_with (go_at_call 17; refine L3.out.mono ?_; rintro e w4 ⟨rfl, rfl⟩)
            go_roundw
            case rel => exact ⟨j + 1, _, by omega, by go_num, HT3, HB3⟩
            case measure => simp [intOf]; omega
          · have hd1 : decide ((m : Int) ≤ ((ps.length : Nat) : Int)) = true := by simp; omega
            go_wp2_with fail
            refine G.out.mono ?_
            rintro e w2 ⟨rfl, hb2⟩
            have HT2 := Lib.hid (hTab.out.below hb2)
            have HB2 := Lib.hid (hB.out.trans (hb2.mono hbl))
            clear hb2
            have L2 := Lib.hid (TI.len_ HT2.out)
            have P2 := Lib.hid (TI.put_full HT2.out x (j : Int) HH.out (by omega))
            go_wp2_with fail
            refine L2.out.mono ?_
            rintro e w3 ⟨rfl, rfl⟩
            go_wp2_with fail
            refine P2.out.mono ?_
            rintro e w3 ⟨rfl, hT3, hF3⟩
            have hl3 := hT3.len
            have HT3 := Lib.hid hT3
            have HB3 := Lib.hid (HB2.out.trans (hF3.below HT2.out.base_le))
            have L3 := Lib.hid (TI.len_ hT3)
            clear hT3 hF3
            have hd3 : decide ((m : Int) < (((ps).length : Nat) : Int)) = false := by simp; omega
            go_wp2_with (go_at_call 17; refine L3.out.mono ?_; rintro e w4 ⟨rfl, rfl⟩)
            go_roundw
            case rel => exact ⟨j + 1, _, by omega, by go_num, HT3, HB3⟩
            case measure => simp [intOf]; omega
      · obtain rfl : n = j := by omega
        go_wp2_with (go_at_call 9; refine (AW.awake _).mono ?_; rintro e w' ⟨rfl, hb⟩)
        go_ret
        refine ⟨rfl, ?_⟩
        have h1 := hB.out
        rw [HTT.out] at h1
        exact h1.trans (hb.mono h1.size)

set_option maxRecDepth 100000 in
theorem lifted (os : Os) (started : os.Started) (H : Type) (enc : TypeId × Value → H) :
    ReturnsInHanded {} Try.checked os 8 .any (Rows.tableRoomSpec.pre6 enc Try.prog Try.f8 Rows.tableRoomRow.domain false) (Rows.tableRoomSpec.post enc Try.prog Try.f8 false true false false) := by
  refine returnsInHanded_of_change (C := Try.checked) Law.own started (by kernel_rfl) Try.func8
    (ChangeSpec.witness6 (enc := enc) (C := Try.checked) false ⟨#[], #[.int .i64 0, .slice none 0 0], []⟩ 8 (by kernel_rfl) (by kernel_rfl) (by kernel_rfl) (by kernel_rfl)) ?_
  intro W base args ds gs before hval hW hcnd _
  have hW' := hW
  obtain ⟨p, q, hA, hV, rfl, hfz, hnd⟩ := hW
  rw [Try.params8] at hA hval
  obtain ⟨v0, v1, d0, d1, p0, p1, rfl, rfl, rfl, h0, h1⟩ := trodAll_two hA
  obtain ⟨rfl, rfl⟩ := trodVars_none hV
  obtain ⟨a0, rfl, rfl, rfl, w0⟩ := open_int Try.underlying3 (hval 0 3 v0 rfl rfl) h0
  obtain ⟨ad, len, cap, rfl⟩ := okWide_slice Try.underlying26 (hval 1 26 v1 rfl rfl)
  obtain ⟨zs, hzs, hlen⟩ := Law.open_ints_at h1
  refine (walk a0 ad len cap zs W hzs hlen).mono fun e W' ⟨he, hb⟩ => ?_
  subst he
  exact ⟨_, rfl, Law.law_post (by kernel_rfl) (by kernel_rfl) rfl hW' rfl rfl rfl hb⟩

theorem tableRoom_holds : Rows.TableRoomSaid :=
  OpenClaim.holds_of_wide 8 Try.f8 rfl rfl rfl rfl rfl rfl rfl ⟨rfl, rfl, rfl, rfl, rfl⟩ rfl rfl rfl rfl rfl (by kernel_rfl) Try.func8 (by kernel_rfl)
    (of_decide_eq_true (by kernel_rfl)) (by unfold Func.isWrapper; first | (rw [if_pos (by decide +kernel)]; kernel_rfl) | (rw [if_neg (by decide +kernel)]; exact ⟨rfl, rfl⟩))
    (fun os started H enc _ => lifted os started H enc)
#print axioms tableRoom_holds
end Go.Proofs.Ytnijiimljpbgpaa.tableRoom
