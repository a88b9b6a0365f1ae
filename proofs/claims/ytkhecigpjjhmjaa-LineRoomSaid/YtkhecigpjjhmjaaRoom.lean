/-
  What is there and what there is room for are the whole room, always; all that is taken at once is in order (LineRoom), for every int and every []int.
-/
import Derived.Test.YtkhecigpjjhmjaaAwake
import Derived.Test.YtkhecigpjjhmjaaKitB
import Derived.Test.YtkhecigpjjhmjaaLaw
import Derived.Deep.DeepCutAuto
import Derived.Deep.CutBlock
namespace Go.Proofs.Ytkhecigpjjhmjaa.lineRoom
open Go.ChangeShapes Go.WideShapes Go.ChangeAt Go.RowKit Go.Conc Go.Proofs.Ytkhecigpjjhmjaa.Kit Go.Proofs.Ytkhecigpjjhmjaa.Arg Go.Proofs.Ytkhecigpjjhmjaa.LI

/-- The line holds the first k. -/
def Has (w wr : World) (T c room k : Nat) (zs : List Int) : Prop := (∃ bs, LI.L wr T c room bs (ints (zs.take k))) ∧ Below c w wr

set_option maxHeartbeats 2000000 in
set_option maxRecDepth 100000 in
theorem walk (a0 : Int) (A : Option Addr) (n cp : Nat) (zs : List Int) (w : World) (hz : IntsAt w A n zs) (hn : n ≤ maxLen) :
    Calls Try.prog 6 #[.int .i64 a0, .slice A n cp] w fun e w' => e = .returned (.bool true) ∧ Below w.heap.size w w' := by
  have HZ := Lib.hid hz
  have HZL := Lib.hid hz.1
  clear hz
  by_cases hbig : 100 < n
  · unfold maxLen at hn
    go_enter Try.func6, Try.ntmps6
    go_wp2_with (go_at_call 7; refine (AW.awake _).mono ?_; rintro e w' ⟨rfl, hb⟩)
    go_ret
    exact ⟨rfl, hb⟩
  · have hn6 : n ≤ 100 := by omega
    clear hn
    have HNEW := Lib.hid (LI.new a0 w)
    obtain ⟨T, hT⟩ : ∃ T, T = w.heap.size + 1 := ⟨_, rfl⟩
    obtain ⟨c, hc⟩ : ∃ c, c = w.heap.size := ⟨_, rfl⟩
    rw [← hT, ← hc] at HNEW
    have HTT := Lib.hid hT
    have hcw : c ≤ w.heap.size := Nat.le_of_eq hc
    have HCC := Lib.hid hc
    clear hT hc
    go_enter Try.func6, Try.ntmps6
    go_wp2_with fail
    refine HNEW.out.mono ?_
    rintro e w1 ⟨rfl, hl1, hb1⟩
    have H1 := Lib.hid (show Has w w1 T c (LI.rm a0) 0 zs from ⟨⟨[], hl1⟩, hb1⟩)
    clear hl1 hb1 HNEW
    go_upto_region 4 with fail
    go_cut [6] (fun s6 wx => s6 = .int .i64 (LI.rm a0 : Nat) ∧ wx = w1)
    case first =>
      go_wp2
      all_goals (go_meet; exact ⟨by congr 1; unfold LI.rm; omega, rfl⟩)
    obtain ⟨rfl, rfl⟩ := hcut
    have hrm : LI.rm a0 ≤ 1000 := by unfold LI.rm; omega
    generalize LI.rm a0 = room at H1 hrm ⊢
    go_wp2
    go_loopw [7, 24] (fun s7 s24 wr => ∃ j k : Nat, j ≤ n ∧ s24 = .int .i64 j ∧ s7 = .int .i64 k ∧ k ≤ j ∧ k ≤ room ∧ (k < j → room ≤ k) ∧ Hid (Has w wr T c room k zs)) (fun _ s24 _ => n - (intOf s24).toNat)
    case atStart => exact ⟨0, 0, Nat.zero_le _, rfl, rfl, Nat.le_refl _, Nat.zero_le _, fun h => absurd h (Nat.lt_irrefl 0), H1⟩
    case round =>
      clear H1
      obtain ⟨j, k, hj, rfl, rfl, hkj, hkr, hkk, H⟩ := hrel
      obtain ⟨⟨bs, hL⟩, hB⟩ := H.out
      have HB := Lib.hid hB
      have hBs : c ≤ wr.heap.size := Nat.le_trans hcw hB.size
      clear hB
      by_cases hlt : j < n
      · obtain ⟨ad, x, rfl, hx, hc1⟩ := HZ.out.at_ HB.out (Nat.le_of_eq HCC.out.symm) hlt
        by_cases hr : j < room
        · obtain rfl : k = j := by omega
          have hlen : (ints (zs.take k)).length = k := by rw [ints_length, List.length_take, HZL.out]; omega
          have hlen1 : (ints (zs.take (k + 1))).length = k + 1 := by rw [ints_length, List.length_take, HZL.out]; omega
          have P := Lib.hid (LI.put_room hL (by omega) x)
          have HX := Lib.hid hx
          have HL1 := Lib.hid hlen1
          clear hkk hkr hlen hlen1 hx hL H
          go_wp2_with fail
          refine P.out.mono ?_
          rintro e w2 ⟨rfl, hl2, hg2⟩
          rw [← ints_snoc, ← take_snoc HX.out] at hl2
          have HB2 := Lib.hid (HB.out.trans (below_of_grown hg2 hBs (fun g e => by injection e; omega)))
          obtain ⟨r, hr1⟩ : ∃ r, (k + 1) + r = room := ⟨room - (k + 1), by omega⟩
          have L2 := Lib.hid (LI.len_k hl2 (k + 1) HL1.out)
          have R2 := Lib.hid (LI.room_k hl2 r (by rw [HL1.out]; exact hr1))
          have HL2 := Lib.hid hl2
          have hr2 : k + 1 + r ≤ room := by omega
          have hr3 : room ≤ k + 1 + r := by omega
          clear hl2 hg2 hr1 hc1
          go_wp2_with fail
          refine L2.out.mono ?_
          rintro e w3 ⟨rfl, rfl⟩
          go_wp2_with fail
          refine R2.out.mono ?_
          rintro e w3 ⟨rfl, hb3⟩
          have hl3 := HL2.out.below hb3
          have HL3 := Lib.hid hl3
          have L3 := Lib.hid (LI.len_k hl3 (k + 1) HL1.out)
          have HB3 := Lib.hid (HB2.out.trans (hb3.mono (by have := HB2.out.size; omega)))
          clear hl3 hb3
          go_wp2_with (go_at_call 12; refine L3.out.mono ?_; rintro e w' ⟨rfl, rfl⟩)
          go_roundw
          case rel => exact ⟨k + 1, k + 1, by omega, by go_num, by go_num, by omega, by omega, fun h => by omega, ⟨⟨_, HL3.out⟩, HB3.out⟩⟩
          case measure => simp [intOf]; omega
        · have hkk' : k = room := by omega
          have hlen : (ints (zs.take k)).length = k := by rw [ints_length, List.length_take, HZL.out]; omega
          have P := Lib.hid (LI.put_full hL (by omega) x)
          have HL1 := Lib.hid hlen
          have HL := Lib.hid hL
          have hr2 : room ≤ k := by omega
          clear hkk hlen hx hL H hkk'
          go_wp2_with fail
          refine P.out.mono ?_
          rintro e w2 ⟨rfl, hb2⟩
          have hl2 := HL.out.below hb2
          have HB2 := Lib.hid (HB.out.trans (hb2.mono hBs))
          have L2 := Lib.hid (LI.len_k hl2 k HL1.out)
          have R2 := Lib.hid (LI.room_k hl2 0 (by rw [HL1.out]; omega))
          have HL2 := Lib.hid hl2
          clear hl2 hb2 hc1
          go_wp2_with fail
          refine L2.out.mono ?_
          rintro e w3 ⟨rfl, rfl⟩
          go_wp2_with fail
          refine R2.out.mono ?_
          rintro e w3 ⟨rfl, hb3⟩
          have hl3 := HL2.out.below hb3
          have HL3 := Lib.hid hl3
          have L3 := Lib.hid (LI.len_k hl3 k HL1.out)
          have HB3 := Lib.hid (HB2.out.trans (hb3.mono (by have := HB2.out.size; omega)))
          clear hl3 hb3
          go_wp2_with (go_at_call 12; refine L3.out.mono ?_; rintro e w' ⟨rfl, rfl⟩)
          go_roundw
          case rel => exact ⟨j + 1, k, by omega, by go_num, by first | rfl | (have e : k = room := (by omega); rw [e]), by omega, by omega, fun h => by omega, ⟨⟨_, HL3.out⟩, HB3.out⟩⟩
          case measure => simp [intOf]; omega
      · obtain rfl : n = j := by omega
        have hlen : (zs.take k).length = k := by rw [List.length_take, HZL.out]; omega
        have P := Lib.hid (LI.all_ hL)
        have HLEN := Lib.hid hlen
        clear hlen hL H hlt
        go_wp2_with fail
        refine P.out.mono ?_
        rintro e w2 hp
        obtain ⟨v, rfl, ho2, hl2, hg2⟩ := hp
        obtain ⟨A2, c2, rfl, -, -, hi2⟩ := owns_view ho2
        rw [HLEN.out] at hi2 ⊢
        have HI2 := Lib.hid hi2
        have HB2 := Lib.hid (HB.out.trans (below_of_grown hg2 hBs (fun g e => by injection e; omega)))
        have L2 := Lib.hid (LI.len_k hl2 0 rfl)
        have R2 := Lib.hid (LI.room_k hl2 room (by simp))
        clear ho2 hl2 hg2 hi2
        have HBS := Lib.hid (Below.refl w2.heap.size w2)
        have h2w : c ≤ w2.heap.size := Nat.le_trans hcw HB2.out.size
        by_cases hnr : n ≤ room
        · obtain rfl : k = n := by omega
          clear hkk
          go_wp2_with (first
            | (go_at_call 12; refine L2.out.mono ?_; rintro e w' ⟨rfl, rfl⟩)
            | (go_at_call 13; refine R2.out.mono ?_; rintro e w3 ⟨rfl, hb3⟩; have HB3 := Lib.hid hb3; clear hb3))
          have h3w : c ≤ w3.heap.size := Nat.le_trans h2w HB3.out.size
          go_loopw [69] (fun s69 wx => ∃ i : Nat, i ≤ k ∧ s69 = .int .i64 i ∧ wx = w3) (fun s69 _ => k - (intOf s69).toNat)
          case atStart => exact ⟨0, Nat.zero_le _, rfl, rfl⟩
          case round =>
            obtain ⟨i, hi, rfl, rfl⟩ := hrel
            by_cases hlt2 : i < k
            · obtain ⟨ad3, x, rfl, hx, hc3⟩ := HI2.out.at_ HB3.out (Nat.le_refl _) hlt2
              obtain ⟨ad7, y, rfl, hy, hc7⟩ := HZ.out.at_ (HB2.out.trans (HB3.out.mono h2w)) (Nat.le_of_eq HCC.out.symm) hlt2
              rw [List.getElem?_take, if_pos hlt2, hy] at hx
              injection hx with hx
              subst hx
              clear hy
              go_wp2
              go_roundw
              case rel => exact ⟨i + 1, by omega, by go_num, by trivial⟩
              case measure => simp [intOf]; omega
            · obtain rfl : k = i := by omega
              go_wp2_with (go_at_call 7; refine (AW.awake _).mono ?_; rintro e w' ⟨rfl, hb⟩)
              go_ret
              refine ⟨rfl, ?_⟩
              have h1 := HB2.out.trans (HB3.out.mono h2w)
              rw [HCC.out] at h1
              exact h1.trans (hb.mono h1.size)
        · obtain rfl : room = k := by omega
          have hrn : room < n := by omega
          clear hkk
          go_wp2_with (first
            | (go_at_call 12; refine L2.out.mono ?_; rintro e w' ⟨rfl, rfl⟩)
            | (go_at_call 13; refine R2.out.mono ?_; rintro e w3 ⟨rfl, hb3⟩; have HB3 := Lib.hid hb3; clear hb3))
          have h3w : c ≤ w3.heap.size := Nat.le_trans h2w HB3.out.size
          go_loopw [69] (fun s69 wx => ∃ i : Nat, i ≤ room ∧ s69 = .int .i64 i ∧ wx = w3) (fun s69 _ => room - (intOf s69).toNat)
          case atStart => exact ⟨0, Nat.zero_le _, rfl, rfl⟩
          case round =>
            obtain ⟨i, hi, rfl, rfl⟩ := hrel
            by_cases hlt2 : i < room
            · obtain ⟨ad3, x, rfl, hx, hc3⟩ := HI2.out.at_ HB3.out (Nat.le_refl _) hlt2
              obtain ⟨ad7, y, rfl, hy, hc7⟩ := HZ.out.at_ (HB2.out.trans (HB3.out.mono h2w)) (Nat.le_of_eq HCC.out.symm) (Nat.lt_trans hlt2 hrn)
              rw [List.getElem?_take, if_pos hlt2, hy] at hx
              injection hx with hx
              subst hx
              clear hy
              go_wp2
              go_roundw
              case rel => exact ⟨i + 1, by omega, by go_num, by trivial⟩
              case measure => simp [intOf]; omega
            · obtain rfl : room = i := by omega
              go_wp2_with (go_at_call 7; refine (AW.awake _).mono ?_; rintro e w' ⟨rfl, hb⟩)
              go_ret
              refine ⟨rfl, ?_⟩
              have h1 := HB2.out.trans (HB3.out.mono h2w)
              rw [HCC.out] at h1
              exact h1.trans (hb.mono h1.size)

set_option maxRecDepth 100000 in
theorem lifted (os : Os) (started : os.Started) (H : Type) (enc : TypeId × Value → H) :
    ReturnsInHanded {} Try.checked os 6 .any (Rows.lineRoomSpec.pre6 enc Try.prog Try.f6 Rows.lineRoomRow.domain false) (Rows.lineRoomSpec.post enc Try.prog Try.f6 false true false false) := by
  refine returnsInHanded_of_change (C := Try.checked) Law.own started (by kernel_rfl) Try.func6
    (ChangeSpec.witness6 (enc := enc) (C := Try.checked) false ⟨#[], #[.int .i64 0, .slice none 0 0], []⟩ 8 (by kernel_rfl) (by kernel_rfl) (by kernel_rfl) (by kernel_rfl)) ?_
  intro W base args ds gs before hval hW hcnd _
  have hW' := hW
  obtain ⟨p, q, hA, hV, rfl, hfz, hnd⟩ := hW
  rw [Try.params6] at hA hval
  obtain ⟨v0, v1, d0, d1, p0, p1, rfl, rfl, rfl, h0, h1⟩ := trodAll_two hA
  obtain ⟨rfl, rfl⟩ := trodVars_none hV
  obtain ⟨a0, rfl, rfl, rfl, w0⟩ := open_int Try.underlying3 (hval 0 3 v0 rfl rfl) h0
  obtain ⟨ad, len, cap, rfl⟩ := okWide_slice Try.underlying26 (hval 1 26 v1 rfl rfl)
  obtain ⟨zs, hzs, hlen⟩ := Law.open_ints_at h1
  refine (walk a0 ad len cap zs W hzs hlen).mono fun e W' ⟨he, hb⟩ => ?_
  subst he
  exact ⟨_, rfl, Law.law_post (by kernel_rfl) (by kernel_rfl) rfl hW' rfl rfl rfl hb⟩

theorem lineRoom_holds : Rows.LineRoomSaid :=
  OpenClaim.holds_of_wide 6 Try.f6 rfl rfl rfl rfl rfl rfl rfl ⟨rfl, rfl, rfl, rfl, rfl⟩ rfl rfl rfl rfl rfl (by kernel_rfl) Try.func6 (by kernel_rfl)
    (of_decide_eq_true (by kernel_rfl)) (by unfold Func.isWrapper; first | (rw [if_pos (by decide +kernel)]; kernel_rfl) | (rw [if_neg (by decide +kernel)]; exact ⟨rfl, rfl⟩))
    (fun os started H enc _ => lifted os started H enc)
#print axioms lineRoom_holds
end Go.Proofs.Ytkhecigpjjhmjaa.lineRoom
