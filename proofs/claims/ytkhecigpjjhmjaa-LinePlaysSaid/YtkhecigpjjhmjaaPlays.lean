/-
  What is taken is what was put, in order: any calls, over any room (LinePlays), for every int and every row of calls.
-/
import Derived.Test.YtkhecigpjjhmjaaAwake
import Derived.Test.YtkhecigpjjhmjaaSt
import Derived.Test.YtkhecigpjjhmjaaCalls
import Derived.Test.YtkhecigpjjhmjaaLaw
import Derived.Deep.DeepCutAuto
import Derived.Deep.CutBlock
import Derived.Deep.QuietTactic
import Derived.BigQuiet
namespace Go.Proofs.Ytkhecigpjjhmjaa.linePlays
open Go.ChangeShapes Go.WideShapes Go.ChangeAt Go.RowKit Go.Conc Go.Proofs.Ytkhecigpjjhmjaa.Kit Go.Proofs.Ytkhecigpjjhmjaa.Arg Go.Proofs.Ytkhecigpjjhmjaa.LI Go.Proofs.Ytkhecigpjjhmjaa.PL

theorem add0 (a : Addr) : a.add 0 = a := by unfold Addr.add; split <;> simp_all
theorem drewN_of {B : Nat} {a b : World} (h : Below B a b) (q : Nat) : Below B a (b.drewN q) := h.trans ⟨rfl, rfl, rfl, Nat.le_refl _, fun _ _ => rfl⟩

set_option maxHeartbeats 4000000 in
set_option maxRecDepth 100000 in
theorem walk (a0 : Int) (A : Option Addr) (n cp : Nat) (w : World) (hz : CallsAt w A n) (hn : n ≤ maxLen) :
    Calls Try.prog 3 #[.int .i64 a0, .slice A n cp] w fun e w' => e = .returned (.bool true) ∧ Below w.heap.size w w' := by
  have HZ := Lib.hid hz
  clear hz
  by_cases hbig : 300 < n
  · unfold maxLen at hn
    go_enter Try.func3, Try.ntmps3
    go_wp2_with (go_at_call 7; refine (AW.awake _).mono ?_; rintro e w' ⟨rfl, hb⟩)
    go_ret
    exact ⟨rfl, hb⟩
  · have hn6 : n ≤ 300 := by omega
    clear hn
    have HNEW := Lib.hid (LI.new a0 w)
    obtain ⟨T, hT⟩ : ∃ T, T = w.heap.size + 1 := ⟨_, rfl⟩
    obtain ⟨c, hc⟩ : ∃ c, c = w.heap.size := ⟨_, rfl⟩
    rw [← hT, ← hc] at HNEW
    have hcw : c ≤ w.heap.size := Nat.le_of_eq hc
    have hcT : c < T := by omega
    have HCC := Lib.hid hc
    clear hT hc
    go_enter Try.func3, Try.ntmps3
    go_wp2_with fail
    refine HNEW.out.mono ?_
    rintro e w1 ⟨rfl, hl1, hb1⟩
    have H1 := Lib.hid (show St w w1 T c (LI.rm a0) none 0 [] [] from ⟨⟨[], hl1, fun g off e => by cases e⟩, Want.nil _ _, hb1, hcT, hcw⟩)
    clear hl1 hb1 HNEW
    go_upto_region 4 with fail
    go_cut [6] (fun s6 wx => s6 = .int .i64 (LI.rm a0 : Nat) ∧ wx = w1)
    case first =>
      go_wp2
      all_goals (go_meet; exact ⟨by congr 1; unfold LI.rm; omega, rfl⟩)
    obtain ⟨rfl, rfl⟩ := hcut
    have hrm : LI.rm a0 ≤ 1000 := by unfold LI.rm; omega
    generalize LI.rm a0 = room at H1 hrm ⊢
    go_wp2
    go_loopw [7, 26] (fun s7 s26 wr => ∃ (j m : Nat) (ys : List Int) (A7 : Option Addr) (c7 : Nat), j ≤ n ∧ m ≤ room ∧ s26 = .int .i64 j ∧ s7 = .slice A7 m c7 ∧ Hid (ys.length = m) ∧ Hid (St w wr T c room A7 c7 ys ys)) (fun _ s26 _ => n - (intOf s26).toNat)
    case atStart => exact ⟨0, 0, [], none, 0, Nat.zero_le _, Nat.zero_le _, rfl, rfl, rfl, H1⟩
    case round =>
      clear H1
      obtain ⟨j, m, ys, A7, c7, hj, hm, rfl, rfl, HL, H⟩ := hrel
      by_cases hlt : j < n
      · obtain ⟨ad, rfl, D, K, hd1, hd2⟩ := HZ.out.at_ H.out.bel (Nat.le_of_eq HCC.out.symm) hlt
        obtain ⟨wo, rfl⟩ : ∃ wo : World, wo = wr := ⟨_, rfl⟩
        have hP : (wo.alloc (.cells #[.int .i64 D, .int .i64 K] 28)).heap[wo.heap.size]? = some (Obj.cells #[.int .i64 D, .int .i64 K] 28 (0, 0)) := heap_alloc_new wo _
        have HS := Lib.hid (H.out.below ((Below.refl _ _).alloc (Nat.le_refl _) (.cells #[.int .i64 D, .int .i64 K] 28)))
        obtain ⟨wb, hwb⟩ : ∃ wb, wb = wo.alloc (.cells #[.int .i64 D, .int .i64 K] 28) := ⟨_, rfl⟩
        obtain ⟨P, hPe⟩ : ∃ P, P = wo.heap.size := ⟨_, rfl⟩
        rw [← hwb, ← hPe] at hP
        rw [← hwb] at HS
        have HWB := Lib.hid hwb
        have HPE := Lib.hid hPe
        have HP := Lib.hid hP
        have hcP : c < P := by rw [hPe]; have := H.out.size; omega
        clear hP hwb hPe H
        go_upto_block 2 with fail
        rw [← HWB.out, ← HPE.out]
        have hp0 : wb.cell? ⟨P, 0, none⟩ = some (.int .i64 D) := by rw [cell_of_row wb P 0 _ 28 (0, 0) HP.out]; rfl
        have hp1 : wb.cell? ⟨P, 1, none⟩ = some (.int .i64 K) := by rw [cell_of_row wb P 1 _ 28 (0, 0) HP.out]; rfl
        go_cut [7] (fun s7 wx => ∃ (m' : Nat) (ys' : List Int) (A5 : Option Addr) (c5 : Nat), m' ≤ room ∧ s7 = .slice A5 m' c5 ∧ Hid (ys'.length = m') ∧ Hid (St w wx T c room A5 c5 ys' ys'))
        case first =>
          by_cases hD0 : D = 0
          · have d0 : (D == 0) = true := by simpa using hD0
            clear hD0
            by_cases hroom : m < room
            · have gr : decide ((m : Int) < (room : Int)) = true := by simp; omega
              have P0 := Lib.hid (HS.out.put (by rw [HL.out]; exact hroom) K)
              have hm9 : m ≤ 1000 := by omega
              clear hm
              go_wp2_with fail
              refine P0.out.mono ?_
              rintro e w5 ⟨rfl, h5, hg5⟩
              have hq1 : w5.cell? ⟨P, 1, none⟩ = some (.int .i64 K) := by
                rw [← hp1]
                exact World.cell?_of_block (w := wb) (a := ⟨P, 1, none⟩) (hg5.block P (heap_lt HP.out) (fun e => by injection e with e; omega))
              obtain ⟨A6, c6, w6, hra, h6⟩ := h5.append (by rw [HL.out]; exact hm9) K 26
              rw [HL.out] at hra
              have H6 := Lib.hid h6
              have HL6 := Lib.hid (show (ys ++ [K]).length = m + 1 by rw [List.length_append, HL.out]; rfl)
              have HRA := Lib.hid hra
              clear h5 hg5 h6 hra P0 hp0 hp1
              go_wp2_with (at_builtin; refine Lib.wpList_append_run _ rfl (.tmp 67) (.tmp 70) 26 26 rfl _ _ rfl rfl _ _ HRA.out ?_)
              go_meet
              exact ⟨m + 1, _, _, _, by omega, rfl, HL6, H6⟩
            · have gr : decide ((m : Int) < (room : Int)) = false := by simp; omega
              have P0 := Lib.hid (HS.out.full (by rw [HL.out]; omega) K)
              go_wp2_with fail
              refine P0.out.mono ?_
              rintro e w5 ⟨rfl, h5⟩
              have H5 := Lib.hid h5
              clear h5 P0 hp0 hp1
              go_wp2
              go_meet
              exact ⟨m, ys, _, _, hm, rfl, HL, H5⟩
          · have d0 : (D == 0) = false := by simpa using hD0
            by_cases hD1 : D = 1
            · have d1 : (D == 1) = true := by simpa using hD1
              clear hD0 hD1
              cases ys with
              | nil =>
                obtain rfl : m = 0 := by have := HL.out; simpa using this.symm
                have P0 := Lib.hid HS.out.takeNone
                go_wp2_with fail
                refine P0.out.mono ?_
                rintro e w5 ⟨rfl, h5⟩
                have H5 := Lib.hid h5
                clear h5 P0 hp0 hp1
                go_wp2
                go_meet
                exact ⟨0, [], _, _, hm, rfl, HL, H5⟩
              | cons y ys =>
                obtain ⟨m1, rfl⟩ : ∃ m1, m = m1 + 1 := ⟨ys.length, by have := HL.out; simpa using this.symm⟩
                have P0 := Lib.hid HS.out.take
                go_wp2_with fail
                refine P0.out.mono ?_
                rintro e w5 ⟨rfl, h5⟩
                obtain ⟨ad7, y', rfl, hy', hc7⟩ := h5.want.ints.at_ (Below.refl w5.heap.size w5) (Nat.le_refl _) (j := 0) (by simp)
                simp at hy'
                subst hy'
                rw [add0] at hc7
                have hle := h5.want.le
                simp only [List.length_cons] at hle
                have h6 := h5.tail
                have HL6 := Lib.hid (show ys.length = m1 by have := HL.out; simpa using this)
                have hc71 : m1 + 1 ≤ c7 := by rw [← HL6.out]; exact hle
                rw [show Option.map (fun x : Addr => x.add 1) (some ad7) = some { block := ad7.block, off := ad7.off + 1 } by rfl] at h6
                by_cases hc1 : c7 = 1
                · rw [if_pos hc1, show c7 - 1 = 0 by omega] at h6
                  have H6 := Lib.hid h6
                  clear h5 h6 hle P0 hp0 hp1
                  go_wp2
                  go_meet
                  exact ⟨m1, ys, _, _, by omega, rfl, HL6, H6⟩
                · rw [if_neg hc1] at h6
                  have H6 := Lib.hid h6
                  clear h5 h6 hle P0 hp0 hp1
                  go_wp2
                  go_meet
                  exact ⟨m1, ys, _, _, by omega, rfl, HL6, H6⟩
            · have d1 : (D == 1) = false := by simpa using hD1
              clear hD0 hD1
              have P0 := Lib.hid HS.out.all
              go_wp2_with fail
              refine P0.out.mono ?_
              rintro e w5 ⟨A3, c3, rfl, hi3, h5⟩
              have hi7 := h5.want.ints
              rw [HL.out] at hi3 hi7 ⊢
              have HI3 := Lib.hid hi3
              have HI7 := Lib.hid hi7
              have H5 := Lib.hid h5.wantNil
              have HB5 := Lib.hid (Below.refl w5.heap.size w5)
              clear h5 hi3 hi7 P0 hp0 hp1 hd1 hd2 hlt
              go_wp2
              go_loopw [41] (fun s41 wx => ∃ i : Nat, i ≤ m ∧ s41 = .int .i64 i ∧ Hid (Below w5.heap.size w5 wx)) (fun s41 _ => m - (intOf s41).toNat)
              case atStart => exact ⟨0, Nat.zero_le _, rfl, HB5⟩
              case round =>
                clear HB5
                obtain ⟨i, hi, rfl, hBi⟩ := hrel
                by_cases hlt2 : i < m
                · obtain ⟨ad3, x, rfl, hx, hc3⟩ := HI3.out.at_ hBi.out (Nat.le_refl _) hlt2
                  obtain ⟨ad7, y, rfl, hy, hc7⟩ := HI7.out.at_ hBi.out (Nat.le_refl _) hlt2
                  rw [hx] at hy
                  injection hy with hy
                  subst hy
                  have hii : (i : Int) < (m : Int) := by omega
                  clear hx
                  go_wp2
                  go_quiet (fail)
                  go_wp2
                  go_roundw
                  case rel => exact ⟨i + 1, by omega, by go_num, drewN_of hBi.out _⟩
                  case measure => simp [intOf]; omega
                · obtain rfl : m = i := by omega
                  have H6 := Lib.hid (H5.out.below hBi.out)
                  go_wp2
                  go_meet
                  exact ⟨0, [], _, _, Nat.zero_le _, rfl, rfl, H6⟩
        obtain ⟨m', ys', A5, c5, hm', rfl, HL', H'⟩ := hcut
        clear hp0 hp1 HS HP HL hm hd1 hd2
        obtain ⟨r, hr⟩ : ∃ r, m' + r = room := ⟨room - m', by omega⟩
        have L1 := Lib.hid (H'.out.len m' HL'.out)
        have R1 := Lib.hid (H'.out.roomL r (by rw [HL'.out]; exact hr))
        have hr1 : m' + r ≤ room := by omega
        have hr2 : room ≤ m' + r := by omega
        clear hr
        go_wp2_with (first
          | (go_at_call 12; refine L1.out.mono ?_; rintro e w' ⟨rfl, rfl⟩)
          | (go_at_call 13; refine R1.out.mono ?_; rintro e w9 ⟨rfl, h9⟩; have H9 := Lib.hid h9; clear h9))
        go_roundw
        case rel => exact ⟨j + 1, m', ys', A5, c5, by omega, by omega, by go_num, rfl, HL', H9⟩
        case measure => simp [intOf]; omega
      · obtain rfl : n = j := by omega
        go_wp2_with (go_at_call 7; refine (AW.awake _).mono ?_; rintro e w' ⟨rfl, hb⟩)
        go_ret
        refine ⟨rfl, ?_⟩
        have h1 := H.out.bel
        rw [HCC.out] at h1
        exact h1.trans (hb.mono h1.size)

set_option maxRecDepth 100000 in
theorem lifted (os : Os) (started : os.Started) (H : Type) (enc : TypeId × Value → H) :
    ReturnsInHanded {} Try.checked os 3 .any (Rows.linePlaysSpec.pre6 enc Try.prog Try.f3 Rows.linePlaysRow.domain false) (Rows.linePlaysSpec.post enc Try.prog Try.f3 false true false false) := by
  refine returnsInHanded_of_change (C := Try.checked) Law.own started (by kernel_rfl) Try.func3
    (ChangeSpec.witness6 (enc := enc) (C := Try.checked) false ⟨#[], #[.int .i64 0, .slice none 0 0], []⟩ 8 (by kernel_rfl) (by kernel_rfl) (by kernel_rfl) (by kernel_rfl)) ?_
  intro W base args ds gs before hval hW hcnd _
  have hW' := hW
  obtain ⟨p, q, hA, hV, rfl, hfz, hnd⟩ := hW
  rw [Try.params3] at hA hval
  obtain ⟨v0, v1, d0, d1, p0, p1, rfl, rfl, rfl, h0, h1⟩ := trodAll_two hA
  obtain ⟨rfl, rfl⟩ := trodVars_none hV
  obtain ⟨a0, rfl, rfl, rfl, w0⟩ := open_int Try.underlying3 (hval 0 3 v0 rfl rfl) h0
  obtain ⟨ad, len, cap, rfl⟩ := okWide_slice Try.underlying22 (hval 1 22 v1 rfl rfl)
  obtain ⟨hzs, hlen⟩ := open_calls h1
  refine (walk a0 ad len cap W hzs hlen).mono fun e W' ⟨he, hb⟩ => ?_
  subst he
  exact ⟨_, rfl, Law.law_post (by kernel_rfl) (by kernel_rfl) rfl hW' rfl rfl rfl hb⟩

theorem linePlays_holds : Rows.LinePlaysSaid :=
  OpenClaim.holds_of_wide 3 Try.f3 rfl rfl rfl rfl rfl rfl rfl ⟨rfl, rfl, rfl, rfl, rfl⟩ rfl rfl rfl rfl rfl (by kernel_rfl) Try.func3 (by kernel_rfl)
    (of_decide_eq_true (by kernel_rfl)) (by unfold Func.isWrapper; first | (rw [if_pos (by decide +kernel)]; kernel_rfl) | (rw [if_neg (by decide +kernel)]; exact ⟨rfl, rfl⟩))
    (fun os started H enc _ => lifted os started H enc)
#print axioms linePlays_holds
end Go.Proofs.Ytkhecigpjjhmjaa.linePlays
