/-
  NumsTurned: the walk.
-/
import Derived.Test.YtmojecimmogeaaaDoorT
namespace Go.Proofs.YtmojecimmogeaaaDoor.numsTurned
open Go.RowKit Go.Proofs.YtmojecimmogeaaaDoor.Kit Go.Proofs.YtmojecimmogeaaaDoor.A Go.Proofs.YtmojecimmogeaaaDoor.B Go.Proofs.YtmojecimmogeaaaDoor.F Go.Proofs.YtmojecimmogeaaaDoor.I Go.Proofs.YtmojecimmogeaaaDoor.T

def Yes (w : World) (e : Ending) (w' : World) : Prop := e = .returned (.bool true) ∧ Below w.heap.size w w'
set_option maxHeartbeats 8000000 in
set_option maxRecDepth 100000 in
theorem walk (A : Option Addr) (n cp : Nat) (ls : List Sp) (x most : Int) (w : World) (ht : Tab w) (hz : SpansAt w A n ls) :
    Calls Tryd.prog 5 #[.slice A n cp, .int .i64 x, .int .i64 most] w (Yes w) := by
  have HT := Lib.hid ht
  have HZ := Lib.hid hz
  have HL := Lib.hid hz.1
  have C1 := may_any (cp := cp) hz
  clear ht hz
  cases ha : mayB ls with
  | false =>
    rw [ha] at C1
    have K1 := Lib.hid C1
    clear C1 ha
    go_enter Tryd.func5, Tryd.ntmps5
    go_wp2_with (first
      | (go_at_call 8; refine K1.out.mono ?_; rintro e w1 ⟨rfl, hb1⟩; have HAW := Lib.hid (awake (HT.out.below hb1 (Nat.le_refl _))); have HB1 := Lib.hid hb1; clear hb1)
      | (go_at_call 10; refine HAW.out.mono ?_; rintro e w' ⟨rfl, hb9⟩))
    go_ret
    exact ⟨rfl, HB1.out.trans (hb9.mono HB1.out.size)⟩
  | true =>
    rw [ha] at C1
    have K1 := Lib.hid C1
    have hn20 : (n : Int) ≤ 20 := by have := may_len ha; have := HL.out; omega
    have HA := Lib.hid ha
    clear C1 ha
    by_cases h1 : most < 1
    · go_enter Tryd.func5, Tryd.ntmps5
      go_wp2_with (first
        | (go_at_call 8; refine K1.out.mono ?_; rintro e w1 ⟨rfl, hb1⟩; have HAW := Lib.hid (awake (HT.out.below hb1 (Nat.le_refl _))); have HB1 := Lib.hid hb1; clear hb1)
        | (go_at_call 10; refine HAW.out.mono ?_; rintro e w' ⟨rfl, hb9⟩))
      go_ret
      exact ⟨rfl, HB1.out.trans (hb9.mono HB1.out.size)⟩
    by_cases h2 : 1000000 < most
    · have h1' : 1 ≤ most := by omega
      clear h1
      go_enter Tryd.func5, Tryd.ntmps5
      go_wp2_with (first
        | (go_at_call 8; refine K1.out.mono ?_; rintro e w1 ⟨rfl, hb1⟩; have HAW := Lib.hid (awake (HT.out.below hb1 (Nat.le_refl _))); have HB1 := Lib.hid hb1; clear hb1)
        | (go_at_call 10; refine HAW.out.mono ?_; rintro e w' ⟨rfl, hb9⟩))
      go_ret
      exact ⟨rfl, HB1.out.trans (hb9.mono HB1.out.size)⟩
    have h1' : 1 ≤ most := by omega
    have h2' : most ≤ 1000000 := by omega
    clear h1 h2
    go_enter Tryd.func5, Tryd.ntmps5
    go_wp2_with fail
    refine K1.out.mono ?_
    rintro e w1 ⟨rfl, hb1⟩
    have HB1 := Lib.hid hb1
    clear hb1
    go_wp2_with fail
    go_loopw [7, 8, 30] (fun s7 s8 s30 wr => ∃ (k : Nat) (v7 v8 : Value), v7 = s7 ∧ v8 = s8 ∧ k ≤ n ∧ s30 = .int .i64 k ∧ Hid (R w wr v7 k (ts ls k) v8 k (us most ls k))) (fun _ _ s30 _ => n - (intOf s30).toNat)
    case atStart => exact ⟨0, _, _, rfl, rfl, Nat.zero_le _, rfl, World.ownsRow_nil _ _ _ _, World.ownsRow_nil _ _ _ _, HB1.out, .inl rfl⟩
    case round =>
      clear HB1
      obtain ⟨k, v7, v8, rfl, rfl, hk, rfl, HR⟩ := hrel
      by_cases hlt : k < n
      · obtain ⟨j, hj⟩ : ∃ j, j + k + 1 = n := ⟨n - 1 - k, by omega⟩
        obtain ⟨ad, a, b, rfl, hx, hc1, hc2⟩ := HZ.out.sp HR.out.2.2.1 (Nat.le_refl _) (show j < n by omega)
        have HRV := Lib.hid (rev_at HL.out hlt hj hx)
        have j1 : (n : Int) - 1 - (k : Int) = (j : Int) := by omega
        have j2 : (j : Int) < (n : Int) := by omega
        have hlow7 : ∀ g, v7.ownBlock = some g → g < wr.heap.size := fun g e => (HR.out.1.lt g e).2
        have hlow8 : ∀ g, v8.ownBlock = some g → g < wr.heap.size := fun g e => (HR.out.2.1.lt g e).2
        have L7 := Lib.hid hlow7
        have L8 := Lib.hid hlow8
        have hws := HR.out.2.2.1.size
        clear hx hj hlow7 hlow8
        go_upto_region 9 with (at_builtin; refine wpList_sp rfl _ _ rfl rfl rfl ((HR.out.1.alloc _).alloc _) (spansAt_new _ _ _ (by simp)) (by omega) (by simp; omega) ?_; intro v' w2 hown2 hg2 hat2)
        obtain ⟨e1, e2, f1, f2⟩ := laid_still hg2 L7.out
        have HR2 := Lib.hid (((HR.out.alloc _).alloc _).app7 (z := swap (a, b)) hown2 hg2 hat2)
        have O7 := Lib.hid (show v'.ownBlock ≠ some wr.heap.size by
          rcases hat2 with e | e
          · rw [e]; exact fun h => Nat.lt_irrefl _ (L7.out _ h)
          · rw [e]; simp; omega)
        have O8 := Lib.hid (show v8.ownBlock ≠ some wr.heap.size from fun h => Nat.lt_irrefl _ (L8.out _ h))
        clear hown2 hg2 hat2 hc1 hc2
        by_cases ha : a = 0
        · have hab : (a == 0) = true := by simpa using ha
          by_cases hb : b = 0
          · have hbb : (b == 0) = true := by simpa using hb
            have HF := Lib.hid (show fill most (a, b) = (most, most) by unfold fill; simp only [if_pos ha, if_pos hb])
            have HR3 := Lib.hid ((HR2.out.set (a := { block := wr.heap.size, off := 0 }) (.int .i64 most) hws O7.out O8.out).set (a := { block := wr.heap.size, off := 1 }) (.int .i64 most) hws O7.out O8.out)
            clear ha hb
            go_wp2_with (at_builtin; refine wpList_sp rfl _ _ rfl rfl rfl (HR3.out.2.1.alloc _) (spansAt_new _ _ _ (by simp)) (by omega) (HR3.out.alloc _).2.2.1.size ?_; intro v'' w3 hown3 hg3 hat3)
            have HR4 := Lib.hid ((HR3.out.alloc _).app8 hown3 hg3 hat3)
            clear hown3 hg3 hat3
            go_roundw
            case rel => exact ⟨k + 1, _, _, rfl, rfl, by omega, by go_num, by rw [ts_snoc HRV.out, us_snoc HRV.out, HF.out]; exact HR4.out⟩
            case measure => simp [intOf]; omega
          · have hbb : (b == 0) = false := by simpa using hb
            have HF := Lib.hid (show fill most (a, b) = (most, b) by unfold fill; simp only [if_pos ha, if_neg hb])
            have HR3 := Lib.hid (HR2.out.set (a := { block := wr.heap.size, off := 0 }) (.int .i64 most) hws O7.out O8.out)
            clear ha hb
            go_wp2_with (at_builtin; refine wpList_sp rfl _ _ rfl rfl rfl (HR3.out.2.1.alloc _) (spansAt_new _ _ _ (by simp)) (by omega) (HR3.out.alloc _).2.2.1.size ?_; intro v'' w3 hown3 hg3 hat3)
            have HR4 := Lib.hid ((HR3.out.alloc _).app8 hown3 hg3 hat3)
            clear hown3 hg3 hat3
            go_roundw
            case rel => exact ⟨k + 1, _, _, rfl, rfl, by omega, by go_num, by rw [ts_snoc HRV.out, us_snoc HRV.out, HF.out]; exact HR4.out⟩
            case measure => simp [intOf]; omega
        · have hab : (a == 0) = false := by simpa using ha
          by_cases hb : b = 0
          · have hbb : (b == 0) = true := by simpa using hb
            have HF := Lib.hid (show fill most (a, b) = (a, most) by unfold fill; simp only [if_neg ha, if_pos hb])
            have HR3 := Lib.hid (HR2.out.set (a := { block := wr.heap.size, off := 1 }) (.int .i64 most) hws O7.out O8.out)
            clear ha hb
            go_wp2_with (at_builtin; refine wpList_sp rfl _ _ rfl rfl rfl (HR3.out.2.1.alloc _) (spansAt_new _ _ _ (by simp)) (by omega) (HR3.out.alloc _).2.2.1.size ?_; intro v'' w3 hown3 hg3 hat3)
            have HR4 := Lib.hid ((HR3.out.alloc _).app8 hown3 hg3 hat3)
            clear hown3 hg3 hat3
            go_roundw
            case rel => exact ⟨k + 1, _, _, rfl, rfl, by omega, by go_num, by rw [ts_snoc HRV.out, us_snoc HRV.out, HF.out]; exact HR4.out⟩
            case measure => simp [intOf]; omega
          · have hbb : (b == 0) = false := by simpa using hb
            have HF := Lib.hid (show fill most (a, b) = (a, b) by unfold fill; simp only [if_neg ha, if_neg hb])
            have HR3 := Lib.hid HR2.out
            clear ha hb
            go_wp2_with (at_builtin; refine wpList_sp rfl _ _ rfl rfl rfl (HR3.out.2.1.alloc _) (spansAt_new _ _ _ (by simp)) (by omega) (HR3.out.alloc _).2.2.1.size ?_; intro v'' w3 hown3 hg3 hat3)
            have HR4 := Lib.hid ((HR3.out.alloc _).app8 hown3 hg3 hat3)
            clear hown3 hg3 hat3
            go_roundw
            case rel => exact ⟨k + 1, _, _, rfl, rfl, by omega, by go_num, by rw [ts_snoc HRV.out, us_snoc HRV.out, HF.out]; exact HR4.out⟩
            case measure => simp [intOf]; omega
      · obtain rfl : k = n := by omega
        have h1 := HR.out
        rw [ts_all HL.out, us_all HL.out] at h1
        obtain ⟨A7, c7, rfl, _⟩ := own_slice h1.1
        obtain ⟨A8, c8, rfl, _⟩ := own_slice h1.2.1
        have H7 := Lib.hid (show At w wr A7 k (ls.reverse.map swap) from ⟨h1.2.2.1, spansAt_own h1.1⟩)
        have H8 := Lib.hid (show At w wr A8 k (ls.reverse.map (fill most)) from ⟨h1.2.2.1, spansAt_own h1.2.1⟩)
        have H0 := Lib.hid (show At w wr A k ls from ⟨h1.2.2.1, HZ.out.below h1.2.2.1⟩)
        have HTU := Lib.hid (has_turned ls x most)
        have HFI := Lib.hid (has_filled (n := x) HA.out h1' h2')
        obtain ⟨q, hq⟩ : ∃ q, q = hasB ls x most := ⟨_, rfl⟩
        have HQ := Lib.hid hq
        have hqq : (q == q) = true := by simp
        clear h1 HR hlt hq
        have C := has_any (cp := c7) (n := x) (most := most) H7.out.at_
        rw [HTU.out, ← HQ.out] at C
        have HC := Lib.hid C
        clear C
        go_wp2_with fail
        refine HC.out.mono ?_
        rintro e w2 ⟨rfl, hb2⟩
        have G8 := Lib.hid (H8.out.go hb2)
        have G0 := Lib.hid (H0.out.go hb2)
        have C := has_any (cp := cp) (n := x) (most := most) G0.out.at_
        rw [← HQ.out] at C
        have HC := Lib.hid C
        clear C hb2 H8 H0 H7
        go_wp2_with fail
        refine HC.out.mono ?_
        rintro e w3 ⟨rfl, hb3⟩
        have H8 := Lib.hid (G8.out.go hb3)
        have H0 := Lib.hid (G0.out.go hb3)
        have C := has_any (cp := c8) (n := x) (most := 0) H8.out.at_
        rw [HFI.out, ← HQ.out] at C
        have HC := Lib.hid C
        clear C hb3 G8 G0
        go_wp2_with fail
        refine HC.out.mono ?_
        rintro e w4 ⟨rfl, hb4⟩
        have G0 := Lib.hid (H0.out.go hb4)
        have C := has_any (cp := cp) (n := x) (most := most) G0.out.at_
        rw [← HQ.out] at C
        have HC := Lib.hid C
        clear C hb4 H8 H0
        go_wp2_with fail
        refine HC.out.mono ?_
        rintro e w5 ⟨rfl, hb5⟩
        have H0 := Lib.hid (G0.out.go hb5)
        have HAW := Lib.hid (awake (HT.out.below H0.out.bel (Nat.le_refl _)))
        clear hb5 G0
        go_wp2_with fail
        refine HAW.out.mono ?_
        rintro e w6 ⟨rfl, hb6⟩
        go_wp2_with fail
        go_ret
        exact ⟨rfl, H0.out.bel.trans (hb6.mono H0.out.bel.size)⟩
end Go.Proofs.YtmojecimmogeaaaDoor.numsTurned
