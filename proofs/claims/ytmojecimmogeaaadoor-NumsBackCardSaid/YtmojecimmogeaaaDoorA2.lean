/-
  Has: is a number in a row of spans?
-/
import Derived.Test.YtmojecimmogeaaaDoorA
namespace Go.Proofs.YtmojecimmogeaaaDoor.A
open Go.RowKit Go.Proofs.YtmojecimmogeaaaDoor.Kit

def inB (f t n : Int) : Bool := decide (1 ≤ f ∧ 1 ≤ t ∧ ((f ≤ n ∧ n ≤ t) ∨ (t ≤ n ∧ n ≤ f)))
/-- Is n in the span, most being the greatest number? -/
def spB (s : Sp) (n most : Int) : Bool := inB (if s.1 = 0 then most else s.1) (if s.2 = 0 then most else s.2) n

set_option maxHeartbeats 1000000 in
theorem span_has (x y n most : Int) (w : World) : Calls Tryd.prog 22 #[.agg #[.int .i64 x, .int .i64 y], .int .i64 n, .int .i64 most] w fun e w' => e = .returned (.bool (spB (x, y) n most)) ∧ Below w.heap.size w w' := by
  by_cases hx : x = 0
  · subst hx
    by_cases hy : y = 0
    · subst hy
      rw [show spB (0, 0) n most = inB most most n by unfold spB; simp only [if_true]]
      go_enter Tryd.func22, Tryd.ntmps22
      go_wp2
      go_region
      go_wp2
      all_goals
        go_ret
        exact ⟨ret_bool (by rw [Bool.eq_iff_iff]; unfold inB; simp only [decide_eq_true_eq, Bool.false_eq_true, false_iff]; omega), ((Below.refl _ _).alloc (Nat.le_refl _) _).drew⟩
    · have hyb : (y == 0) = false := by simpa using hy
      rw [show spB (0, y) n most = inB most y n by unfold spB; simp only [if_neg hy, if_true]]
      clear hy
      go_enter Tryd.func22, Tryd.ntmps22
      go_wp2
      go_region
      go_wp2
      all_goals
        go_ret
        exact ⟨ret_bool (by rw [Bool.eq_iff_iff]; unfold inB; simp only [decide_eq_true_eq, Bool.false_eq_true, false_iff]; omega), ((Below.refl _ _).alloc (Nat.le_refl _) _).drew⟩
  · have hxb : (x == 0) = false := by simpa using hx
    by_cases hy : y = 0
    · subst hy
      rw [show spB (x, 0) n most = inB x most n by unfold spB; simp only [if_neg hx, if_true]]
      clear hx
      go_enter Tryd.func22, Tryd.ntmps22
      go_wp2
      go_region
      go_wp2
      all_goals
        go_ret
        exact ⟨ret_bool (by rw [Bool.eq_iff_iff]; unfold inB; simp only [decide_eq_true_eq, Bool.false_eq_true, false_iff]; omega), ((Below.refl _ _).alloc (Nat.le_refl _) _).drew⟩
    · have hyb : (y == 0) = false := by simpa using hy
      rw [show spB (x, y) n most = inB x y n by unfold spB; simp only [if_neg hx, if_neg hy]]
      clear hx hy
      go_enter Tryd.func22, Tryd.ntmps22
      go_wp2
      go_region
      go_wp2
      all_goals
        go_ret
        exact ⟨ret_bool (by rw [Bool.eq_iff_iff]; unfold inB; simp only [decide_eq_true_eq, Bool.false_eq_true, false_iff]; omega), ((Below.refl _ _).alloc (Nat.le_refl _) _).drew⟩

theorem may_len {zs : List Sp} (h : mayB zs = true) : 1 ≤ zs.length ∧ zs.length ≤ 20 := by
  unfold mayB at h
  rw [Bool.and_eq_true] at h
  exact of_decide_eq_true h.1
theorem may_all {zs : List Sp} (h : mayB zs = true) : ∀ z ∈ zs, okS z = true := by
  unfold mayB at h
  rw [Bool.and_eq_true] at h
  exact List.all_eq_true.1 h.2
/-- Is n in the set, most being the greatest number? -/
def hasB (zs : List Sp) (n most : Int) : Bool := decide (1 ≤ n) && mayB zs && zs.any (spB · n most)
theorem has_low {zs : List Sp} {n most : Int} (h : n < 1) : hasB zs n most = false := by unfold hasB; rw [decide_eq_false (by omega)]; rfl
theorem has_bad {zs : List Sp} {n most : Int} (h : mayB zs = false) : hasB zs n most = false := by unfold hasB; rw [h]; simp
theorem has_yes {zs : List Sp} {n most : Int} {k : Nat} {z : Sp} (hn : 1 ≤ n) (hm : mayB zs = true) (hz : zs[k]? = some z) (h : spB z n most = true) : hasB zs n most = true := by
  unfold hasB
  rw [decide_eq_true hn, hm, show zs.any (spB · n most) = true from List.any_eq_true.2 ⟨z, List.mem_of_getElem? hz, h⟩]; rfl
theorem has_no {zs : List Sp} {n most : Int} {k : Nat} (hk : zs.length ≤ k) (h : (zs.take k).any (spB · n most) = false) : hasB zs n most = false := by
  rw [List.take_of_length_le hk] at h
  unfold hasB
  rw [h]; simp

set_option maxHeartbeats 1000000 in
theorem has_any {A : Option Addr} {l cp : Nat} {zs : List Sp} {n most : Int} {w : World} (hz : SpansAt w A l zs) :
    Calls Tryd.prog 14 #[.slice A l cp, .int .i64 n, .int .i64 most] w fun e w' => e = .returned (.bool (hasB zs n most)) ∧ Below w.heap.size w w' := by
  by_cases h1 : n < 1
  · have HF := Lib.hid (has_low (zs := zs) (most := most) h1)
    go_enter Tryd.func14, Tryd.ntmps14
    go_wp2_with fail
    go_ret
    exact ⟨ret_bool HF.out.symm, Below.refl _ _⟩
  have HM := may_any (cp := cp) hz
  have HN := Lib.hid (show 1 ≤ n by omega)
  cases hm : mayB zs with
  | false =>
    rw [hm] at HM
    have HF := Lib.hid (has_bad (n := n) (most := most) hm)
    have K := Lib.hid HM
    clear HM hm hz
    go_enter Tryd.func14, Tryd.ntmps14
    go_wp2_with (go_at_call 8; refine K.out.mono ?_; rintro e w' ⟨rfl, hb⟩)
    go_ret
    exact ⟨ret_bool HF.out.symm, hb⟩
  | true =>
    rw [hm] at HM
    have HMM := Lib.hid hm
    have K := Lib.hid HM
    have HL := Lib.hid hz.1
    have HZ := Lib.hid hz
    have hl20 : (l : Int) ≤ 20 := by have := may_len hm; have := hz.1; omega
    clear HM hm hz
    go_enter Tryd.func14, Tryd.ntmps14
    go_wp2_with (go_at_call 8; refine K.out.mono ?_; rintro e w1 ⟨rfl, hb⟩)
    have HB1 := Lib.hid hb
    clear hb
    go_loopw [18] (fun s15 wr => ∃ k : Nat, k ≤ l ∧ s15 = .int .i64 k ∧ Hid ((zs.take k).any (spB · n most) = false) ∧ Hid (Below w.heap.size w wr)) (fun s15 _ => l - (intOf s15).toNat)
    case atStart => exact ⟨0, Nat.zero_le _, rfl, rfl, HB1⟩
    case round =>
      obtain ⟨k, hk, rfl, HT, HB⟩ := hrel
      by_cases hlt : k < l
      · obtain ⟨ad, x, y, rfl, hx, hc1, hc2⟩ := HZ.out.sp HB.out (Nat.le_refl _) hlt
        have HX := Lib.hid hx
        have C := fun w => span_has x y n most w
        clear hx
        cases hs : spB (x, y) n most with
        | true =>
          have HF := Lib.hid (has_yes HN.out HMM.out HX.out hs)
          rw [hs] at C
          have K1 := Lib.hid C
          clear C hs
          go_wp2_with fail
          refine (K1.out _).mono ?_
          rintro e w2 ⟨rfl, hb2⟩
          go_wp2_with fail
          go_ret
          exact ⟨ret_bool HF.out.symm, (HB.out.alloc HB.out.size _).trans (hb2.mono (by have := HB.out.size; simp; omega))⟩
        | false =>
          have HO := Lib.hid hs
          rw [hs] at C
          have K1 := Lib.hid C
          clear C hs
          go_wp2_with fail
          refine (K1.out _).mono ?_
          rintro e w2 ⟨rfl, hb2⟩
          have HB2 := Lib.hid ((HB.out.alloc HB.out.size _).trans (hb2.mono (by have := HB.out.size; simp; omega)))
          clear hb2
          go_wp2_with fail
          go_roundw
          case rel => exact ⟨k + 1, by omega, by go_num, by rw [any_snoc HX.out, HT.out, HO.out]; rfl, HB2⟩
          case measure => simp [intOf]; omega
      · obtain rfl : k = l := by omega
        go_wp2_with fail
        go_ret
        exact ⟨ret_bool (has_no (by have := HL.out; omega) HT.out).symm, HB.out⟩
end Go.Proofs.YtmojecimmogeaaaDoor.A
