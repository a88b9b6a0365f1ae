/-
  The order of names, byte by byte: plain.
-/
import Derived.Test.YtolkghdeppoanaaRkO
import Derived.Test.YtolkghdeppoanaaK9
import Derived.Lib.Bytealg
set_option linter.unusedVariables false
set_option linter.unusedSimpArgs false
namespace Go.Proofs.Ytolkghdeppoanaa.RkC
open Go.RowKit Go.Proofs.Ytolkghdeppoanaa.RkO Go.Proofs.Ytolkghdeppoanaa.BxD

theorem bl_irrefl : ∀ x : List UInt8, Op.bytesLess x x = false
  | [] => rfl
  | a :: x => by
    have h : ¬ a < a := by rw [UInt8.lt_iff_toNat_lt]; omega
    simp [Op.bytesLess, bl_irrefl x, h]
theorem bl_tri : ∀ x y : List UInt8, Op.bytesLess x y = false → Op.bytesLess y x = false → x = y
  | [], [], _, _ => rfl
  | [], _ :: _, h, _ => by simp [Op.bytesLess] at h
  | _ :: _, [], _, h => by simp [Op.bytesLess] at h
  | a :: x, b :: y, h1, h2 => by
    simp only [Op.bytesLess, Bool.or_eq_false_iff, decide_eq_false_iff_not, UInt8.lt_iff_toNat_lt, Bool.and_eq_false_iff] at h1 h2
    have e : a = b := UInt8.toNat_inj.1 (by omega)
    subst e
    have := bl_tri x y (by simpa using h1.2) (by simpa using h2.2)
    rw [this]
theorem bl_trans : ∀ x y z : List UInt8, Op.bytesLess x y = true → Op.bytesLess y z = true → Op.bytesLess x z = true
  | _, _, [], _, h => by cases ‹List UInt8› <;> simp [Op.bytesLess] at h
  | [], _, _ :: _, _, _ => by simp [Op.bytesLess]
  | _ :: _, [], _ :: _, h, _ => by simp [Op.bytesLess] at h
  | a :: x, b :: y, c :: z, h1, h2 => by
    simp only [Op.bytesLess, Bool.or_eq_true, decide_eq_true_eq, UInt8.lt_iff_toNat_lt, Bool.and_eq_true, beq_iff_eq] at h1 h2 ⊢
    rcases h1 with h1 | ⟨rfl, h1⟩
    · rcases h2 with h2 | ⟨rfl, h2⟩
      · left; omega
      · left; exact h1
    · rcases h2 with h2 | ⟨rfl, h2⟩
      · left; exact h2
      · right; exact ⟨rfl, bl_trans x y z h1 h2⟩
theorem ba_ext {a b : ByteArray} (h : a.toList = b.toList) : a = b := by
  rw [ByteArray.toList_eq, ByteArray.toList_eq] at h
  cases a; cases b
  congr 1
  exact Array.ext' h

def cmpS (a b : ByteArray) : Int := if Op.bytesLess a.toList b.toList then -1 else if a.toList == b.toList then 0 else 1

theorem cmpS_neg {a b : ByteArray} : cmpS a b < 0 ↔ Op.bytesLess a.toList b.toList = true := by
  unfold cmpS
  split
  · rename_i h; simp [h]
  · rename_i h
    split <;> simp [h]
theorem cmpS_pos {a b : ByteArray} : 0 < cmpS a b ↔ Op.bytesLess b.toList a.toList = true := by
  unfold cmpS
  split
  · rename_i h
    constructor
    · intro h2; omega
    · intro h2
      have := bl_trans _ _ _ h h2
      rw [bl_irrefl] at this; cases this
  · rename_i h
    split
    · rename_i h2
      have e : a.toList = b.toList := by simpa using h2
      rw [e, bl_irrefl]; simp
    · rename_i h2
      have hne : a.toList ≠ b.toList := by simpa using h2
      constructor
      · intro _
        cases h3 : Op.bytesLess b.toList a.toList with
        | true => rfl
        | false => exact absurd (bl_tri _ _ (by simpa using h) h3) hne
      · intro _; decide
theorem ordS : Ord cmpS := by
  refine ⟨fun a b => ?_, fun a b => ?_, fun a b c h1 h2 => ?_⟩
  · constructor
    · intro h
      have h1 : Op.bytesLess a.toList b.toList = false := by
        cases h3 : Op.bytesLess a.toList b.toList with
        | false => rfl
        | true => have := cmpS_neg.2 h3; omega
      have h2 : Op.bytesLess b.toList a.toList = false := by
        cases h3 : Op.bytesLess b.toList a.toList with
        | false => rfl
        | true => have := cmpS_pos.2 h3; omega
      exact ba_ext (bl_tri _ _ h1 h2)
    · rintro rfl
      unfold cmpS
      simp [bl_irrefl]
  · rw [cmpS_neg, cmpS_pos]
  · rw [cmpS_neg] at *
    exact bl_trans _ _ _ h1 h2

theorem cb_eq : ∀ x y : List UInt8, Lib.compareBytes x y = if Op.bytesLess x y then -1 else if x == y then 0 else 1
  | [], [] => by simp [Lib.compareBytes, Op.bytesLess]
  | [], _ :: _ => by simp [Lib.compareBytes, Op.bytesLess]
  | _ :: _, [] => by simp [Lib.compareBytes, Op.bytesLess]
  | a :: x, b :: y => by
    have ih := cb_eq x y
    unfold Lib.compareBytes
    by_cases h1 : a < b
    · simp [h1, Op.bytesLess]
    · by_cases h2 : b < a
      · have hne : ¬ a = b := by rintro rfl; exact h1 h2
        have hne2 : (a == b) = false := by simpa using hne
        simp [h1, h2, Op.bytesLess, hne2, hne]
      · have e : a = b := by
          rw [UInt8.lt_iff_toNat_lt] at h1 h2
          exact UInt8.toNat_inj.1 (by omega)
        subst e
        rw [if_neg h1, if_neg h1, ih]
        simp [Op.bytesLess, h1]
theorem cmp_cb (a b : ByteArray) : Lib.compareBytes a.data.toList b.data.toList = cmpS a b := by
  rw [cb_eq]; unfold cmpS
  rw [ByteArray.toList_eq, ByteArray.toList_eq]
end Go.Proofs.Ytolkghdeppoanaa.RkC
