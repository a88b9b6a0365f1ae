/-
  The comparison of names: cmp.Compare at ints and at strings, as the walk of its text has it.
-/
import Derived.Test.YtnijiimljpbgpaaProg
import Derived.Test.YtnijiimljpbgpaaKit
import Derived.WalkKit
import Derived.WalkLawsBesides
import Derived.Lib.Hide
import Derived.Below
namespace Go.Proofs.Ytnijiimljpbgpaa.Cmp
open Go.RowKit

def cmpI (a b : Int) : Int := if a < b then -1 else if b < a then 1 else 0

theorem ordI : Kit.Ord cmpI := by
  refine ⟨fun a b => ?_, fun a b => ?_, fun a b c => ?_⟩
  · unfold cmpI; split <;> (try split) <;> constructor <;> intro h <;> omega
  · unfold cmpI; split <;> (try split) <;> (try split) <;> constructor <;> intro h <;> omega
  · unfold cmpI; split <;> (try split) <;> (try split) <;> (try split) <;> omega

theorem isNaN_int (a : Int) (w : World) : Calls Try.prog 49 #[.int .i64 a] w fun e w' => e = .returned (.bool false) ∧ w = w' := by
  go_enter Try.func49, Try.ntmps49
  go_wp2
  go_ret
  exact ⟨by simp, rfl⟩

set_option maxHeartbeats 400000 in
theorem compare_int (a b : Int) (w : World) : Calls Try.prog 37 #[.int .i64 a, .int .i64 b] w fun e w' => e = .returned (.int .i64 (cmpI a b)) ∧ w = w' := by
  have hlt : a < b ∨ b < a ∨ a = b := by omega
  rcases hlt with h | h | h
  · have hc : cmpI a b = -1 := by simp [cmpI, h]
    rw [hc]
    go_enter Try.func37, Try.ntmps37
    go_wp2_with (go_at_call 49; refine (isNaN_int _ _).mono ?_; rintro e w' ⟨rfl, rfl⟩)
    all_goals (go_ret; exact ⟨rfl, rfl⟩)
  · have hc : cmpI a b = 1 := by simp [cmpI, h]; omega
    have h' : ¬ a < b := by omega
    rw [hc]
    go_enter Try.func37, Try.ntmps37
    go_wp2_with (go_at_call 49; refine (isNaN_int _ _).mono ?_; rintro e w' ⟨rfl, rfl⟩)
    all_goals (go_ret; exact ⟨rfl, rfl⟩)
  · subst h
    have hc : cmpI a a = 0 := by simp [cmpI]
    rw [hc]
    go_enter Try.func37, Try.ntmps37
    go_wp2_with (go_at_call 49; refine (isNaN_int _ _).mono ?_; rintro e w' ⟨rfl, rfl⟩)
    all_goals (go_ret; exact ⟨rfl, rfl⟩)

/-! ## texts: byte by byte -/
theorem bl_irrefl : ∀ x : List UInt8, Op.bytesLess x x = false
  | [] => rfl
  | a :: x => by
    have h : ¬ a < a := by rw [UInt8.lt_iff_toNat_lt]; omega
    simp [Op.bytesLess, bl_irrefl x, h]
theorem bl_tri : ∀ x y : List UInt8, Op.bytesLess x y = false → Op.bytesLess y x = false → x = y
  | [], [], _, _ => rfl
  | [], _ :: _, h, _ => by simp [Op.bytesLess] at h
  | _ :: _, [], _, h => by simp [Op.bytesLess] at h
  | a :: x, b :: y, h1, h2 => by
    simp only [Op.bytesLess, Bool.or_eq_false_iff, decide_eq_false_iff_not, UInt8.lt_iff_toNat_lt, Bool.and_eq_false_iff] at h1 h2
    have e : a = b := UInt8.toNat_inj.1 (by omega)
    subst e
    have := bl_tri x y (by simpa using h1.2) (by simpa using h2.2)
    rw [this]
theorem bl_trans : ∀ x y z : List UInt8, Op.bytesLess x y = true → Op.bytesLess y z = true → Op.bytesLess x z = true
  | _, _, [], _, h => by cases ‹List UInt8› <;> simp [Op.bytesLess] at h
  | [], _, _ :: _, _, _ => by simp [Op.bytesLess]
  | _ :: _, [], _ :: _, h, _ => by simp [Op.bytesLess] at h
  | a :: x, b :: y, c :: z, h1, h2 => by
    simp only [Op.bytesLess, Bool.or_eq_true, decide_eq_true_eq, UInt8.lt_iff_toNat_lt, Bool.and_eq_true, beq_iff_eq] at h1 h2 ⊢
    rcases h1 with h1 | ⟨rfl, h1⟩
    · rcases h2 with h2 | ⟨rfl, h2⟩
      · left; omega
      · left; exact h1
    · rcases h2 with h2 | ⟨rfl, h2⟩
      · left; exact h2
      · right; exact ⟨rfl, bl_trans x y z h1 h2⟩
theorem ba_ext {a b : ByteArray} (h : a.toList = b.toList) : a = b := by
  rw [ByteArray.toList_eq, ByteArray.toList_eq] at h
  cases a; cases b
  congr 1
  exact Array.ext' h

def cmpS (a b : ByteArray) : Int := if Op.bytesLess a.toList b.toList then -1 else if a.toList == b.toList then 0 else 1

theorem cmpS_neg {a b : ByteArray} : cmpS a b < 0 ↔ Op.bytesLess a.toList b.toList = true := by
  unfold cmpS
  split
  · rename_i h; simp [h]
  · rename_i h
    split <;> simp [h]
theorem cmpS_pos {a b : ByteArray} : 0 < cmpS a b ↔ Op.bytesLess b.toList a.toList = true := by
  unfold cmpS
  split
  · rename_i h
    constructor
    · intro h2; omega
    · intro h2
      have := bl_trans _ _ _ h h2
      rw [bl_irrefl] at this; cases this
  · rename_i h
    split
    · rename_i h2
      have e : a.toList = b.toList := by simpa using h2
      rw [e, bl_irrefl]; simp
    · rename_i h2
      have hne : a.toList ≠ b.toList := by simpa using h2
      constructor
      · intro _
        cases h3 : Op.bytesLess b.toList a.toList with
        | true => rfl
        | false => exact absurd (bl_tri _ _ (by simpa using h) h3) hne
      · intro _; decide
theorem ordS : Kit.Ord cmpS := by
  refine ⟨fun a b => ?_, fun a b => ?_, fun a b c h1 h2 => ?_⟩
  · constructor
    · intro h
      have h1 : Op.bytesLess a.toList b.toList = false := by
        cases h3 : Op.bytesLess a.toList b.toList with
        | false => rfl
        | true => have := cmpS_neg.2 h3; omega
      have h2 : Op.bytesLess b.toList a.toList = false := by
        cases h3 : Op.bytesLess b.toList a.toList with
        | false => rfl
        | true => have := cmpS_pos.2 h3; omega
      exact ba_ext (bl_tri _ _ h1 h2)
    · rintro rfl
      unfold cmpS
      simp [bl_irrefl]
  · rw [cmpS_neg, cmpS_pos]
  · rw [cmpS_neg] at *
    exact bl_trans _ _ _ h1 h2

theorem isNaN_string (a : ByteArray) (w : World) : Calls Try.prog 51 #[.string a] w fun e w' => e = .returned (.bool false) ∧ w = w' := by
  go_enter Try.func51, Try.ntmps51
  go_wp2
  go_ret
  exact ⟨by simp, rfl⟩

set_option maxHeartbeats 400000 in
theorem compare_string (a b : ByteArray) (w : World) : Calls Try.prog 42 #[.string a, .string b] w fun e w' => e = .returned (.int .i64 (cmpS a b)) ∧ w = w' := by
  cases h1 : Op.bytesLess a.toList b.toList with
  | true =>
    have hc : cmpS a b = -1 := by simp [cmpS, h1]
    rw [hc]
    go_enter Try.func42, Try.ntmps42
    go_wp2_with (go_at_call 51; refine (isNaN_string _ _).mono ?_; rintro e w' ⟨rfl, rfl⟩)
    all_goals (go_ret; exact ⟨rfl, rfl⟩)
  | false =>
    cases h2 : (a.toList == b.toList) with
    | true =>
      have hc : cmpS a b = 0 := by simp [cmpS, h1, h2]
      rw [hc]
      go_enter Try.func42, Try.ntmps42
      go_wp2_with (go_at_call 51; refine (isNaN_string _ _).mono ?_; rintro e w' ⟨rfl, rfl⟩)
      all_goals (go_ret; exact ⟨rfl, rfl⟩)
    | false =>
      have hc : cmpS a b = 1 := by simp [cmpS, h1, h2]
      rw [hc]
      go_enter Try.func42, Try.ntmps42
      go_wp2_with (go_at_call 51; refine (isNaN_string _ _).mono ?_; rintro e w' ⟨rfl, rfl⟩)
      all_goals (go_ret; exact ⟨rfl, rfl⟩)
end Go.Proofs.Ytnijiimljpbgpaa.Cmp
