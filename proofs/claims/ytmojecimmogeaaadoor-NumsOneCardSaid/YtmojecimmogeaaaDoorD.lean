/-
  An end of a span as a text, and back: digits.
-/
import Derived.Test.YtmojecimmogeaaaDoorC
import Derived.Test.YtmojecimmogeaaaDoorShelf
import Derived.Lib.ItoaNum
namespace Go.Proofs.YtmojecimmogeaaaDoor.D
open Go.RowKit Go.Proofs.YtmojecimmogeaaaDoor.Kit Go.Proofs.YtmojecimmogeaaaDoor.A Go.Proofs.YtmojecimmogeaaaDoor.B Go.Proofs.YtmojecimmogeaaaDoor.C

theorem below_grow (B : Nat) (w : World) (hB : B ≤ w.heap.size) (k : Nat) (os : Array Obj) : Below B w (Sort.grow (w.drewN k) os) := by
  refine ⟨rfl, rfl, rfl, ?_, fun i hi => ?_⟩
  · show w.heap.size ≤ (w.heap ++ os).size
    rw [Array.size_append]; omega
  · show (w.heap ++ os)[i]? = w.heap[i]?
    rw [Array.getElem?_append_left (by omega)]
/-- The text of an end. -/
def endT (n : Int) : List UInt8 := if n = 0 then [42] else Lib.decDigits n.toNat
theorem endT_zero : endT 0 = [42] := rfl
theorem endT_pos {n : Int} (h : n ≠ 0) : endT n = Lib.decDigits n.toNat := if_neg h
theorem itoa_pos {n : Int} (h : 0 < n) : Lib.itoa n = endT n := by
  rw [endT_pos (by omega)]
  unfold Lib.itoa
  rw [if_neg (by omega)]

theorem pow_le : ∀ u : Nat, 1 ≤ u → 10 ^ (Lib.nDigits u - 1) ≤ u := by
  intro u
  induction u using Nat.strongRecOn with
  | _ u ih =>
    intro h
    by_cases h10 : u < 10
    · rw [Lib.nDigits_small h10]; simpa using h
    · rw [Lib.nDigits_big h10]
      have h1 := ih (u / 10) (by omega) (by omega)
      have h2 := Lib.nDigits_pos (u / 10)
      rw [show Lib.nDigits (u / 10) + 1 - 1 = (Lib.nDigits (u / 10) - 1) + 1 by omega, Nat.pow_succ]
      omega
theorem digit_at (u i : Nat) (h : i < Lib.nDigits u) : (Lib.decDigits u)[i]? = some (Lib.dg u (Lib.nDigits u - 1 - i)) := by
  rw [Lib.decDigits_eq, List.getElem?_map, List.getElem?_range h]; rfl
theorem dg_val (u j : Nat) : (Lib.dg u j).toNat = 48 + u / 10 ^ j % 10 := by
  unfold Lib.dg
  have : u / 10 ^ j % 10 < 10 := Nat.mod_lt _ (by decide)
  rw [UInt8.toNat_ofNat', Nat.mod_eq_of_lt (by omega)]
/-- The first i digits of u. -/
def pre (u i : Nat) : Nat := u / 10 ^ (Lib.nDigits u - i)
theorem pre_zero (u : Nat) : pre u 0 = 0 := by
  unfold pre
  exact Nat.div_eq_of_lt (by simpa using Lib.lt_pow_nDigits u)
theorem pre_all (u : Nat) : pre u (Lib.nDigits u) = u := by simp [pre]
theorem pre_step (u i : Nat) (h : i < Lib.nDigits u) : pre u (i + 1) = 10 * pre u i + u / 10 ^ (Lib.nDigits u - 1 - i) % 10 := by
  unfold pre
  have e : Lib.nDigits u - i = (Lib.nDigits u - 1 - i) + 1 := by omega
  have e2 : Lib.nDigits u - (i + 1) = Lib.nDigits u - 1 - i := by omega
  rw [e, e2, Nat.pow_succ, ← Nat.div_div_eq_div_mul]
  omega
theorem pre_pos (u i : Nat) (hu : 1 ≤ u) (h : i < Lib.nDigits u) : 1 ≤ pre u (i + 1) := by
  unfold pre
  rw [Nat.le_div_iff_mul_le (Nat.pow_pos (by decide)), Nat.one_mul]
  exact Nat.le_trans (Nat.pow_le_pow_right (by decide) (by omega)) (pow_le u hu)
theorem pre_le (u i : Nat) : pre u i ≤ u := Nat.div_le_self _ _
theorem digits_ne (u : Nat) (c : UInt8) (h : c.toNat < 48 ∨ 57 < c.toNat) : c ∉ Lib.decDigits u := by
  intro hc
  obtain ⟨i, hi, e⟩ := List.getElem_of_mem hc
  rw [Lib.decDigits_length] at hi
  have h1 := digit_at u i hi
  rw [List.getElem?_eq_getElem (by rw [Lib.decDigits_length]; exact hi), e] at h1
  have h2 := dg_val u (Lib.nDigits u - 1 - i)
  have h3 : u / 10 ^ (Lib.nDigits u - 1 - i) % 10 < 10 := Nat.mod_lt _ (by decide)
  rw [← Option.some.inj h1] at h2
  omega
theorem endT_ne (n : Int) (c : UInt8) (h : c = 44 ∨ c = 58) : c ∉ endT n := by
  unfold endT
  split
  · rcases h with rfl | rfl <;> decide
  · exact digits_ne _ _ (by rcases h with rfl | rfl <;> decide)
theorem nd_small {u : Nat} (h1 : 1 ≤ u) (h2 : u ≤ 1000000) : Lib.nDigits u ≤ 7 := by
  by_cases h : Lib.nDigits u ≤ 7
  · exact h
  · have h3 := pow_le u h1
    have h4 : 10 ^ 7 ≤ 10 ^ (Lib.nDigits u - 1) := Nat.pow_le_pow_right (by decide) (by omega)
    omega
theorem endT_len {n : Int} (h1 : 0 ≤ n) (h2 : n ≤ 1000000) : 1 ≤ (endT n).length ∧ (endT n).length ≤ 7 := by
  by_cases h : n = 0
  · subst h; decide
  · rw [endT_pos h, Lib.decDigits_length]
    exact ⟨Lib.nDigits_pos _, nd_small (by omega) (by omega)⟩

set_option maxHeartbeats 1000000 in
theorem textEnd_any {n : Int} (h1 : 0 ≤ n) (h2 : n ≤ 1000000) {w : World} (ht : Tab w) :
    Calls Tryd.prog 17 #[.int .i64 n] w fun e w' => e = .returned (.string ⟨(endT n).toArray⟩) ∧ Below w.heap.size w w' := by
  by_cases h : n = 0
  · subst h
    go_enter Tryd.func17, Tryd.ntmps17
    go_wp2_with fail
    go_ret
    exact ⟨rfl, Below.refl _ _⟩
  · have K := Tryd.strconv_Itoa n (by omega) (by omega) w ht
    rw [itoa_pos (by omega)] at K
    have HK := Lib.hid K
    have hb : (n == 0) = false := by simpa using h
    clear K h
    go_enter Tryd.func17, Tryd.ntmps17
    go_wp2_with (go_at_call 23; refine HK.out.mono ?_; rintro e w' ⟨rfl, k, os, rfl⟩)
    go_ret
    exact ⟨rfl, below_grow _ _ (Nat.le_refl _) _ _⟩
end Go.Proofs.YtmojecimmogeaaaDoor.D
