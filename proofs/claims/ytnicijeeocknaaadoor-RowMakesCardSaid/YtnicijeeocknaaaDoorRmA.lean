/-
  The document's hasInt, place, mayWords.
-/
import Derived.Test.YtnicijeeocknaaaDoorRmD
import Derived.Test.YtnicijeeocknaaaDoorL1
import Derived.Test.YtnicijeeocknaaaDoorN4
import Derived.Deep.DeepCutAuto
import Derived.WalkLawsBesides
set_option linter.unusedVariables false
set_option linter.unusedSimpArgs false
namespace Go.Proofs.YtnicijeeocknaaaDoor.RmA
open Go.RowKit Go.Proofs.YtnicijeeocknaaaDoor.BxD Go.Proofs.YtnicijeeocknaaaDoor.BxKit Go.Proofs.YtnicijeeocknaaaDoor.BxR Go.Proofs.YtnicijeeocknaaaDoor.RwD Go.Proofs.YtnicijeeocknaaaDoor.RwM Go.Proofs.YtnicijeeocknaaaDoor.RmD

theorem strEq (a b : ByteArray) : (a.toList == b.toList) = decide (a = b) := by
  rw [ByteArray.toList_eq, ByteArray.toList_eq]
  by_cases h : a = b
  · subst h; rw [decide_eq_true rfl]; exact beq_self_eq_true _
  · rw [decide_eq_false h]
    exact beq_eq_false_iff_ne.2 fun e => h (ByteArray.ext (Array.toList_inj.1 e))
theorem meas {j n : Nat} (h : j < n) : n - (intOf (Value.int .i64 ((j : Int) + 1))).toNat < n - (intOf (Value.int .i64 (j : Int))).toNat := by simp [intOf]; omega
set_option maxHeartbeats 1000000 in
set_option maxRecDepth 100000 in
theorem hasInt_any {A : Option Addr} {n cp B : Nat} {l : List Int} {x : Int} {w : World} (h : IntsAt w B A n l) :
    Calls Tryd.prog 34 #[.slice A n cp, .int .i64 x] w fun e w' => e = .returned (.bool (decide (x ∈ l))) ∧ w = w' := by
  have hmx := h.max
  have H := Lib.hid h
  clear h
  go_enter Tryd.func34, Tryd.ntmps34
  go_upto_region 2 with fail
  go_loopw [9] (fun s9 wr => wr = w ∧ ∃ j : Nat, j ≤ n ∧ s9 = .int .i64 j ∧ Hid (∀ i y, i < j → l[i]? = some y → y ≠ x)) (fun s9 _ => n - (intOf s9).toNat)
  case atStart => exact ⟨rfl, 0, Nat.zero_le _, rfl, Lib.hid (fun i y hi => absurd hi (Nat.not_lt_zero _))⟩
  case round =>
    obtain ⟨rfl, j, hj, rfl, HQ⟩ := hrel
    by_cases hlt : j < n
    · obtain ⟨ad, y, rfl, e1, m0⟩ := IntsAt.at_ H.out (Below.refl _ _) (Nat.le_refl _) hlt
      have HE := Lib.hid e1
      have g0 : (0 : Int) ≤ (j : Int) := by omega
      have g1 : (j : Int) < (n : Int) := by omega
      clear e1
      by_cases hy : y = x
      · have hq : (y == x) = true := by simpa using hy
        have HR := Lib.hid (show decide (x ∈ l) = true from decide_eq_true (hy ▸ List.mem_of_getElem? HE.out))
        clear hy
        go_wp2
        go_ret
        exact ⟨by rw [HR.out]; rfl, rfl⟩
      · have hq : (y == x) = false := by simpa using hy
        have HY := Lib.hid hy
        clear hy
        go_wp2
        go_roundw
        case rel =>
          refine ⟨trivial, j + 1, hlt, by go_num, Lib.hid (fun i z hi hz => ?_)⟩
          rcases Nat.lt_or_ge i j with h | h
          · exact HQ.out i z h hz
          · obtain rfl : i = j := by omega
            rw [HE.out] at hz
            obtain rfl := Option.some.inj hz
            exact HY.out
        case measure => exact meas hlt
    · obtain rfl : j = n := by omega
      have HR := Lib.hid (show decide (x ∈ l) = false from decide_eq_false fun hx => by
        obtain ⟨i, hi⟩ := List.mem_iff_getElem?.1 hx
        exact HQ.out i x (by rw [← H.out.len]; exact (List.getElem?_eq_some_iff.1 hi).1) hi rfl)
      go_wp2
      go_ret
      exact ⟨by rw [HR.out]; rfl, rfl⟩
theorem plI_first {w : ByteArray} : ∀ {l : List ByteArray} {j : Nat}, (∀ i y, i < j → l[i]? = some y → y ≠ w) → l[j]? = some w → plI l w = j
  | [], j, _, h => by simp at h
  | x :: l, 0, _, h => by
    obtain rfl : x = w := by simpa using h
    unfold plI; simp
  | x :: l, j + 1, h1, h => by
    have hx : x ≠ w := h1 0 x (by omega) rfl
    have ih := plI_first (l := l) (j := j) (fun i y hi hy => h1 (i + 1) y (by omega) (by simpa using hy)) (by simpa using h)
    unfold plI
    rw [if_neg hx, if_neg (by omega), ih]
    omega
set_option maxHeartbeats 1000000 in
set_option maxRecDepth 100000 in
theorem place_any {A : Option Addr} {n cp B : Nat} {l : List ByteArray} {x : ByteArray} {w : World} (h : StrsAt w B A n l) :
    Calls Tryd.prog 27 #[.slice A n cp, .string x] w fun e w' => e = .returned (.int .i64 (plI l x)) ∧ w = w' := by
  have hmx := h.max
  have H := Lib.hid h
  clear h
  go_enter Tryd.func27, Tryd.ntmps27
  go_upto_region 2 with fail
  go_loopw [9] (fun s9 wr => wr = w ∧ ∃ j : Nat, j ≤ n ∧ s9 = .int .i64 j ∧ Hid (∀ i y, i < j → l[i]? = some y → y ≠ x)) (fun s9 _ => n - (intOf s9).toNat)
  case atStart => exact ⟨rfl, 0, Nat.zero_le _, rfl, Lib.hid (fun i y hi => absurd hi (Nat.not_lt_zero _))⟩
  case round =>
    obtain ⟨rfl, j, hj, rfl, HQ⟩ := hrel
    by_cases hlt : j < n
    · obtain ⟨ad, y, rfl, e1, m0⟩ := StrsAt.at_ H.out (Below.refl _ _) (Nat.le_refl _) hlt
      have HE := Lib.hid e1
      have g0 : (0 : Int) ≤ (j : Int) := by omega
      have g1 : (j : Int) < (n : Int) := by omega
      clear e1
      by_cases hy : y = x
      · have hq : (y.toList == x.toList) = true := by rw [strEq]; simpa using hy
        have HR := Lib.hid (show ((j : Nat) : Int) = plI l x from (plI_first HQ.out (hy ▸ HE.out)).symm)
        clear hy
        go_wp2
        go_ret
        exact ⟨by rw [← HR.out]; rfl, rfl⟩
      · have hq : (y.toList == x.toList) = false := by rw [strEq]; simpa using hy
        have HY := Lib.hid hy
        clear hy
        go_wp2
        go_roundw
        case rel =>
          refine ⟨trivial, j + 1, hlt, by go_num, Lib.hid (fun i z hi hz => ?_)⟩
          rcases Nat.lt_or_ge i j with h | h
          · exact HQ.out i z h hz
          · obtain rfl : i = j := by omega
            rw [HE.out] at hz
            obtain rfl := Option.some.inj hz
            exact HY.out
        case measure => exact meas hlt
    · obtain rfl : j = n := by omega
      have HR := Lib.hid (show (-1 : Int) = plI l x by
        have h1 : plI l x < 0 := plI_neg.2 fun hx => by
          obtain ⟨i, hi⟩ := List.mem_iff_getElem?.1 hx
          exact HQ.out i x (by rw [← H.out.len]; exact (List.getElem?_eq_some_iff.1 hi).1) hi rfl
        have := plI_ge x l
        omega)
      go_wp2
      go_ret
      exact ⟨by rw [← HR.out]; rfl, rfl⟩
end Go.Proofs.YtnicijeeocknaaaDoor.RmA
