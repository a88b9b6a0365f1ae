/-
  Letters and atoms: what small, alike, ofAtom, Atom and May answer, for every byte and every text.
-/
import Derived.Test.YtmkbmdoglcimbaaDoorRows
import Derived.Below
import Derived.Lib.Hide
import Derived.KernelRfl
import Derived.Deep.Draws
import Derived.WalkKit
import Derived.BigQuiet
import Derived.Deep.QuietTactic
import Derived.Lib.Bytealg
import Derived.Outline
import Derived.IntWalk
namespace Go.Proofs.YtmkbmdoglcimbaaDoor.FlA
open Go.RowKit

theorem ret_int {k : IntKind} {a b : Int} (h : a = b) : Ending.returned (.int k a) = .returned (.int k b) := by rw [h]
theorem ret_bool {a b : Bool} (h : a = b) : Ending.returned (.bool a) = .returned (.bool b) := by rw [h]
/-- A great letter as a small one. -/
def sm (c : UInt8) : Int := if 65 ≤ (c.toNat : Int) ∧ (c.toNat : Int) ≤ 90 then (c.toNat : Int) + 32 else (c.toNat : Int)

set_option maxHeartbeats 400000 in
theorem small_any (c : UInt8) (w : World) : Calls Tryd.prog 111 #[.int .u8 (c.toNat : Int)] w fun e w' => e = .returned (.int .u8 (sm c)) ∧ w = w' := by
  have hc : (c.toNat : Int) < 256 := by have := c.toNat_lt; omega
  by_cases h1 : 65 ≤ (c.toNat : Int)
  · by_cases h2 : (c.toNat : Int) ≤ 90
    · have hs : sm c = (c.toNat : Int) + 32 := by unfold sm; rw [if_pos ⟨h1, h2⟩]
      rw [hs]
      clear hs
      go_enter Tryd.func111, Tryd.ntmps111
      go_wp2
      go_ret
      refine ⟨?_, rfl⟩
      exact ret_int (by omega)
    · have hs : sm c = (c.toNat : Int) := by unfold sm; rw [if_neg (by omega)]
      rw [hs]
      clear hs
      go_enter Tryd.func111, Tryd.ntmps111
      go_wp2
      go_ret
      exact ⟨rfl, rfl⟩
  · have hs : sm c = (c.toNat : Int) := by unfold sm; rw [if_neg (by omega)]
    rw [hs]
    clear hs
    go_enter Tryd.func111, Tryd.ntmps111
    go_wp2
    go_ret
    exact ⟨rfl, rfl⟩

set_option maxHeartbeats 1000000 in
set_option maxRecDepth 100000 in
theorem idx25 (s : ByteArray) (c : Int) (w : World) : Calls Tryd.prog 110 #[.string s, .int .u8 c] w fun e w' => e = .returned (.int .i64 (Lib.indexByte s.data.toList c.toNat.toUInt8)) ∧ w = w' := by
  go_enter Tryd.func110, Tryd.ntmps110
  go_wp2
  rw [run_callFunc_extern Tryd.func118 (by kernel_rfl) (by kernel_rfl) (by kernel_rfl) (e := Extern.BytealgIndexByte.indexByte) (by kernel_rfl), Lib.run_indexByteString]
  simp only [Result.andThen]
  rw [Oper.upon_value]
  go_wp2
  go_ret
  exact ⟨rfl, rfl⟩
theorem idx22 (s : ByteArray) (c : Int) (w : World) : Calls Tryd.prog 100 #[.string s, .int .u8 c] w fun e w' => e = .returned (.int .i64 (Lib.indexByte s.data.toList c.toNat.toUInt8)) ∧ w = w' := by
  go_enter Tryd.func100, Tryd.ntmps100
  go_wp2_with (go_at_call 110; refine (idx25 _ _ _).mono ?_; rintro e w' ⟨rfl, rfl⟩)
  go_ret
  exact ⟨rfl, rfl⟩

def signs : List UInt8 := [46, 95, 45, 36, 47]
/-- May the byte stand in an atom? -/
def atC (c : UInt8) : Bool :=
  (decide (97 ≤ c.toNat) && decide (c.toNat ≤ 122)) || (decide (65 ≤ c.toNat) && decide (c.toNat ≤ 90)) || (decide (48 ≤ c.toNat) && decide (c.toNat ≤ 57)) || signs.contains c

theorem signs_idx (c : UInt8) : decide ((0 : Int) ≤ Lib.indexByte signs c) = signs.contains c := by
  unfold signs
  simp only [Lib.indexByte, List.contains_cons, List.contains_nil]
  by_cases h1 : c = 46
  · subst h1; rfl
  by_cases h2 : c = 95
  · subst h2; rfl
  by_cases h3 : c = 45
  · subst h3; rfl
  by_cases h4 : c = 36
  · subst h4; rfl
  by_cases h5 : c = 47
  · subst h5; rfl
  have g1 : ((46 : UInt8) == c) = false := by simpa using fun h => h1 h.symm
  have g2 : ((95 : UInt8) == c) = false := by simpa using fun h => h2 h.symm
  have g3 : ((45 : UInt8) == c) = false := by simpa using fun h => h3 h.symm
  have g4 : ((36 : UInt8) == c) = false := by simpa using fun h => h4 h.symm
  have g5 : ((47 : UInt8) == c) = false := by simpa using fun h => h5 h.symm
  have k1 : (c == (46 : UInt8)) = false := by simpa using h1
  have k2 : (c == (95 : UInt8)) = false := by simpa using h2
  have k3 : (c == (45 : UInt8)) = false := by simpa using h3
  have k4 : (c == (36 : UInt8)) = false := by simpa using h4
  have k5 : (c == (47 : UInt8)) = false := by simpa using h5
  simp [g1, g2, g3, g4, g5, k1, k2, k3, k4, k5]

theorem byte_back (c : UInt8) : ((c.toNat : Int)).toNat.toUInt8 = c := by simp

set_option maxHeartbeats 400000 in
theorem ofAtom_let (c : UInt8) (w : World) (h : (97 ≤ (c.toNat : Int) ∧ (c.toNat : Int) ≤ 122) ∨ (65 ≤ (c.toNat : Int) ∧ (c.toNat : Int) ≤ 90) ∨ (48 ≤ (c.toNat : Int) ∧ (c.toNat : Int) ≤ 57)) :
    Calls Tryd.prog 83 #[.int .u8 (c.toNat : Int)] w fun e w' => e = .returned (.bool true) ∧ w = w' := by
  rcases h with ⟨h1, h2⟩ | ⟨h1, h2⟩ | ⟨h1, h2⟩
  all_goals
    go_enter Tryd.func83, Tryd.ntmps83
    go_wp2
    go_ret
    exact ⟨rfl, rfl⟩
set_option maxHeartbeats 400000 in
theorem ofAtom_sign (c : UInt8) (w : World) (h1 : ¬ (97 ≤ (c.toNat : Int) ∧ (c.toNat : Int) ≤ 122)) (h2 : ¬ (65 ≤ (c.toNat : Int) ∧ (c.toNat : Int) ≤ 90)) (h3 : ¬ (48 ≤ (c.toNat : Int) ∧ (c.toNat : Int) ≤ 57)) :
    Calls Tryd.prog 83 #[.int .u8 (c.toNat : Int)] w fun e w' => e = .returned (.bool (signs.contains c)) ∧ w = w' := by
  have I := fun w => idx22 ⟨#[46, 95, 45, 36, 47]⟩ (c.toNat : Int) w
  have hs : Lib.indexByte (ByteArray.data ⟨#[46, 95, 45, 36, 47]⟩).toList (c.toNat : Int).toNat.toUInt8 = Lib.indexByte signs c := by rw [byte_back]; rfl
  rw [hs] at I
  have hd := signs_idx c
  obtain ⟨n, hn⟩ : ∃ n, n = Lib.indexByte signs c := ⟨_, rfl⟩
  rw [← hn] at I hd
  rw [← hd]
  clear hs hd hn
  have J := Lib.hid I
  clear I
  have hr : (c.toNat : Int) < 48 ∨ (57 < (c.toNat : Int) ∧ (c.toNat : Int) < 65) ∨ (90 < (c.toNat : Int) ∧ (c.toNat : Int) < 97) ∨ 122 < (c.toNat : Int) := by omega
  clear h1 h2 h3
  rcases hr with h | ⟨h, h'⟩ | ⟨h, h'⟩ | h
  all_goals
    go_enter Tryd.func83, Tryd.ntmps83
    go_wp2_with (go_at_call 100; refine (J.out _).mono ?_; rintro e w' ⟨rfl, rfl⟩)
    go_ret
    exact ⟨rfl, rfl⟩
theorem ofAtom_any (c : UInt8) (w : World) : Calls Tryd.prog 83 #[.int .u8 (c.toNat : Int)] w fun e w' => e = .returned (.bool (atC c)) ∧ w = w' := by
  by_cases h : (97 ≤ (c.toNat : Int) ∧ (c.toNat : Int) ≤ 122) ∨ (65 ≤ (c.toNat : Int) ∧ (c.toNat : Int) ≤ 90) ∨ (48 ≤ (c.toNat : Int) ∧ (c.toNat : Int) ≤ 57)
  · have e : atC c = true := by unfold atC; simp only [Bool.or_eq_true, Bool.and_eq_true, decide_eq_true_eq]; omega
    rw [e]; exact ofAtom_let c w h
  · have e : atC c = signs.contains c := by
      unfold atC
      rw [show (decide (97 ≤ c.toNat) && decide (c.toNat ≤ 122)) = false by simp; omega, show (decide (65 ≤ c.toNat) && decide (c.toNat ≤ 90)) = false by simp; omega, show (decide (48 ≤ c.toNat) && decide (c.toNat ≤ 57)) = false by simp; omega]
      rfl
    rw [e]
    simp only [not_or] at h
    exact ofAtom_sign c w h.1 h.2.1 h.2.2
end Go.Proofs.YtmkbmdoglcimbaaDoor.FlA
