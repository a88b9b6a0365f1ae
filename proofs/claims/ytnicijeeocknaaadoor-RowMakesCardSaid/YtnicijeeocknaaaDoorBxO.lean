/-
  The table of powers in memory; Own, of the program and of the document.
-/
import Derived.Test.YtnicijeeocknaaaDoorBxA
import Derived.Test.YtnicijeeocknaaaDoorShelf
import Derived.Lib.LaidTab
import Derived.Lib.ItoaNum
import Derived.Lib.SmallJoins
import Derived.Stop.LaidErr
import Derived.MakeChecks
set_option linter.unusedVariables false
set_option linter.unusedSimpArgs false
namespace Go.Proofs.YtnicijeeocknaaaDoor.BxO
open Go.RowKit Go.Proofs.YtnicijeeocknaaaDoor.BxD Go.Proofs.YtnicijeeocknaaaDoor.BxKit Go.Proofs.YtnicijeeocknaaaDoor.BxA

def laid : List (String × DataW Unit) := [("math/bits.deBruijn32tab", Rows.laid_math_bits_deBruijn32tab), ("math/bits.deBruijn64tab", Rows.laid_math_bits_deBruijn64tab), ("internal/strconv.uint64pow10", Rows.laid_internal_strconv_uint64pow10)]
/-- The powers of ten as the program lays them. -/
def Tab (w : World) : Prop := Lib.TabIs Tryd.prog w "internal/strconv.uint64pow10" .u64 Lib.pow10Tab
theorem gPow : Tryd.prog.globalNamed "internal/strconv.uint64pow10" = some 1 := by kernel_rfl
theorem tPow : (Tryd.prog.globals[1]?).map (·.type) = some 103 := by kernel_rfl
theorem cArr : Tryd.prog.cellsOf 103 = 20 := by kernel_rfl
theorem cOne : Tryd.prog.cellsOf 95 = 1 := by kernel_rfl
theorem powData : Rows.laid_internal_strconv_uint64pow10 (H := Unit) = Lib.tabData .u64 Lib.pow10Tab := by kernel_rfl
theorem tab_of_laid {W : World} (h : laidMetH Tryd.prog laid W) : Tab W := by
  rw [MakeChecks.laidMetH_plain _ _ _ (by kernel_rfl)] at h
  have h2 := (laidMet.tail (laidMet.tail h))
  rw [powData] at h2
  exact Lib.tabIs_of_head gPow tPow Tryd.underlying103 Tryd.underlying95 cOne cArr h2
theorem Tab.below {B : Nat} {w w' : World} (h : Tab w) (hb : Below B w w') (hB : w.heap.size ≤ B) : Tab w' := _root_.Go.Joins.tab_stays gPow h hb hB
theorem below_grow (B : Nat) (w : World) (hB : B ≤ w.heap.size) (k : Nat) (os : Array Obj) : Below B w (Sort.grow (w.drewN k) os) := by
  refine ⟨rfl, rfl, rfl, ?_, fun i hi => ?_⟩
  · show w.heap.size ≤ (w.heap ++ os).size
    rw [Array.size_append]; omega
  · show (w.heap ++ os)[i]? = w.heap[i]?
    rw [Array.getElem?_append_left (by omega)]

theorem digits_le (n : Nat) : (Lib.decDigits n).length ≤ n + 1 := by
  rw [Lib.decDigits_length]
  induction n using Nat.strongRecOn with
  | _ n ih =>
    by_cases h : n < 10
    · rw [Lib.nDigits_small h]; omega
    · rw [Lib.nDigits_big h]
      have := ih (n / 10) (by omega)
      omega
theorem nDigits_le (k : Nat) : ∀ n : Nat, n < 10 ^ (k + 1) → Lib.nDigits n ≤ k + 1 := by
  induction k with
  | zero => intro n h; rw [Lib.nDigits_small (by simpa using h)]; omega
  | succ k ih =>
    intro n h
    by_cases hs : n < 10
    · rw [Lib.nDigits_small hs]; omega
    · rw [Lib.nDigits_big hs]
      have := ih (n / 10) (by rw [Nat.div_lt_iff_lt_mul (by decide)]; rw [Nat.pow_succ] at h; exact h)
      omega
/-- The digits of a number of 64 bits, none below nought. -/
def digs (u : Int) : List UInt8 := Lib.itoa (max u 0)
theorem digs_eq (u : Int) : digs u = Lib.decDigits (max u 0).toNat := by
  unfold digs Lib.itoa
  rw [if_neg (by omega)]
theorem digs_len {u : Int} (h : u ≤ 9223372036854775807) : (digs u).length ≤ 20 := by
  rw [digs_eq, Lib.decDigits_length]
  exact nDigits_le 19 _ (Nat.lt_of_le_of_lt (show (max u 0).toNat ≤ 9223372036854775807 by omega) (by decide))
theorem own_parts (id : ByteArray) (u : Int) : ownT id u = ⟨#[101]⟩ ++ ⟨(digs u).toArray⟩ ++ ⟨#[45]⟩ ++ id := rfl

theorem itoa_max {u : Int} {w : World} (ht : Tab w) (h : u ≤ 9223372036854775807) : Calls Tryd.prog 46 #[.int .i64 (max u 0)] w fun e w' => e = .returned (.string ⟨(digs u).toArray⟩) ∧ Below w.heap.size w w' :=
  (Tryd.strconv_Itoa (max u 0) (by omega) (by omega) w ht).mono fun e w' ⟨he, k, os, hw⟩ => ⟨he, by rw [hw]; exact below_grow _ _ (Nat.le_refl _) _ _⟩

set_option maxHeartbeats 1000000 in
theorem own_any {id : ByteArray} {u : Int} {w : World} (ht : Tab w) (h : u ≤ 9223372036854775807) (hid : id.size ≤ 200) :
    Calls Tryd.prog 18 #[.string id, .int .i64 u] w fun e w' => e = .returned (.string (ownT id u)) ∧ Below w.heap.size w w' := by
  have C := itoa_max ht h
  have hl := digs_len h
  have HF := Lib.hid (own_parts id u)
  obtain ⟨D, hD⟩ : ∃ D : ByteArray, D = ⟨(digs u).toArray⟩ := ⟨_, rfl⟩
  have hds : D.size ≤ 20 := by
    rw [hD]
    show ((digs u).toArray).size ≤ 20
    simpa using hl
  rw [← hD] at C HF
  clear hD hl ht h
  skip
  have K := Lib.hid C
  clear C
  go_enter Tryd.func18, Tryd.ntmps18
  go_wp2_with (go_at_call 46; (refine K.out.mono ?_; rintro e w' ⟨rfl, hb⟩))
  go_ret
  exact ⟨ret_str HF.out.symm, hb⟩
set_option maxHeartbeats 1000000 in
theorem refOwn_any {id : ByteArray} {u : Int} {w : World} (ht : Tab w) (h : u ≤ 9223372036854775807) (hid : id.size ≤ 200) :
    Calls Tryd.prog 26 #[.string id, .int .i64 u] w fun e w' => e = .returned (.string (ownT id u)) ∧ Below w.heap.size w w' := by
  have C := itoa_max ht h
  have hl := digs_len h
  have HF := Lib.hid (own_parts id u)
  obtain ⟨D, hD⟩ : ∃ D : ByteArray, D = ⟨(digs u).toArray⟩ := ⟨_, rfl⟩
  have hds : D.size ≤ 20 := by
    rw [hD]
    show ((digs u).toArray).size ≤ 20
    simpa using hl
  rw [← hD] at C HF
  clear hD hl ht h
  rw [Int.max_comm] at C
  have K := Lib.hid C
  clear C
  go_enter Tryd.func26, Tryd.ntmps26
  go_wp2_with (go_at_call 46; (refine K.out.mono ?_; rintro e w' ⟨rfl, hb⟩))
  go_ret
  exact ⟨ret_str HF.out.symm, hb⟩
end Go.Proofs.YtnicijeeocknaaaDoor.BxO
