/-
  What the bytes of a number read as.
-/
import Derived.Test.YtdgcihgohkgecaaDoorPkA
namespace Go.Proofs.YtdgcihgohkgecaaDoor.PkD
open Go.RowKit Go.Proofs.YtdgcihgohkgecaaDoor.PkKit Go.Proofs.YtdgcihgohkgecaaDoor.PkA

/-- The number that a row of bytes begins with, how many bytes it has, what is wrong: i bytes are read, with value acc. -/
def pz (i acc : Nat) : List UInt8 → Nat × Nat × Nat
  | [] => if i = 6 then (0, 0, 3) else (0, 0, 2)
  | c :: r => if i = 6 then (0, 0, 3)
    else if 128 ≤ c.toNat then pz (i + 1) (acc + c.toNat % 128 * 128 ^ i) r
    else if (0 < i ∧ c.toNat = 0) ∨ 1099511627776 < acc + c.toNat * 128 ^ i then (0, 0, 3)
    else (acc + c.toNat * 128 ^ i, i + 1, 0)

set_option maxRecDepth 100000 in
theorem toNat_u8 {a : Nat} (h : a < 256) : a.toUInt8.toNat = a := by
  rw [Nat.toUInt8_eq, UInt8.toNat_ofNat', Nat.mod_eq_of_lt (by omega)]
set_option maxRecDepth 100000 in
theorem split_pow (y i : Nat) : y % 128 * 128 ^ i + y / 128 * 128 ^ (i + 1) = y * 128 ^ i := by
  rw [Nat.pow_succ, Nat.mul_comm (128 ^ i) 128, ← Nat.mul_assoc, ← Nat.add_mul]
  congr 1
  omega
set_option maxRecDepth 100000 in
theorem pz_uv (rest : List UInt8) : ∀ (y i acc : Nat), i + (Lib.uvarint y).length ≤ 6 → (i = 0 ∨ 0 < y) → acc + y * 128 ^ i ≤ 1099511627776 →
    pz i acc (Lib.uvarint y ++ rest) = (acc + y * 128 ^ i, i + (Lib.uvarint y).length, 0) := by
  intro y
  induction y using Nat.strongRecOn with
  | _ y ih =>
    intro i acc h1 h2 h3
    by_cases h : y < 128
    · rw [Lib.uvarint_small h] at h1 ⊢
      simp only [List.length_singleton] at h1
      simp only [List.cons_append, pz, toNat_u8 (show y < 256 by omega), List.length_singleton]
      rw [if_neg (by omega), if_neg (by omega), if_neg (by omega)]
    · rw [Lib.uvarint_big (by omega)] at h1 ⊢
      simp only [List.length_cons] at h1
      simp only [List.cons_append, pz, toNat_u8 (show y % 128 + 128 < 256 by omega), List.length_cons]
      have e := split_pow y i
      rw [if_neg (by omega), if_pos (by omega), show (y % 128 + 128) % 128 = y % 128 by omega]
      rw [ih (y / 128) (by omega) (i + 1) _ (by omega) (.inr (by omega)) (by omega), Nat.add_assoc, e, show i + 1 + (Lib.uvarint (y / 128)).length = i + ((Lib.uvarint (y / 128)).length + 1) by omega]
set_option maxRecDepth 100000 in
theorem pz_short : ∀ (y i acc k : Nat), i + (Lib.uvarint y).length ≤ 6 → k < (Lib.uvarint y).length → pz i acc ((Lib.uvarint y).take k) = (0, 0, 2) := by
  intro y
  induction y using Nat.strongRecOn with
  | _ y ih =>
    intro i acc k h1 h2
    cases k with
    | zero =>
      rw [List.take_zero]
      simp only [pz]
      rw [if_neg (by omega)]
    | succ k =>
      by_cases h : y < 128
      · rw [Lib.uvarint_small h] at h2
        simp at h2
      · rw [Lib.uvarint_big (by omega)] at h1 h2 ⊢
        simp only [List.length_cons] at h1 h2
        simp only [List.take_succ_cons, pz, toNat_u8 (show y % 128 + 128 < 256 by omega)]
        rw [if_neg (by omega), if_pos (by omega)]
        exact ih (y / 128) (by omega) _ _ _ (by omega) (by omega)
set_option maxRecDepth 100000 in
theorem pz_ok : ∀ (l : List UInt8) (i acc : Nat), i ≤ 6 → (pz i acc l).2.2 = 0 → ∃ y r, l = Lib.uvarint y ++ r ∧ pz i acc l = (acc + y * 128 ^ i, i + (Lib.uvarint y).length, 0) ∧ acc + y * 128 ^ i ≤ 1099511627776 ∧ i + (Lib.uvarint y).length ≤ 6 ∧ (i = 0 ∨ 0 < y)
  | [], i, acc, hi, h => by
    simp only [pz] at h
    split at h <;> cases h
  | c :: r, i, acc, hi, h => by
    have hc := c.toNat_lt
    simp only [pz] at h ⊢
    by_cases h6 : i = 6
    · rw [if_pos h6] at h; cases h
    rw [if_neg h6] at h
    simp only [if_neg h6]
    by_cases h8 : 128 ≤ c.toNat
    · rw [if_pos h8] at h
      simp only [if_pos h8]
      obtain ⟨y, r', rfl, e, h1, h2, h3⟩ := pz_ok r (i + 1) _ (by omega) h
      have hy : 0 < y := by omega
      have e1 : (c.toNat % 128 + 128 * y) % 128 = c.toNat % 128 := by omega
      have e2 : (c.toNat % 128 + 128 * y) / 128 = y := by omega
      have hb := Lib.uvarint_big (x := c.toNat % 128 + 128 * y) (by omega)
      rw [e1, e2, show c.toNat % 128 + 128 = c.toNat by omega, show c.toNat.toUInt8 = c by simp] at hb
      have hs := split_pow (c.toNat % 128 + 128 * y) i
      rw [e1, e2] at hs
      refine ⟨c.toNat % 128 + 128 * y, r', by rw [hb]; rfl, ?_, by omega, by rw [hb]; simp only [List.length_cons]; omega, .inr (by omega)⟩
      rw [e, hb, Nat.add_assoc, hs, List.length_cons]
      congr 2
      omega
    · rw [if_neg h8] at h
      simp only [if_neg h8]
      by_cases hz : (0 < i ∧ c.toNat = 0) ∨ 1099511627776 < acc + c.toNat * 128 ^ i
      · rw [if_pos hz] at h; cases h
      · have hb := Lib.uvarint_small (x := c.toNat) (by omega)
        rw [show c.toNat.toUInt8 = c by simp] at hb
        refine ⟨c.toNat, r, by rw [hb]; rfl, by rw [if_neg hz, hb]; rfl, by omega, by rw [hb]; simp only [List.length_singleton]; omega, by omega⟩
set_option maxRecDepth 100000 in
theorem pz_err : ∀ (l : List UInt8) (i acc : Nat), (pz i acc l).2.2 ≠ 0 → pz i acc l = (0, 0, 2) ∨ pz i acc l = (0, 0, 3)
  | [], i, acc, h => by
    simp only [pz]
    split
    · exact .inr rfl
    · exact .inl rfl
  | c :: r, i, acc, h => by
    simp only [pz] at h ⊢
    by_cases h6 : i = 6
    · rw [if_pos h6]; exact .inr rfl
    simp only [if_neg h6] at h ⊢
    by_cases h8 : 128 ≤ c.toNat
    · simp only [if_pos h8] at h ⊢
      exact pz_err r _ _ h
    simp only [if_neg h8] at h ⊢
    split
    · exact .inr rfl
    · rename_i hz
      rw [if_neg hz] at h
      exact absurd rfl h
/-- What a row of bytes begins with. -/
def ps (l : List UInt8) : Nat × Nat × Nat := pz 0 0 l
set_option maxRecDepth 100000 in
theorem ps_uv {y : Nat} (h : y ≤ 1099511627776) (rest : List UInt8) : ps (Lib.uvarint y ++ rest) = (y, (Lib.uvarint y).length, 0) := by
  have := pz_uv rest y 0 0 (by have := uv_len h; omega) (.inl rfl) (by omega)
  simpa [ps] using this
set_option maxRecDepth 100000 in
theorem ps_short {y k : Nat} (h : y ≤ 1099511627776) (hk : k < (Lib.uvarint y).length) : ps ((Lib.uvarint y).take k) = (0, 0, 2) := pz_short y 0 0 k (by have := uv_len h; omega) hk
set_option maxRecDepth 100000 in
theorem ps_ok {l : List UInt8} (h : (ps l).2.2 = 0) : ∃ y r, l = Lib.uvarint y ++ r ∧ ps l = (y, (Lib.uvarint y).length, 0) ∧ y ≤ 1099511627776 ∧ (Lib.uvarint y).length ≤ 6 := by
  obtain ⟨y, r, h1, h2, h3, h4, _⟩ := pz_ok l 0 0 (by omega) h
  exact ⟨y, r, h1, by simpa [ps] using h2, by omega, by omega⟩
set_option maxRecDepth 100000 in
theorem ps_err {l : List UInt8} (h : (ps l).2.2 ≠ 0) : ps l = (0, 0, 2) ∨ ps l = (0, 0, 3) := pz_err l 0 0 h
set_option maxRecDepth 100000 in
theorem ps_nil : ps [] = (0, 0, 2) := rfl
set_option maxRecDepth 100000 in
theorem ps_le (l : List UInt8) : (ps l).2.1 ≤ l.length := by
  by_cases h : (ps l).2.2 = 0
  · obtain ⟨y, r, e, h2, _⟩ := ps_ok h
    rw [h2, e, List.length_append]
    exact Nat.le_add_right _ _
  · rcases ps_err h with e | e <;> rw [e] <;> exact Nat.zero_le _
end Go.Proofs.YtdgcihgohkgecaaDoor.PkD
