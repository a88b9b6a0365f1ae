/-
  parseNumber tells what the bytes begin with.
-/
import Derived.Test.YtdgcihgohkgecaaDoorPkD
namespace Go.Proofs.YtdgcihgohkgecaaDoor.PkE
open Go.RowKit Go.Proofs.YtdgcihgohkgecaaDoor.PkKit Go.Proofs.YtdgcihgohkgecaaDoor.PkA Go.Proofs.YtdgcihgohkgecaaDoor.PkD

set_option maxRecDepth 100000 in
theorem nat_and128 : ∀ a : Fin 256, (a.val &&& 128) = if 128 ≤ a.val then 128 else 0 := by decide +kernel
set_option maxRecDepth 100000 in
theorem i64_small (n : Int) (h0 : 0 ≤ n) (h1 : n < 2 ^ 62) : IntKind.i64.wrap n = n := by rw [IntKind.wrap_i64]; omega
set_option maxRecDepth 100000 in
theorem and128 (c : UInt8) : (bits .and .i64 (c.toNat : Int) 128 != 0) = decide (128 ≤ c.toNat) := by
  have hc := c.toNat_lt
  have h := (bits_nat .i64 62 (by decide) i64_small c.toNat 128 (by omega) (by decide)).1
  rw [show ((128 : Nat) : Int) = 128 from rfl, nat_and128 ⟨c.toNat, by omega⟩] at h
  rw [h]
  by_cases h8 : 128 ≤ c.toNat
  · simp only [if_pos h8, decide_eq_true h8]; rfl
  · simp only [if_neg h8, decide_eq_false h8]; rfl
set_option maxRecDepth 100000 in
theorem pow_eq (k : Nat) : (2 : Int) ^ (7 * k) = ((128 ^ k : Nat) : Int) := by
  rw [Int.pow_mul]
  simp
set_option maxRecDepth 100000 in
theorem pow_le_35 {k : Nat} (hk : k < 6) : 128 ^ k ≤ 34359738368 := by
  have := Nat.pow_le_pow_right (show 0 < 128 by decide) (show k ≤ 5 by omega)
  omega
set_option maxRecDepth 100000 in
theorem or_shl {X k : Nat} (hk : k < 6) (hX : X < 128 ^ k) (c : UInt8) : bits .or .i64 (X : Int) (wrap64 ((c.toNat : Int) % 128 * 2 ^ (7 * k))) = ((X + c.toNat % 128 * 128 ^ k : Nat) : Int) := by
  have hp := pow_le_35 hk
  have hc : c.toNat % 128 < 128 := Nat.mod_lt _ (by decide)
  have hm : c.toNat % 128 * 128 ^ k ≤ 127 * 34359738368 := Nat.mul_le_mul (by omega) hp
  rw [pow_eq, show (c.toNat : Int) % 128 = ((c.toNat % 128 : Nat) : Int) by omega, ← Int.natCast_mul]
  have e : wrap64 ((c.toNat % 128 * 128 ^ k : Nat) : Int) = ((c.toNat % 128 * 128 ^ k : Nat) : Int) := by unfold wrap64; omega
  rw [e, (bits_nat .i64 62 (by decide) i64_small X _ (by omega) (by omega)).2]
  congr 1
  have h2 : 128 ^ k = 2 ^ (7 * k) := by rw [Nat.pow_mul]
  rw [h2] at hX ⊢
  have := Nat.two_pow_add_eq_or_of_lt hX (c.toNat % 128)
  rw [Nat.or_comm, Nat.mul_comm, ← this, Nat.add_comm]

set_option maxRecDepth 100000 in
theorem pz_end6 (X : Nat) (l : List UInt8) : pz 6 X l = (0, 0, 3) := by cases l <;> simp [pz]
set_option maxRecDepth 100000 in
theorem pz_none {k X : Nat} (h : k ≠ 6) : pz k X [] = (0, 0, 2) := by simp only [pz]; rw [if_neg h]
set_option maxRecDepth 100000 in
theorem pz_more {k X : Nat} {c : UInt8} {r : List UInt8} (h : k ≠ 6) (h8 : 128 ≤ c.toNat) : pz k X (c :: r) = pz (k + 1) (X + c.toNat % 128 * 128 ^ k) r := by
  rw [pz, if_neg h, if_pos h8]
set_option maxRecDepth 100000 in
theorem pz_bad {k X : Nat} {c : UInt8} {r : List UInt8} (h : k ≠ 6) (h8 : ¬ 128 ≤ c.toNat) (hz : (0 < k ∧ c.toNat = 0) ∨ 1099511627776 < X + c.toNat * 128 ^ k) : pz k X (c :: r) = (0, 0, 3) := by
  rw [pz, if_neg h, if_neg h8, if_pos hz]
set_option maxRecDepth 100000 in
theorem pz_good {k X : Nat} {c : UInt8} {r : List UInt8} (h : k ≠ 6) (h8 : ¬ 128 ≤ c.toNat) (hz : ¬ ((0 < k ∧ c.toNat = 0) ∨ 1099511627776 < X + c.toNat * 128 ^ k)) : pz k X (c :: r) = (X + c.toNat * 128 ^ k, k + 1, 0) := by
  rw [pz, if_neg h, if_neg h8, if_neg hz]

def PP (w : World) (t : Nat × Nat × Nat) (e : Ending) (w' : World) : Prop := e = .returned (.tuple #[.int .i64 (t.1 : Nat), .int .i64 (t.2.1 : Nat), .int .i64 (t.2.2 : Nat)]) ∧ w = w'
set_option maxRecDepth 100000 in
theorem pp_of {w : World} {t : Nat × Nat × Nat} {a b c : Nat} (h : t = (a, b, c)) : PP w t (.returned (.tuple #[.int .i64 (a : Nat), .int .i64 (b : Nat), .int .i64 (c : Nat)])) w := ⟨by rw [h], rfl⟩

set_option maxHeartbeats 4000000 in
set_option maxRecDepth 100000 in
theorem parse_any {w : World} {B n cp : Nat} {A : Option Addr} {l : List UInt8} (h : BytesAt w B A n l) : Calls Tryd.prog 113 #[.slice A n cp] w (PP w (ps l)) := by
  have HL := Lib.hid h.1
  have H := Lib.hid h
  clear h
  go_enter Tryd.func113, Tryd.ntmps113
  go_wp2_with fail
  go_loop [2, 7] (fun s2 s7 => ∃ (k X : Nat), k ≤ 6 ∧ k ≤ n ∧ s7 = .int .i64 k ∧ s2 = .int .i64 X ∧ Hid (X < 128 ^ k) ∧ Hid (ps l = pz k X (l.drop k))) (fun _ s7 => 6 - (intOf s7).toNat)
  case atStart => exact ⟨0, 0, by omega, by omega, rfl, rfl, (by decide : 0 < 128 ^ 0), rfl⟩
  case round =>
    obtain ⟨k, X, hk, hkn, rfl, rfl, HX, HS⟩ := hrel
    by_cases h6 : k = 6
    · subst h6
      go_wp2_with fail
      go_ret3
      exact pp_of (HS.out.trans (pz_end6 _ _))
    · by_cases hkl : k = n
      · subst hkl
        go_wp2_with fail
        go_ret3
        exact pp_of (HS.out.trans (by rw [List.drop_eq_nil_of_le (by rw [HL.out]; exact Nat.le_refl _)]; exact pz_none h6))
      · obtain ⟨ad, c, rfl, hc, hcell⟩ := H.out.at_ (show k < n by omega)
        have hand := i64_and127 (c.toNat : Int)
        have h128 := and128 c
        have hlt := c.toNat_lt
        have hor := or_shl (show k < 6 by omega) HX.out c
        have hd : l.drop k = c :: l.drop (k + 1) := by
          obtain ⟨hl, e⟩ := List.getElem?_eq_some_iff.1 hc
          rw [List.drop_eq_getElem_cons hl, e]
        rw [hd] at HS
        obtain ⟨Y, hY⟩ : ∃ Y, Y = X + c.toNat % 128 * 128 ^ k := ⟨_, rfl⟩
        rw [← hY] at hor
        have HY := Lib.hid hY
        have H6 := Lib.hid h6
        have hk6 : (k : Int) < 6 := by omega
        clear hY hc hd
        by_cases h8 : 128 ≤ c.toNat
        · rw [decide_eq_true h8] at h128
          have H8 := Lib.hid h8
          go_wp2_with fail
          go_round
          case rel =>
            refine ⟨k + 1, Y, by omega, by omega, by go_num, rfl, ?_, HS.out.trans (by rw [pz_more H6.out H8.out, HY.out])⟩
            have hx := HX.out
            have hm : c.toNat % 128 * 128 ^ k ≤ 127 * 128 ^ k := Nat.mul_le_mul_right _ (by omega)
            show Y < 128 ^ (k + 1)
            rw [HY.out, Nat.pow_succ]
            omega
          case measure => simp [intOf]; omega
        · rw [decide_eq_false h8] at h128
          have H8 := Lib.hid h8
          have hY2 : Y = X + c.toNat * 128 ^ k := by rw [HY.out, Nat.mod_eq_of_lt (by omega)]
          have HY2 := Lib.hid hY2
          clear hY2 HY HX
          by_cases hz : (0 < k ∧ c.toNat = 0) ∨ 1099511627776 < Y
          · have hp : ps l = (0, 0, 3) := HS.out.trans (pz_bad H6.out H8.out (by rw [← HY2.out]; exact hz))
            have HP := Lib.hid hp
            clear hp
            go_wp2_with fail
            all_goals first
              | (go_ret3; exact pp_of HP.out)
              | (exfalso; simp_all; done)
              | (exfalso; omega)
          · have hp : ps l = (Y, k + 1, 0) := HS.out.trans (by rw [HY2.out]; exact pz_good H6.out H8.out (by rw [← HY2.out]; exact hz))
            have HP := Lib.hid hp
            clear hp
            by_cases hk0 : 0 < k
            · have hce : ((c.toNat : Int) == 0) = false := by rw [beq_eq_false_iff_ne]; omega
              have hcn : ¬ c.toNat = 0 := by omega
              have hy : (Y : Int) ≤ 1099511627776 := by omega
              clear hz
              go_wp2_with fail
              go_ret3
              exact pp_of HP.out
            · have hy : (Y : Int) ≤ 1099511627776 := by omega
              clear hz
              go_wp2_with fail
              go_ret3
              exact pp_of HP.out
end Go.Proofs.YtdgcihgohkgecaaDoor.PkE
