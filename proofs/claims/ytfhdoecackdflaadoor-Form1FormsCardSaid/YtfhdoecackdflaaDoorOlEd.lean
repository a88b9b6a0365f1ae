/-
  The document's keys as bits.
-/
import Derived.Test.YtfhdoecackdflaaDoorK2
set_option linter.unusedVariables false
set_option linter.unusedSimpArgs false
namespace Go.Proofs.YtfhdoecackdflaaDoor.OlEd
open Go.Proofs.YtfhdoecackdflaaDoor.PtK
open Go.RowKit Go.Proofs.YtfhdoecackdflaaDoor.BxD Go.Proofs.YtfhdoecackdflaaDoor.BxKit Go.Proofs.YtfhdoecackdflaaDoor.BxR Go.Proofs.YtfhdoecackdflaaDoor.OlD Go.Proofs.YtfhdoecackdflaaDoor.OlB

set_option maxHeartbeats 4000000 in
set_option maxRecDepth 100000 in
theorem mask_any {w : World} {B n cp : Nat} {A : Option Addr} {ks : List Int} (hz : IntsAt w B A n ks) (hp : ∀ k ∈ ks, 0 ≤ k) :
    Calls Tryd.prog 29 #[.slice A n cp] w fun e w' => e = .returned (.int .i64 (maskN ks : Nat)) ∧ w = w' := by
  have hmax := hz.max
  have HZ := Lib.hid hz
  have HP := Lib.hid hp
  clear hz hp
  go_enter Tryd.func29, Tryd.ntmps29
  go_wp2_with fail
  go_loop [3, 8] (fun s3 s8 => ∃ (k M : Nat), k ≤ n ∧ s8 = .int .i64 k ∧ s3 = .int .i64 (M : Nat) ∧ Hid (M = maskN (ks.take k))) (fun _ s8 => n - (intOf s8).toNat)
  case atStart => exact ⟨0, 0, Nat.zero_le _, rfl, rfl, rfl⟩
  case round =>
    obtain ⟨k, M, hk, rfl, rfl, HM⟩ := hrel
    by_cases hlt : k < n
    · obtain ⟨ad, x, rfl, hb, e1, q1⟩ := HZ.out.get hlt
      rw [Nat.mul_one] at q1
      unfold intC at q1
      have h0 := HP.out x (List.mem_of_getElem? e1)
      obtain ⟨j, rfl⟩ := Int.eq_ofNat_of_zero_le h0
      have hs := mask_snoc e1
      rw [Int.toNat_natCast, ← HM.out] at hs
      have hM : M < 4294967296 := by rw [HM.out]; exact mask_lt (fun k hk => HP.out k (List.mem_of_mem_take hk))
      by_cases h32 : j < 32
      · rw [if_pos (by omega)] at hs
        have HS := Lib.hid hs
        have hor := or_bit hM h32
        clear hs e1 hb
        go_wp2_with fail
        go_round
        case rel => exact ⟨k + 1, M ||| 2 ^ j, by omega, by go_num, rfl, HS.out.symm⟩
        case measure => simp [intOf]; omega
      · rw [if_neg (by omega)] at hs
        have HS := Lib.hid hs
        clear hs e1 hb
        go_wp2_with fail
        go_round
        case rel => exact ⟨k + 1, M, by omega, by go_num, rfl, HS.out.symm⟩
        case measure => simp [intOf]; omega
    · obtain rfl : n = k := by omega
      have hq : M = maskN ks := by rw [HM.out, List.take_of_length_le (by rw [HZ.out.len]; omega)]
      subst hq
      go_wp2_with fail
      go_ret
      exact ⟨rfl, rfl⟩
end Go.Proofs.YtfhdoecackdflaaDoor.OlEd
