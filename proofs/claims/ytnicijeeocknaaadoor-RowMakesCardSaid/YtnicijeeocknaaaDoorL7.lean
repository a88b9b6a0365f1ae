/-
  RdF
-/
import Derived.Test.YtnicijeeocknaaaDoorN4
import Derived.Deep.DeepCutAuto
import Derived.Lib.Hide
set_option linter.unusedVariables false
set_option linter.unusedSimpArgs false
namespace Go.Proofs.YtnicijeeocknaaaDoor.RdF
open Go.RowKit Go.Proofs.YtnicijeeocknaaaDoor.BxD Go.Proofs.YtnicijeeocknaaaDoor.BxKit

/-- Few enough, or one that is too long for a word; or Few says so. -/
def Fw (n : Nat) (zs : List ByteArray) : Prop := n ≤ 100000 ∨ ∃ x ∈ zs, 24 < x.size
set_option maxHeartbeats 2000000 in
set_option maxRecDepth 100000 in
theorem few_some {A : Option Addr} {n cp B : Nat} {zs : List ByteArray} {w : World} (hz : StrsAt w B A n zs) (hf : Fw n zs) :
    Calls Tryd.prog 5 #[.slice A n cp] w fun e w' => ∃ r : Int, e = .returned (.int .i64 r) ∧ w = w' ∧ (Fw n zs ∨ (2000 < r ∧ r ≤ 1125899906842624)) := by
  have hn := hz.max
  have HZ := Lib.hid hz
  have HF := Lib.hid hf
  clear hz hf
  go_enter Tryd.func5, Tryd.ntmps5
  go_wp2_with fail
  go_loop [3, 10] (fun s3 s10 => ∃ (k : Nat) (m : Int), k ≤ n ∧ s10 = .int .i64 k ∧ s3 = .int .i64 m) (fun _ s10 => n - (intOf s10).toNat)
  case atStart => exact ⟨0, _, Nat.zero_le _, rfl, rfl⟩
  case round =>
    obtain ⟨k, m, hk, rfl, rfl⟩ := hrel
    by_cases hlt : k < n
    · obtain ⟨ad, x, rfl, hx, hc1⟩ := StrsAt.at_ HZ.out (Below.refl _ _) (Nat.le_refl _) hlt
      clear hx
      go_wp2_with fail
      go_round
      case rel => exact ⟨k + 1, _, by omega, by go_num, rfl⟩
      case measure => simp [intOf]; omega
    · obtain rfl : k = n := by omega
      go_wp2_with fail
      all_goals
        go_ret
        exact ⟨_, rfl, rfl, .inl HF.out⟩
set_option maxHeartbeats 2000000 in
set_option maxRecDepth 100000 in
theorem few_many {A : Option Addr} {n cp B : Nat} {zs : List ByteArray} {w : World} (hz : StrsAt w B A n zs) (hl : n ≤ 8796093022208) (hf : ¬ Fw n zs) :
    Calls Tryd.prog 5 #[.slice A n cp] w fun e w' => ∃ r : Int, e = .returned (.int .i64 r) ∧ w = w' ∧ (Fw n zs ∨ (2000 < r ∧ r ≤ 1125899906842624)) := by
  have h1 : 100000 < n := Classical.byContradiction fun h => hf (.inl (by omega))
  have h2 : ∀ x ∈ zs, x.size ≤ 24 := fun x hx => Classical.byContradiction fun h => hf (.inr ⟨x, hx, by omega⟩)
  have HZ := Lib.hid hz
  have H2 := Lib.hid h2
  clear hz hf h2
  go_enter Tryd.func5, Tryd.ntmps5
  go_wp2_with fail
  go_loop [3, 10] (fun s3 s10 => ∃ (k m : Nat), k ≤ n ∧ s10 = .int .i64 k ∧ s3 = .int .i64 m ∧ n ≤ m ∧ m ≤ n + k * 24) (fun _ s10 => n - (intOf s10).toNat)
  case atStart => exact ⟨0, n, Nat.zero_le _, rfl, rfl, Nat.le_refl _, Nat.le_refl _⟩
  case round =>
    obtain ⟨k, m, hk, rfl, rfl, hm1, hm2⟩ := hrel
    by_cases hlt : k < n
    · obtain ⟨ad, x, rfl, hx, hc1⟩ := StrsAt.at_ HZ.out (Below.refl _ _) (Nat.le_refl _) hlt
      have hs := H2.out x (List.mem_of_getElem? hx)
      clear hx
      go_wp2_with fail
      go_round
      case rel => exact ⟨k + 1, m + x.size, by omega, by go_num, by go_num, by omega, by omega⟩
      case measure => simp [intOf]; omega
    · obtain rfl : k = n := by omega
      have hb : 2000 < m := by omega
      go_wp2_with fail
      go_ret
      exact ⟨(m : Int), rfl, rfl, .inr (by omega)⟩
theorem few_any {A : Option Addr} {n cp B : Nat} {zs : List ByteArray} {w : World} (hz : StrsAt w B A n zs) (hl : n ≤ 8796093022208) :
    Calls Tryd.prog 5 #[.slice A n cp] w fun e w' => ∃ r : Int, e = .returned (.int .i64 r) ∧ w = w' ∧ (Fw n zs ∨ (2000 < r ∧ r ≤ 1125899906842624)) := by
  by_cases h : Fw n zs
  · exact few_some hz h
  · exact few_many hz hl h
end Go.Proofs.YtnicijeeocknaaaDoor.RdF
