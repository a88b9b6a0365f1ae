/-
  How many names and letters a slice of texts holds, as Few reckons it.
-/
import Derived.Test.YtfpilhjjcjjelaaDoorC
import Derived.Test.YtfpilhjjcjjelaaDoorArg
namespace Go.Proofs.YtfpilhjjcjjelaaDoor.Few
open Go.RowKit Go.Proofs.YtfpilhjjcjjelaaDoor.Kit Go.Proofs.YtfpilhjjcjjelaaDoor.Arg Go.Proofs.YtfpilhjjcjjelaaDoor.A

def SomeInt (w : World) (e : Ending) (w' : World) : Prop := ∃ r : Int, e = .returned (.int .i64 r) ∧ w = w'
set_option maxHeartbeats 1000000 in
/-- Of any slice of texts: some number. -/
theorem few_any (A : Option Addr) (n cp : Nat) (zs : List ByteArray) (w : World) (hz : StrsAt w A n zs) (hn : n ≤ maxLen) :
    Calls Tryd.prog 7 #[.slice A n cp] w (SomeInt w) := by
  unfold maxLen at hn
  have HZ := Lib.hid hz
  clear hz
  go_enter Tryd.func7, Tryd.ntmps7
  go_wp2_with fail
  go_loop [3, 10] (fun s3 s10 => ∃ (k : Nat) (m : Int), k ≤ n ∧ s10 = .int .i64 k ∧ s3 = .int .i64 m) (fun _ s10 => n - (intOf s10).toNat)
  case atStart => exact ⟨0, _, Nat.zero_le _, rfl, rfl⟩
  case round =>
    obtain ⟨k, m, hk, rfl, rfl⟩ := hrel
    by_cases hlt : k < n
    · obtain ⟨ad, x, rfl, hx, hc1⟩ := HZ.out.at_ (Below.refl _ _) (Nat.le_refl _) hlt
      clear hx
      go_wp2_with fail
      go_round
      case rel => exact ⟨k + 1, _, by omega, by go_num, rfl⟩
      case measure => simp [intOf]; omega
    · obtain rfl : k = n := by omega
      go_wp2_with fail
      all_goals
        go_ret
        exact ⟨_, rfl, rfl⟩

/-- The letters of a slice of texts. -/
def letters (zs : List ByteArray) : Nat := (zs.map (·.size)).sum
theorem letters_snoc {zs : List ByteArray} {k : Nat} {x : ByteArray} (h : zs[k]? = some x) : letters (zs.take (k + 1)) = letters (zs.take k) + x.size := by
  obtain ⟨hl, rfl⟩ := List.getElem?_eq_some_iff.1 h
  unfold letters
  rw [List.take_succ_eq_append_getElem hl, List.map_append, List.sum_append]; simp
theorem letters_take (zs : List ByteArray) (k : Nat) : letters (zs.take k) ≤ letters zs := by
  have : letters zs = letters (zs.take k) + letters (zs.drop k) := by
    unfold letters
    rw [← List.sum_append, ← List.map_append, List.take_append_drop]
  omega
/-- Of a slice that is not too great: its number of texts and letters, if that is over 2000, else 0. -/
def fewOf (zs : List ByteArray) : Int := if 2000 < zs.length + letters zs then ((zs.length + letters zs : Nat) : Int) else 0
set_option maxHeartbeats 1000000 in
theorem few_at (A : Option Addr) (n cp : Nat) (zs : List ByteArray) (w : World) (hz : StrsAt w A n zs) (hs : zs.length + letters zs ≤ 1048576) :
    Calls Tryd.prog 7 #[.slice A n cp] w fun e w' => e = .returned (.int .i64 (fewOf zs)) ∧ w = w' := by
  have hl := hz.1
  have hnn : n + letters zs ≤ 1048576 := by omega
  have HL := Lib.hid hl
  clear hl hs
  have HZ := Lib.hid hz
  clear hz
  go_enter Tryd.func7, Tryd.ntmps7
  go_wp2_with fail
  go_loop [3, 10] (fun s3 s10 => ∃ (k m : Nat), k ≤ n ∧ s10 = .int .i64 k ∧ s3 = .int .i64 m ∧ m ≤ 1048576 ∧ Hid (m = n + letters (zs.take k))) (fun _ s10 => n - (intOf s10).toNat)
  case atStart => exact ⟨0, n, Nat.zero_le _, rfl, rfl, by omega, by simp only [List.take_zero]; exact rfl⟩
  case round =>
    obtain ⟨k, m, hk, rfl, rfl, hm, HM⟩ := hrel
    by_cases hlt : k < n
    · obtain ⟨ad, x, rfl, hx, hc1⟩ := HZ.out.at_ (Below.refl _ _) (Nat.le_refl _) hlt
      have hsn := letters_snoc hx
      have hle := letters_take zs (k + 1)
      have hxs : m + x.size ≤ 1048576 := by have := HM.out; omega
      have HS := Lib.hid hsn
      clear hx hsn hle
      go_wp2_with fail
      go_round
      case rel => exact ⟨k + 1, m + x.size, by omega, by go_num, by go_num, hxs, by rw [HS.out, HM.out, Nat.add_assoc]; exact rfl⟩
      case measure => simp [intOf]; omega
    · obtain rfl : k = n := by omega
      have hz : zs.take k = zs := List.take_of_length_le (by rw [HL.out]; omega)
      have hf : fewOf zs = if 2000 < m then (m : Int) else 0 := by
        have := HM.out
        rw [hz] at this
        unfold fewOf
        rw [HL.out, ← this]
      have HF := Lib.hid hf
      clear hz hf
      by_cases hb : 2000 < m
      · go_wp2_with fail
        go_ret
        exact ⟨ret_int (by rw [HF.out, if_pos hb]), rfl⟩
      · go_wp2_with fail
        go_ret
        exact ⟨ret_int (by rw [HF.out, if_neg hb]), rfl⟩
end Go.Proofs.YtfpilhjjcjjelaaDoor.Few
