/-
  Names and bits: what Name answers for every bit and Bit for every name, where the table lies as the program lays it.
-/
import Derived.Test.YtmkbmdoglcimbaaDoorFlB
import Derived.Test.YtmkbmdoglcimbaaDoorFlK
namespace Go.Proofs.YtmkbmdoglcimbaaDoor.FlC
open Go.RowKit Go.Proofs.YtmkbmdoglcimbaaDoor.FlK Go.Proofs.YtmkbmdoglcimbaaDoor.FlA Go.Proofs.YtmkbmdoglcimbaaDoor.FlB

def nameOf (b : Int) : ByteArray := if b = 1 then nAnswered else if b = 2 then nFlagged else if b = 4 then nDeleted else if b = 8 then nSeen else if b = 16 then nDraft else ⟨#[]⟩
def bitOf (s : ByteArray) : Int := if alB nAnswered s then 1 else if alB nFlagged s then 2 else if alB nDeleted s then 4 else if alB nSeen s then 8 else if alB nDraft s then 16 else 0

set_option maxRecDepth 100000 in
theorem five {P : Nat → Prop} (h0 : P 0) (h1 : P 1) (h2 : P 2) (h3 : P 3) (h4 : P 4) : ∀ k, k < 5 → P k := by
  intro k hk
  match k, hk with
  | 0, _ => exact h0
  | 1, _ => exact h1
  | 2, _ => exact h2
  | 3, _ => exact h3
  | 4, _ => exact h4
set_option maxRecDepth 100000 in
theorem nameOf_at : ∀ k, k < 5 → nameOf (bitAt k) = nameAt k := five rfl rfl rfl rfl rfl
set_option maxRecDepth 100000 in
theorem nameOf_none {b : Int} (h : ∀ j, j < 5 → bitAt j ≠ b) : nameOf b = ⟨#[]⟩ := by
  have h0 := h 0 (by decide)
  have h1 := h 1 (by decide)
  have h2 := h 2 (by decide)
  have h3 := h 3 (by decide)
  have h4 := h 4 (by decide)
  simp [bitAt] at h0 h1 h2 h3 h4
  unfold nameOf
  rw [if_neg (fun e => h0 e.symm), if_neg (fun e => h1 e.symm), if_neg (fun e => h2 e.symm), if_neg (fun e => h3 e.symm), if_neg (fun e => h4 e.symm)]
set_option maxRecDepth 100000 in
theorem bitOf_at {s : ByteArray} : ∀ k, k < 5 → (∀ j, j < k → alB (nameAt j) s = false) → alB (nameAt k) s = true → bitOf s = bitAt k := by
  refine five ?_ ?_ ?_ ?_ ?_
  · intro h hk
    simp only [nameAt] at hk
    unfold bitOf
    simp only [hk]; rfl
  · intro h hk
    have h0 := h 0 (by decide)
    simp only [nameAt] at h0 hk
    unfold bitOf
    simp only [h0, hk]; rfl
  · intro h hk
    have h0 := h 0 (by decide)
    have h1 := h 1 (by decide)
    simp only [nameAt] at h0 h1 hk
    unfold bitOf
    simp only [h0, h1, hk]; rfl
  · intro h hk
    have h0 := h 0 (by decide)
    have h1 := h 1 (by decide)
    have h2 := h 2 (by decide)
    simp only [nameAt] at h0 h1 h2 hk
    unfold bitOf
    simp only [h0, h1, h2, hk]; rfl
  · intro h hk
    have h0 := h 0 (by decide)
    have h1 := h 1 (by decide)
    have h2 := h 2 (by decide)
    have h3 := h 3 (by decide)
    simp only [nameAt] at h0 h1 h2 h3 hk
    unfold bitOf
    simp only [h0, h1, h2, h3, hk]; rfl
set_option maxRecDepth 100000 in
theorem bitOf_none {s : ByteArray} (h : ∀ j, j < 5 → alB (nameAt j) s = false) : bitOf s = 0 := by
  have h0 := h 0 (by decide)
  have h1 := h 1 (by decide)
  have h2 := h 2 (by decide)
  have h3 := h 3 (by decide)
  have h4 := h 4 (by decide)
  simp only [nameAt] at h0 h1 h2 h3 h4
  unfold bitOf
  simp only [h0, h1, h2, h3, h4]; rfl

set_option maxRecDepth 100000 in
theorem ret_str {a b : ByteArray} (h : a = b) : Ending.returned (.string a) = .returned (.string b) := by rw [h]
set_option maxRecDepth 100000 in
theorem upto {P : Nat → Prop} {k : Nat} (h : ∀ j, j < k → P j) (hk : P k) : ∀ j, j < k + 1 → P j := fun j hj => by
  by_cases e : j = k
  · subst e; exact hk
  · exact h j (by omega)
set_option maxRecDepth 100000 in
theorem nameAt_len (k : Nat) : (nameAt k).size ≤ maxLen := by
  unfold nameAt
  split <;> decide
set_option maxRecDepth 100000 in
theorem idxF : ∀ k, k < 5 → ∀ w : World, (Instr.index 120 (.agg cells) (.int .i64 (k : Nat))).run Tryd.prog w = .ok (.agg #[.int .i64 (bitAt k), .string (nameAt k)]) w :=
  five (fun _ => by kernel_rfl) (fun _ => by kernel_rfl) (fun _ => by kernel_rfl) (fun _ => by kernel_rfl) (fun _ => by kernel_rfl)

set_option maxRecDepth 100000 in
set_option maxHeartbeats 1000000 in
theorem bit_any (s : ByteArray) (w : World) (hn : Names w) (hs : s.size ≤ maxLen) : Calls Tryd.prog 85 #[.string s] w fun e w' => e = .returned (.int .i64 (bitOf s)) ∧ Below w.heap.size w w' := by
  obtain ⟨t, fr, hn⟩ := hn
  have HN := Lib.hid hn
  clear hn
  have HS := Lib.hid hs
  clear hs
  go_enter Tryd.func85, Tryd.ntmps85
  go_wp2_with (refine wpList_load_row rfl 120 _ rfl 0 rfl t cells fr _ HN.out Tryd.underlying120 rfl (by kernel_rfl) ?_)
  go_loopw [6] (fun s6 wr => ∃ k : Nat, k ≤ 5 ∧ s6 = .int .i64 k ∧ Hid (∀ j, j < k → alB (nameAt j) s = false) ∧ Hid (Below w.heap.size w wr)) (fun s6 _ => 5 - (intOf s6).toNat)
  case atStart => exact ⟨0, Nat.zero_le _, rfl, fun j hj => absurd hj (Nat.not_lt_zero j), Below.refl _ _⟩
  case round =>
    obtain ⟨k, hk, rfl, HT, HB⟩ := hrel
    by_cases hlt : k < 5
    · have I := idxF k hlt
      have L := nameAt_len k
      obtain ⟨x, hx⟩ : ∃ x, x = nameAt k := ⟨_, rfl⟩
      have HX := Lib.hid hx
      rw [← hx] at I L
      have C := fun w => alike_any x s w L HS.out
      unfold AlPost at C
      cases hq : alB x s with
      | true =>
        rw [hq] at C
        have HC := Lib.hid C
        have HQ := Lib.hid hq
        clear hx C hq L
        go_wp2_with (go_at_call 101; refine (HC.out _).mono ?_; rintro e w' ⟨rfl, n, rfl⟩)
        go_ret
        exact ⟨ret_int (bitOf_at k hlt HT.out (by rw [← HX.out]; exact HQ.out)).symm, below_drewN (HB.out.alloc HB.out.size _) _⟩
      | false =>
        rw [hq] at C
        have HC := Lib.hid C
        have HQ := Lib.hid hq
        clear hx C hq L
        go_wp2_with (go_at_call 101; refine (HC.out _).mono ?_; rintro e w' ⟨rfl, n, rfl⟩)
        go_roundw
        case rel => exact ⟨k + 1, by omega, by go_num, upto HT.out (by rw [← HX.out]; exact HQ.out), below_drewN (HB.out.alloc HB.out.size _) _⟩
        case measure => simp [intOf]; omega
    · obtain rfl : k = 5 := by omega
      go_wp2_with fail
      go_ret
      exact ⟨ret_int (bitOf_none HT.out).symm, HB.out⟩
end Go.Proofs.YtmkbmdoglcimbaaDoor.FlC
