/-
  What is split of names does not hang on how the row is turned. Plain lemmas: nothing here walks.
-/
import Derived.Test.YtfpilhjjcjjelaaDoorM
import Derived.Test.YtfpilhjjcjjelaaDoorF
namespace Go.Proofs.YtfpilhjjcjjelaaDoor.N
open Go.RowKit Go.Proofs.YtfpilhjjcjjelaaDoor.Kit Go.Proofs.YtfpilhjjcjjelaaDoor.A Go.Proofs.YtfpilhjjcjjelaaDoor.B Go.Proofs.YtfpilhjjcjjelaaDoor.C Go.Proofs.YtfpilhjjcjjelaaDoor.M Go.Proofs.YtfpilhjjcjjelaaDoor.F

def flL (l : List ByteArray) : Nat := l.foldl (fun f s => f ||| bitN s) 0
theorem flL_from (l : List ByteArray) : ∀ a, l.foldl (fun f s => f ||| bitN s) a = a ||| flL l := by
  unfold flL
  induction l with
  | nil => intro a; simp
  | cons s l ih =>
    intro a
    rw [List.foldl_cons, List.foldl_cons, ih, ih (0 ||| bitN s), Nat.zero_or, Nat.or_assoc]
theorem flL_append (xs ys : List ByteArray) : flL (xs ++ ys) = flL xs ||| flL ys := by
  conv => lhs; unfold flL
  rw [List.foldl_append, flL_from ys]; rfl
theorem flL_turn (l : List ByteArray) (k : Nat) : flL (l.drop k ++ l.take k) = flL l := by
  rw [flL_append, Nat.or_comm, ← flL_append, List.take_append_drop]
theorem fl_all (l : List ByteArray) : fl l l.length = flL l := by unfold fl; rw [List.take_length]; rfl

def wdL (l : List ByteArray) : List ByteArray := l.foldl addW []
theorem wd_all (l : List ByteArray) : wd l l.length = wdL l := by unfold wd; rw [List.take_length]; rfl

theorem mem_fold (x : ByteArray) : ∀ (l acc : List ByteArray), x ∈ l.foldl addW acc ↔ x ∈ acc ∨ (x ∈ l ∧ bitOf x = 0) := by
  intro l
  induction l with
  | nil => intro acc; simp
  | cons s l ih =>
    intro acc
    rw [List.foldl_cons, ih]
    have h : x ∈ addW acc s ↔ x ∈ acc ∨ (x = s ∧ bitOf x = 0) := by
      unfold addW
      by_cases h0 : bitOf s ≠ 0
      · rw [if_pos h0]
        constructor
        · exact .inl
        · rintro (h | ⟨rfl, h⟩)
          · exact h
          · exact absurd h h0
      · rw [if_neg h0]
        simp only [ne_eq, Decidable.not_not] at h0
        by_cases hm : s ∈ acc
        · rw [if_pos hm]
          constructor
          · exact .inl
          · rintro (h | ⟨rfl, h⟩)
            · exact h
            · exact hm
        · rw [if_neg hm, List.mem_append, List.mem_singleton]
          constructor
          · rintro (h | h)
            · exact .inl h
            · exact .inr ⟨h, by rw [h]; exact h0⟩
          · rintro (h | ⟨h, _⟩)
            · exact .inl h
            · exact .inr h
    rw [h, List.mem_cons]
    constructor
    · rintro ((h | ⟨h, h0⟩) | ⟨h, h0⟩)
      · exact .inl h
      · exact .inr ⟨.inl h, h0⟩
      · exact .inr ⟨.inr h, h0⟩
    · rintro (h | ⟨h | h, h0⟩)
      · exact .inl (.inl h)
      · exact .inl (.inr ⟨h, h0⟩)
      · exact .inr ⟨h, h0⟩
theorem nodup_fold : ∀ (l acc : List ByteArray), acc.Nodup → (l.foldl addW acc).Nodup := by
  intro l
  induction l with
  | nil => intro acc h; exact h
  | cons s l ih =>
    intro acc h
    rw [List.foldl_cons]
    apply ih
    unfold addW
    split
    · exact h
    · split
      · exact h
      · rename_i hm
        rw [List.nodup_append]
        exact ⟨h, by simp, fun a ha b hb e => hm (by simp at hb; rw [← hb, ← e]; exact ha)⟩
theorem length_le_of_sub : ∀ (xs ys : List ByteArray), xs.Nodup → (∀ x ∈ xs, x ∈ ys) → xs.length ≤ ys.length := by
  intro xs
  induction xs with
  | nil => intro ys _ _; simp
  | cons x xs ih =>
    intro ys hn hs
    rw [List.nodup_cons] at hn
    have hx : x ∈ ys := hs x (by simp)
    have h1 := ih (ys.erase x) hn.2 (fun z hz => (List.mem_erase_of_ne (fun e => hn.1 (by rw [← e]; exact hz))).2 (hs z (by simp [hz])))
    have h2 := List.length_erase_of_mem hx
    have h3 : 0 < ys.length := List.length_pos_of_mem hx
    simp only [List.length_cons]
    omega
theorem wdL_len (xs ys : List ByteArray) (h : ∀ x, x ∈ xs ↔ x ∈ ys) : (wdL xs).length = (wdL ys).length := by
  have hm : ∀ x, x ∈ wdL xs ↔ x ∈ wdL ys := fun x => by unfold wdL; rw [mem_fold, mem_fold, h]
  have h1 := length_le_of_sub (wdL xs) (wdL ys) (nodup_fold _ _ (by simp)) (fun x hx => (hm x).1 hx)
  have h2 := length_le_of_sub (wdL ys) (wdL xs) (nodup_fold _ _ (by simp)) (fun x hx => (hm x).2 hx)
  omega
theorem wdL_turn (l : List ByteArray) (k : Nat) : (wdL (l.drop k ++ l.take k)).length = (wdL l).length :=
  wdL_len _ _ fun x => by
    conv => rhs; rw [← List.take_append_drop k l]
    rw [List.mem_append, List.mem_append]
    exact Or.comm

/-- An atom is no flag. -/
theorem atom_bit {s : ByteArray} (h : atB s = true) : bitOf s = 0 := by
  have hno : ∀ k, k < 5 → alB (nameAt k) s = false := by
    intro k hk
    cases hq : alB (nameAt k) s with
    | false => rfl
    | true =>
      exfalso
      have hm : (nameAt k).data.toList.map sm = s.data.toList.map sm := by
        unfold alB at hq
        simpa using hq
      have h0 : ∀ k, k < 5 → ∃ r, (nameAt k).data.toList.map sm = 92 :: r := five ⟨_, rfl⟩ ⟨_, rfl⟩ ⟨_, rfl⟩ ⟨_, rfl⟩ ⟨_, rfl⟩
      obtain ⟨r, hr⟩ := h0 k hk
      rw [hr] at hm
      unfold atB at h
      simp only [Bool.and_eq_true] at h
      have hall := h.2
      cases hl : s.data.toList with
      | nil => rw [hl] at hm; simp at hm
      | cons c t =>
        rw [hl, List.map_cons] at hm
        rw [hl, List.all_cons, Bool.and_eq_true] at hall
        have hc : sm c = 92 := by injection hm with h1 _; exact h1.symm
        have hc2 : c.toNat = 92 := by
          unfold sm at hc
          split at hc <;> omega
        have : c = 92 := by apply UInt8.toNat_inj.1; rw [hc2]; rfl
        rw [this] at hall
        exact absurd hall.1 (by decide)
  exact bitOf_none hno
theorem flL_words : ∀ (l : List ByteArray), (∀ z ∈ l, atB z = true) → flL l = 0 := by
  intro l
  induction l with
  | nil => intro _; rfl
  | cons s l ih =>
    intro h
    have e : flL (s :: l) = flL [s] ||| flL l := flL_append [s] l
    rw [e, ih (fun z hz => h z (by simp [hz]))]
    have : bitN s = 0 := by unfold bitN; rw [atom_bit (h s (by simp))]; rfl
    show (0 ||| bitN s) ||| 0 = 0
    rw [this]; rfl
theorem flL_names : ∀ a, a < 32 → flL (nm a 5) = a := by decide +kernel
theorem wdL_flags : ∀ (l acc : List ByteArray), (∀ z ∈ l, bitOf z ≠ 0) → l.foldl addW acc = acc := by
  intro l
  induction l with
  | nil => intro acc _; rfl
  | cons s l ih =>
    intro acc h
    rw [List.foldl_cons]
    have : addW acc s = acc := by unfold addW; rw [if_pos (h s (by simp))]
    rw [this]
    exact ih acc (fun z hz => h z (by simp [hz]))
theorem nm_bit {a k : Nat} (hk : k ≤ 5) : ∀ z ∈ nm a k, bitOf z ≠ 0 := by
  intro z hz
  unfold nm at hz
  obtain ⟨j, hj, rfl⟩ := List.mem_map.1 hz
  have hj5 : j < 5 := by
    have := (List.mem_filter.1 hj).1
    simp at this; omega
  revert hj5 j
  intro j _ _ hj5
  have h : ∀ k, k < 5 → bitOf (nameAt k) ≠ 0 := five (by decide +kernel) (by decide +kernel) (by decide +kernel) (by decide +kernel) (by decide +kernel)
  exact h j hj5
theorem wdL_names (a : Nat) (zs : List ByteArray) : wdL (nm a 5 ++ zs) = wdL zs := by
  unfold wdL
  rw [List.foldl_append, wdL_flags _ _ (nm_bit (Nat.le_refl _))]
end Go.Proofs.YtfpilhjjcjjelaaDoor.N
