/-
  A message's first name: told apart; an atom (pure).
-/
import Derived.Test.YtchlbbndfhibgaaGreatDoorBxO
set_option linter.unusedVariables false
set_option linter.unusedSimpArgs false
namespace Go.Proofs.YtchlbbndfhibgaaGreatDoor.FoN
open Go.RowKit Go.Proofs.YtchlbbndfhibgaaGreatDoor.BxD Go.Proofs.YtchlbbndfhibgaaGreatDoor.BxKit Go.Proofs.YtchlbbndfhibgaaGreatDoor.BxA Go.Proofs.YtchlbbndfhibgaaGreatDoor.BxO

theorem digit_at (u i : Nat) (h : i < Lib.nDigits u) : (Lib.decDigits u)[i]? = some (Lib.dg u (Lib.nDigits u - 1 - i)) := by
  rw [Lib.decDigits_eq, List.getElem?_map, List.getElem?_range h]; rfl
theorem dg_val (u j : Nat) : (Lib.dg u j).toNat = 48 + u / 10 ^ j % 10 := by
  unfold Lib.dg
  have : u / 10 ^ j % 10 < 10 := Nat.mod_lt _ (by decide)
  rw [UInt8.toNat_ofNat', Nat.mod_eq_of_lt (by omega)]
theorem digit_range (u : Nat) (c : UInt8) (hc : c ∈ Lib.decDigits u) : 48 ≤ c.toNat ∧ c.toNat ≤ 57 := by
  obtain ⟨i, hi, e⟩ := List.getElem_of_mem hc
  rw [Lib.decDigits_length] at hi
  have h1 := digit_at u i hi
  rw [List.getElem?_eq_getElem (by rw [Lib.decDigits_length]; exact hi), e] at h1
  have h2 := dg_val u (Lib.nDigits u - 1 - i)
  have h3 : u / 10 ^ (Lib.nDigits u - 1 - i) % 10 < 10 := Nat.mod_lt _ (by decide)
  rw [← Option.some.inj h1] at h2
  omega
/-- What digits say. -/
def val (l : List UInt8) : Nat := l.foldl (fun n c => n * 10 + (c.toNat - 48)) 0
theorem val_snoc (l : List UInt8) (c : UInt8) : val (l ++ [c]) = val l * 10 + (c.toNat - 48) := by unfold val; rw [List.foldl_append]; rfl
theorem val_digits : ∀ u : Nat, val (Lib.decDigits u) = u := by
  intro u
  induction u using Nat.strongRecOn with
  | _ u ih =>
    by_cases h : u < 10
    · rw [Lib.decDigits_one h]
      unfold val
      simp only [List.foldl_cons, List.foldl_nil]
      rw [UInt8.toNat_ofNat', Nat.mod_eq_of_lt (by omega)]
      omega
    · rw [Lib.decDigits, dif_neg h, val_snoc, ih _ (by omega), UInt8.toNat_ofNat', Nat.mod_eq_of_lt (by omega)]
      omega
theorem digits_inj {u v : Nat} (h : Lib.decDigits u = Lib.decDigits v) : u = v := by rw [← val_digits u, h, val_digits]
theorem split45 : ∀ (d1 d2 r1 r2 : List UInt8), (45 : UInt8) ∉ d1 → (45 : UInt8) ∉ d2 → d1 ++ 45 :: r1 = d2 ++ 45 :: r2 → d1 = d2 ∧ r1 = r2
  | [], [], _, _, _, _, h => ⟨rfl, by simpa using h⟩
  | [], c :: d2, _, _, _, h2, h => by
    simp only [List.nil_append, List.cons_append, List.cons.injEq] at h
    exact absurd (by rw [h.1]; simp) h2
  | c :: d1, [], _, _, h1, _, h => by
    simp only [List.nil_append, List.cons_append, List.cons.injEq] at h
    exact absurd (by rw [← h.1]; simp) h1
  | c :: d1, c' :: d2, r1, r2, h1, h2, h => by
    simp only [List.cons_append, List.cons.injEq] at h
    obtain ⟨rfl, h⟩ := h
    obtain ⟨rfl, e⟩ := split45 d1 d2 r1 r2 (fun hm => h1 (List.mem_cons_of_mem _ hm)) (fun hm => h2 (List.mem_cons_of_mem _ hm)) h
    exact ⟨rfl, e⟩
theorem own_list (id : ByteArray) {u : Int} (h : 0 ≤ u) : (ownT id u).data.toList = 101 :: (Lib.decDigits u.toNat ++ 45 :: id.data.toList) := by
  rw [own_parts, digs_eq, show max u 0 = u by omega]
  simp [ByteArray.data_append]
theorem own_inj {a b : ByteArray} {p q : Int} (hp : 0 ≤ p) (hq : 0 ≤ q) (h : ownT a p = ownT b q) : a = b ∧ p = q := by
  have h1 : (ownT a p).data.toList = (ownT b q).data.toList := by rw [h]
  rw [own_list a hp, own_list b hq, List.cons.injEq] at h1
  have n45 : ∀ n, (45 : UInt8) ∉ Lib.decDigits n := fun n hm => by have := digit_range n _ hm; revert this; decide
  obtain ⟨h2, h3⟩ := split45 _ _ _ _ (n45 _) (n45 _) h1.2
  have := digits_inj h2
  refine ⟨ByteArray.ext ?_, by omega⟩
  exact Array.toList_inj.1 h3
theorem own_size (id : ByteArray) {u : Int} (h : 0 ≤ u) (h2 : u ≤ 999999) : (ownT id u).size ≤ 8 + id.size ∧ 1 ≤ (ownT id u).size := by
  have h1 : (ownT id u).size = (ownT id u).data.toList.length := by simp
  rw [h1, own_list id h]
  have := nDigits_le 5 u.toNat (by omega)
  simp [Lib.decDigits_length]
  omega
theorem own_atom {id : ByteArray} {u : Int} (h : 0 ≤ u) (h2 : u ≤ 999999) (hi : id.size ≤ 12) (ha : atB id = true) : atB (ownT id u) = true := by
  obtain ⟨s1, s2⟩ := own_size id h h2
  have hc : (ownT id u).data.toList.all atC = true := by
    rw [own_list id h, List.all_cons, List.all_append, List.all_cons]
    have h3 : (Lib.decDigits u.toNat).all atC = true := by
      rw [List.all_eq_true]
      intro c hc
      have := digit_range _ c hc
      unfold atC
      simp only [Bool.or_eq_true, Bool.and_eq_true, decide_eq_true_eq]
      exact .inl (.inr this)
    have h4 : id.data.toList.all atC = true := by
      unfold atB at ha
      simp only [Bool.and_eq_true] at ha
      exact ha.2
    rw [h3, h4]; rfl
  exact atB_good (k := (ownT id u).size) s2 (by omega) rfl (by rw [List.take_of_length_le (by simp)]; exact hc)
end Go.Proofs.YtchlbbndfhibgaaGreatDoor.FoN
