/-
  Two sets have one text just if they are the same.
-/
import Derived.Test.YtmojecimmogeaaaDoorI
namespace Go.Proofs.YtmojecimmogeaaaDoor.L
open Go.RowKit Go.Proofs.YtmojecimmogeaaaDoor.Kit Go.Proofs.YtmojecimmogeaaaDoor.A Go.Proofs.YtmojecimmogeaaaDoor.D Go.Proofs.YtmojecimmogeaaaDoor.E Go.Proofs.YtmojecimmogeaaaDoor.F Go.Proofs.YtmojecimmogeaaaDoor.G Go.Proofs.YtmojecimmogeaaaDoor.H

theorem digits_inj {u v : Nat} (h : Lib.decDigits u = Lib.decDigits v) : u = v := by
  have hn : Lib.nDigits u = Lib.nDigits v := by rw [← Lib.decDigits_length u, ← Lib.decDigits_length v, h]
  have all : ∀ i, i ≤ Lib.nDigits u → pre u i = pre v i := by
    intro i
    induction i with
    | zero => intro _; rw [pre_zero, pre_zero]
    | succ i ih =>
      intro hi
      rw [pre_step u i (by omega), pre_step v i (by omega), ih (by omega)]
      have h1 := digit_at u i (by omega)
      have h2 := digit_at v i (by omega)
      rw [h, h2] at h1
      have h3 := congrArg UInt8.toNat (Option.some.inj h1)
      rw [dg_val, dg_val] at h3
      omega
  have := all (Lib.nDigits u) (Nat.le_refl _)
  rw [pre_all, hn, pre_all] at this
  exact this
theorem endT_inj {x y : Int} (hx : 0 ≤ x) (hy : 0 ≤ y) (h : endT x = endT y) : x = y := by
  by_cases h1 : x = 0
  · by_cases h2 : y = 0
    · omega
    · rw [h1, endT_zero, endT_pos h2] at h
      exact absurd (show (42 : UInt8) ∈ Lib.decDigits y.toNat by rw [← h]; simp) (digits_ne _ _ (by decide))
  · by_cases h2 : y = 0
    · rw [h2, endT_zero, endT_pos h1] at h
      exact absurd (show (42 : UInt8) ∈ Lib.decDigits x.toNat by rw [h]; simp) (digits_ne _ _ (by decide))
    · rw [endT_pos h1, endT_pos h2] at h
      have := digits_inj h
      omega
theorem split_eq {c : UInt8} : ∀ {a a' b b' : List UInt8}, c ∉ a → c ∉ a' → a ++ c :: b = a' ++ c :: b' → a = a' ∧ b = b'
  | [], [], b, b', _, _, h => ⟨rfl, by simpa using h⟩
  | [], y :: a', b, b', _, h2, h => by
    simp only [List.nil_append, List.cons_append, List.cons.injEq] at h
    exact absurd (by rw [h.1]; exact List.mem_cons_self) h2
  | x :: a, [], b, b', h1, _, h => by
    simp only [List.nil_append, List.cons_append, List.cons.injEq] at h
    exact absurd (by rw [← h.1]; exact List.mem_cons_self) h1
  | x :: a, y :: a', b, b', h1, h2, h => by
    simp only [List.cons_append, List.cons.injEq] at h
    obtain ⟨e1, e2⟩ := split_eq (fun hc => h1 (List.mem_cons_of_mem _ hc)) (fun hc => h2 (List.mem_cons_of_mem _ hc)) h.2
    exact ⟨by rw [h.1, e1], e2⟩
theorem spT_inj {s t : Sp} (hs : okS s = true) (ht : okS t = true) (h : spT s = spT t) : s = t := by
  obtain ⟨x, y⟩ := s
  obtain ⟨x', y'⟩ := t
  obtain ⟨⟨a1, _⟩, b1, _⟩ := okS_parts hs
  obtain ⟨⟨a2, _⟩, b2, _⟩ := okS_parts ht
  by_cases e1 : x = y
  · subst e1
    by_cases e2 : x' = y'
    · subst e2
      rw [spT_one rfl, spT_one rfl] at h
      rw [endT_inj a1 a2 h]
    · rw [spT_one rfl, spT_two e2] at h
      exact absurd (show (58 : UInt8) ∈ endT x by rw [h]; simp) (endT_ne _ _ (.inr rfl))
  · by_cases e2 : x' = y'
    · subst e2
      rw [spT_one rfl, spT_two e1] at h
      exact absurd (show (58 : UInt8) ∈ endT x' by rw [← h]; simp) (endT_ne _ _ (.inr rfl))
    · rw [spT_two e1, spT_two e2] at h
      obtain ⟨h1, h2⟩ := split_eq (endT_ne _ _ (.inr rfl)) (endT_ne _ _ (.inr rfl)) h
      rw [endT_inj a1 a2 h1, endT_inj b1 b2 h2]
theorem txt_pos {zs : List Sp} (hz : ∀ z ∈ zs, okS z = true) (h0 : zs ≠ []) : txt zs ≠ [] := by
  match zs, h0 with
  | [z], _ =>
    rw [txt_one]
    intro h
    have := (spT_len (x := z.1) (y := z.2) (hz z (by simp))).1
    rw [show spT (z.1, z.2) = spT z from rfl, h] at this
    simp at this
  | z :: y :: r, _ =>
    rw [txt_cons]
    simp
theorem txt_inj : ∀ {zs ys : List Sp}, (∀ z ∈ zs, okS z = true) → (∀ z ∈ ys, okS z = true) → zs ≠ [] → ys ≠ [] → txt zs = txt ys → zs = ys
  | [z], [y], h1, h2, _, _, h => by
    rw [txt_one, txt_one] at h
    rw [spT_inj (h1 z (by simp)) (h2 y (by simp)) h]
  | [z], y :: y2 :: s, h1, h2, _, _, h => by
    rw [txt_one, txt_cons] at h
    exact absurd (show (44 : UInt8) ∈ spT z by rw [h]; simp) (spT_ne _)
  | z :: z2 :: r, [y], h1, h2, _, _, h => by
    rw [txt_one, txt_cons] at h
    exact absurd (show (44 : UInt8) ∈ spT y by rw [← h]; simp) (spT_ne _)
  | z :: z2 :: r, y :: y2 :: s, h1, h2, _, _, h => by
    rw [txt_cons, txt_cons] at h
    obtain ⟨e1, e2⟩ := split_eq (spT_ne _) (spT_ne _) h
    have e3 := txt_inj (fun u hu => h1 u (List.mem_cons_of_mem _ hu)) (fun u hu => h2 u (List.mem_cons_of_mem _ hu)) (by simp) (by simp) e2
    rw [spT_inj (h1 z (by simp)) (h2 y (by simp)) e1, e3]

theorem may_ne {zs : List Sp} (h : mayB zs = true) : zs ≠ [] := fun e => by have := (may_len h).1; rw [e] at this; simp at this
theorem tx_empty {zs : List Sp} (h : mayB zs = true) : ((txB zs).toList == []) = false := by
  unfold txB
  rw [h, if_pos rfl, beq_eq_false_iff_ne, ByteArray.toList_eq]
  exact txt_pos (may_all h) (may_ne h)
theorem tx_same {zs ys : List Sp} (h1 : mayB zs = true) (h2 : mayB ys = true) : ((txB zs).toList == (txB ys).toList) = decide (zs = ys) := by
  unfold txB
  rw [h1, h2, if_pos rfl, if_pos rfl, ByteArray.toList_eq, ByteArray.toList_eq]
  by_cases e : zs = ys
  · subst e; simp
  · rw [decide_eq_false e, beq_eq_false_iff_ne]
    exact fun h => e (txt_inj (may_all h1) (may_all h2) (may_ne h1) (may_ne h2) h)
end Go.Proofs.YtmojecimmogeaaaDoor.L
