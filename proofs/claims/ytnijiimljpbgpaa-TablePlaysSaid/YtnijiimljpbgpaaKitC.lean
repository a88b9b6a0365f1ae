/-
  More plain lemmas: what is left behind a cut.
-/
import Derived.Test.YtnijiimljpbgpaaKitB
namespace Go.Proofs.Ytnijiimljpbgpaa.Kit
open Go.RowKit

section
variable {κ υ : Type} {cm : κ → κ → Int} (O : Ord cm)
include O

omit O in
theorem mem_cut_of {k : κ} {ps : List (κ × υ)} {p : κ × υ} (h : p ∈ cut cm k ps) : p ∈ ps := by
  unfold cut at h
  split at h
  · rcases List.mem_append.1 h with h | h
    · exact List.mem_of_mem_take h
    · exact List.mem_of_mem_drop h
  · exact h

theorem mem_cut {k : κ} {ps : List (κ × υ)} {p : κ × υ} (h : p ∈ ps) (hne : p.1 ≠ k) : p ∈ cut cm k ps := by
  unfold cut
  split
  · rename_i hh
    obtain ⟨v, hv⟩ := (hit_iff O).1 hh
    obtain ⟨i, hi, e⟩ := List.getElem_of_mem h
    rcases Nat.lt_trichotomy i (lo cm k ps) with hlt | heq | hgt
    · refine List.mem_append_left _ ?_
      rw [List.mem_iff_getElem?]
      exact ⟨i, by rw [List.getElem?_take, if_pos hlt, List.getElem?_eq_getElem hi, e]⟩
    · subst heq
      rw [List.getElem?_eq_getElem hi, e] at hv
      injection hv with hv
      exact absurd (by rw [hv]) hne
    · refine List.mem_append_right _ ?_
      rw [List.mem_iff_getElem?]
      exact ⟨i - (lo cm k ps + 1), by rw [List.getElem?_drop, show lo cm k ps + 1 + (i - (lo cm k ps + 1)) = i by omega, List.getElem?_eq_getElem hi, e]⟩
  · exact h

theorem not_mem_cut {k : κ} {ps : List (κ × υ)} (hs : Srt cm ps) {v : υ} : (k, v) ∉ cut cm k ps := by
  intro h
  have hm := mem_cut_of h
  obtain ⟨hh, hv⟩ := hit_of_mem O hs hm
  have hlt := hit_lt hh
  unfold cut at h
  rw [if_pos hh] at h
  have key : ∀ i, i < ps.length → i ≠ lo cm k ps → ps[i]? ≠ some (k, v) := by
    intro i hi hne he
    exact hne (lo_self O hs he).symm
  rcases List.mem_append.1 h with h | h
  · obtain ⟨i, hi⟩ := List.mem_iff_getElem?.1 h
    rw [List.getElem?_take] at hi
    split at hi
    · rename_i hlt2
      exact key i (by omega) (by omega) hi
    · cases hi
  · obtain ⟨i, hi⟩ := List.mem_iff_getElem?.1 h
    rw [List.getElem?_drop] at hi
    have := (List.getElem?_eq_some_iff.1 hi).1
    exact key _ this (by omega) hi

theorem hit_cut_self {k : κ} {ps : List (κ × υ)} (hs : Srt cm ps) : hit cm k (cut cm k ps) = false := by
  cases h : hit cm k (cut cm k ps) with
  | false => rfl
  | true =>
    obtain ⟨v, hv⟩ := mem_of_hit O h
    exact absurd hv (not_mem_cut O hs)

theorem hit_cut_other {k : κ} {ps : List (κ × υ)} (hs : Srt cm ps) {p : κ × υ} (h : p ∈ ps) (hne : p.1 ≠ k) : hit cm p.1 (cut cm k ps) = true ∧ (cut cm k ps)[lo cm p.1 (cut cm k ps)]? = some p :=
  hit_of_mem O (srt_cut hs) (k := p.1) (v := p.2) (mem_cut O h hne)
end

theorem from_cut {υ : Type} {ps : List (Int × υ)} (hs : Srt Cmp.cmpI ps) (k : Int) :
    (∃ p, ps[ps.length - 1]? = some p ∧ k < p.1 ∧ lo Cmp.cmpI k (cut Cmp.cmpI k ps) < (cut Cmp.cmpI k ps).length) ∨
    ((∀ p, ps[ps.length - 1]? = some p → ¬ k < p.1) ∧ lo Cmp.cmpI k (cut Cmp.cmpI k ps) = (cut Cmp.cmpI k ps).length) := by
  have hle := lo_le Cmp.cmpI k (cut Cmp.cmpI k ps)
  by_cases hlt : lo Cmp.cmpI k (cut Cmp.cmpI k ps) < (cut Cmp.cmpI k ps).length
  · left
    have hq : (cut Cmp.cmpI k ps)[lo Cmp.cmpI k (cut Cmp.cmpI k ps)]? = some ((cut Cmp.cmpI k ps)[lo Cmp.cmpI k (cut Cmp.cmpI k ps)]'hlt) := List.getElem?_eq_getElem hlt
    generalize (cut Cmp.cmpI k ps)[lo Cmp.cmpI k (cut Cmp.cmpI k ps)]'hlt = q at hq
    have h1 := lo_at Cmp.cmpI k _ q hq
    rw [cmpI_lt] at h1
    have hmem := List.mem_of_getElem? hq
    have hps := mem_cut_of hmem
    have hne : q.1 ≠ k := fun e => by
      obtain ⟨a, v⟩ := q
      simp only at e
      subst e
      exact not_mem_cut Cmp.ordI hs hmem
    obtain ⟨i, hi, e⟩ := List.getElem_of_mem hps
    have hlast : ps[ps.length - 1]? = some (ps[ps.length - 1]'(by omega)) := List.getElem?_eq_getElem (by omega)
    refine ⟨_, hlast, ?_, hlt⟩
    rcases Nat.lt_or_eq_of_le (show i ≤ ps.length - 1 by omega) with h2 | h2
    · have := cmpI_lt.1 (List.pairwise_iff_getElem.1 hs i (ps.length - 1) hi (by omega) h2)
      rw [e] at this
      omega
    · subst h2
      rw [e]; omega
  · right
    have heq : lo Cmp.cmpI k (cut Cmp.cmpI k ps) = (cut Cmp.cmpI k ps).length := by omega
    refine ⟨fun p hp hk => ?_, heq⟩
    have hm := mem_cut Cmp.ordI (k := k) (List.mem_of_getElem? hp) (by omega)
    obtain ⟨i, hi⟩ := List.mem_iff_getElem?.1 hm
    have := lo_below Cmp.cmpI k _ i p (by rw [heq]; exact (List.getElem?_eq_some_iff.1 hi).1) hi
    rw [cmpI_lt] at this
    omega
end Go.Proofs.Ytnijiimljpbgpaa.Kit
