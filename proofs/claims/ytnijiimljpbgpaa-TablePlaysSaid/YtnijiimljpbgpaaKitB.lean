/-
  More plain lemmas: who is in a row behind a put, where a name stands in a row in order.
-/
import Derived.Test.YtnijiimljpbgpaaCmp
import Derived.Test.YtnijiimljpbgpaaKit
import Derived.Test.YtnijiimljpbgpaaArg
namespace Go.Proofs.Ytnijiimljpbgpaa.Kit
open Go.RowKit

section
variable {κ υ : Type} {cm : κ → κ → Int}

theorem mem_put {k : κ} {v : υ} {ps : List (κ × υ)} {p : κ × υ} (h : p ∈ put cm k v ps) : p = (k, v) ∨ p ∈ ps := by
  unfold put at h
  split at h
  · unfold upd at h
    rcases List.mem_or_eq_of_mem_set h with h | h
    · exact .inr h
    · exact .inl h
  · unfold ins at h
    rcases List.mem_append.1 h with h | h
    · exact .inr (List.mem_of_mem_take h)
    · rcases List.mem_cons.1 h with h | h
      · exact .inl h
      · exact .inr (List.mem_of_mem_drop h)

theorem length_put_le {k : κ} {v : υ} {ps : List (κ × υ)} : (put cm k v ps).length ≤ ps.length + 1 := by
  rw [length_put]; split <;> omega

variable (O : Ord cm)
include O

theorem lo_self {ps : List (κ × υ)} (hs : Srt cm ps) {i : Nat} {p : κ × υ} (hp : ps[i]? = some p) : lo cm p.1 ps = i := by
  obtain ⟨hi, e⟩ := List.getElem?_eq_some_iff.1 hp
  refine lo_eq cm p.1 ps i (Nat.le_of_lt hi) (fun j q hj hq => ?_) (fun q hq => ?_)
  · obtain ⟨hj', e'⟩ := List.getElem?_eq_some_iff.1 hq
    have := List.pairwise_iff_getElem.1 hs j i hj' hi hj
    rwa [e, e'] at this
  · rw [hp] at hq; injection hq with hq; subst hq
    rw [O.refl]; omega

/-- one name each: the place of a name's pair is its own place -/
theorem hit_of_mem {ps : List (κ × υ)} (hs : Srt cm ps) {k : κ} {v : υ} (h : (k, v) ∈ ps) : hit cm k ps = true ∧ ps[lo cm k ps]? = some (k, v) := by
  obtain ⟨i, hi, e⟩ := List.getElem_of_mem h
  have hp : ps[i]? = some (k, v) := by rw [List.getElem?_eq_getElem hi, e]
  have hl := lo_self O hs hp
  exact ⟨(hit_iff O).2 ⟨v, by rw [show lo cm k ps = i from hl]; exact hp⟩, by rw [show lo cm k ps = i from hl]; exact hp⟩

theorem mem_of_hit {ps : List (κ × υ)} {k : κ} (h : hit cm k ps = true) : ∃ v, (k, v) ∈ ps := by
  obtain ⟨v, hv⟩ := (hit_iff O).1 h
  exact ⟨v, List.mem_of_getElem? hv⟩

omit O in
theorem put_mem {k : κ} {v : υ} {ps : List (κ × υ)} : (k, v) ∈ put cm k v ps := by
  unfold put
  split
  · rename_i hh
    have := hit_lt hh
    unfold upd
    exact List.mem_set this (k, v)
  · unfold ins
    exact List.mem_append_right _ List.mem_cons_self

/-- who was there under another name stays -/
theorem put_other {k : κ} {v : υ} {ps : List (κ × υ)} {p : κ × υ} (h : p ∈ ps) (hne : p.1 ≠ k) : p ∈ put cm k v ps := by
  unfold put
  split
  · rename_i hh
    obtain ⟨u, hu⟩ := (hit_iff O).1 hh
    obtain ⟨i, hi, e⟩ := List.getElem_of_mem h
    unfold upd
    rw [List.mem_iff_getElem?]
    refine ⟨i, ?_⟩
    rw [List.getElem?_set]
    split
    · rename_i h2
      subst h2
      rw [List.getElem?_eq_getElem hi, e] at hu
      injection hu with hu
      exact absurd (by rw [hu]) hne
    · rw [List.getElem?_eq_getElem hi, e]
  · unfold ins
    rw [← List.take_append_drop (lo cm k ps) ps] at h
    rcases List.mem_append.1 h with h | h
    · exact List.mem_append_left _ h
    · exact List.mem_append_right _ (List.mem_cons_of_mem _ h)

/-- the names behind a put: those that were there, and the one that was put -/
theorem names_put {k : κ} {v : υ} {ps : List (κ × υ)} (x : κ) : x ∈ (put cm k v ps).map (·.1) ↔ x = k ∨ x ∈ ps.map (·.1) := by
  constructor
  · intro h
    obtain ⟨p, hp, rfl⟩ := List.mem_map.1 h
    rcases mem_put hp with rfl | hp
    · exact .inl rfl
    · exact .inr (List.mem_map_of_mem hp)
  · rintro (rfl | h)
    · exact List.mem_map.2 ⟨(x, v), put_mem, rfl⟩
    · by_cases hx : x = k
      · subst hx; exact List.mem_map.2 ⟨(x, v), put_mem, rfl⟩
      · obtain ⟨p, hp, rfl⟩ := List.mem_map.1 h
        exact List.mem_map.2 ⟨p, put_other O hp hx, rfl⟩

theorem hit_iff_names {k : κ} {ps : List (κ × υ)} (hs : Srt cm ps) : hit cm k ps = true ↔ k ∈ ps.map (·.1) := by
  constructor
  · intro h
    obtain ⟨v, hv⟩ := mem_of_hit O h
    exact List.mem_map.2 ⟨_, hv, rfl⟩
  · intro h
    obtain ⟨⟨a, v⟩, hp, rfl⟩ := List.mem_map.1 h
    exact (hit_of_mem O hs hp).1
end

theorem cmpI_lt {a b : Int} : Cmp.cmpI a b < 0 ↔ a < b := by
  unfold Cmp.cmpI; split <;> (try split) <;> constructor <;> intro h <;> omega

theorem lo_next {υ : Type} {ps : List (Int × υ)} (hs : Srt Cmp.cmpI ps) {i : Nat} {p q : Int × υ} (hp : ps[i]? = some p) (hq : ps[i + 1]? = some q) : lo Cmp.cmpI (p.1 + 1) ps = i + 1 ∧ p.1 < q.1 := by
  obtain ⟨hi, e⟩ := List.getElem?_eq_some_iff.1 hp
  obtain ⟨hi', e'⟩ := List.getElem?_eq_some_iff.1 hq
  have hlt : p.1 < q.1 := by
    have := List.pairwise_iff_getElem.1 hs i (i + 1) hi hi' (by omega)
    rw [e, e'] at this
    exact cmpI_lt.1 this
  refine ⟨lo_eq _ _ ps (i + 1) (by omega) (fun j r hj hr => ?_) (fun r hr => ?_), hlt⟩
  · obtain ⟨hj', e''⟩ := List.getElem?_eq_some_iff.1 hr
    rw [cmpI_lt]
    rcases Nat.lt_or_eq_of_le (Nat.le_of_lt_succ hj) with h | h
    · have := List.pairwise_iff_getElem.1 hs j i hj' hi h
      rw [e, e''] at this
      have := cmpI_lt.1 this
      omega
    · subst h
      rw [hp] at hr; injection hr with hr; subst hr; omega
  · rw [hq] at hr; injection hr with hr; subst hr
    rw [cmpI_lt]; omega

theorem ints_of_owns {w : World} {b : Nat} {e : TypeId} {A : Option Addr} {n c : Nat} {zs : List Int} (h : w.ownsRow b e 1 (.slice A n c) n (zs.map (fun z => Value.int .i64 z))) : Arg.IntsAt w A n zs := by
  have hl := h.1
  rw [List.length_map, Nat.mul_one] at hl
  rcases owns_cases h with ⟨h1, h2, -⟩ | ⟨g, cap, rest, h1, hb, hr, hn, hm, hl1, hs⟩
  · exact ⟨hl, fun h => absurd h (by omega)⟩
  · injection h1 with h1 _ _
    subst h1
    refine ⟨hl, fun _ => ⟨_, rfl, hr.lt, fun j z hj => ?_⟩⟩
    rw [Addr.add_lit, Nat.zero_add, hr.cell, List.getElem?_append_left (by rw [List.length_map]; exact (List.getElem?_eq_some_iff.1 hj).1), List.getElem?_map, hj]
    rfl
theorem strs_of_owns {w : World} {b : Nat} {e : TypeId} {A : Option Addr} {n c : Nat} {zs : List ByteArray} (h : w.ownsRow b e 1 (.slice A n c) n (zs.map (fun z => Value.string z))) : Arg.StrsAt w A n zs := by
  have hl := h.1
  rw [List.length_map, Nat.mul_one] at hl
  rcases owns_cases h with ⟨h1, h2, -⟩ | ⟨g, cap, rest, h1, hb, hr, hn, hm, hl1, hs⟩
  · exact ⟨hl, fun h => absurd h (by omega)⟩
  · injection h1 with h1 _ _
    subst h1
    refine ⟨hl, fun _ => ⟨_, rfl, hr.lt, fun j z hj => ?_⟩⟩
    rw [Addr.add_lit, Nat.zero_add, hr.cell, List.getElem?_append_left (by rw [List.length_map]; exact (List.getElem?_eq_some_iff.1 hj).1), List.getElem?_map, hj]
    rfl
end Go.Proofs.Ytnijiimljpbgpaa.Kit
