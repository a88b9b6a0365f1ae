/-
  Rows in memory as what an append takes: a part of them, a part behind.
-/
import Derived.Test.YtfhdoecackdflaaGreatDoorRwRo
set_option linter.unusedVariables false
set_option linter.unusedSimpArgs false
namespace Go.Proofs.YtfhdoecackdflaaGreatDoor.ImO
open Go.RowKit Go.Proofs.YtfhdoecackdflaaGreatDoor.BxD Go.Proofs.YtfhdoecackdflaaGreatDoor.BxKit Go.Proofs.YtfhdoecackdflaaGreatDoor.BxA Go.Proofs.YtfhdoecackdflaaGreatDoor.BxR Go.Proofs.YtfhdoecackdflaaGreatDoor.BxC Go.Proofs.YtfhdoecackdflaaGreatDoor.RwD Go.Proofs.YtfhdoecackdflaaGreatDoor.RwKit Go.Proofs.YtfhdoecackdflaaGreatDoor.RwRo

theorem rc_one (l : List RRaw) : ∀ u ∈ rc l, u.oneCell' = true := by
  intro u hu
  unfold rc at hu
  obtain ⟨q, _, hq⟩ := List.mem_flatMap.1 hu
  simp only [cell11, List.mem_cons, List.not_mem_nil, or_false] at hq
  rcases hq with rfl | rfl | rfl | rfl | rfl | rfl | rfl | rfl | rfl | rfl | rfl <;> rfl
theorem eleven {p : Addr} {f : Nat} : p.add f = if f = 0 then p else fld p f := by
  unfold Addr.add fld
  split
  · rfl
  · rfl
/-- Rows in memory with their keys' slices. -/
theorem rows_raw {w : World} {B n : Nat} {A : Option Addr} {l : List Row} (h : RowsAt w B A n l) : ∃ rs : List RRaw, rs.map RRaw.r = l ∧ RKeys w B rs ∧ Src w A n 11 (rc rs) := by
  by_cases hn : n = 0
  · subst hn
    have hl : l = [] := List.eq_nil_of_length_eq_zero h.len
    subst hl
    exact ⟨[], rfl, fun r hr => by simp at hr, rfl, fun u hu => by simp [rc] at hu, fun h => absurd h (Nat.lt_irrefl 0)⟩
  obtain ⟨ad, e, hlt, hc⟩ := h.2.2 (by omega)
  obtain ⟨ys, h1, h2⟩ := choose_list (fun j (m : Row) (y : Option Addr × Nat) => w.cell? (fld (ad.add (j * 11)) 8) = some (.slice y.1 m.msg.keys.length y.2) ∧ m.msg.keys.length ≤ y.2 ∧ IntsAt w B y.1 m.msg.keys.length m.msg.keys) l
    (fun j m hj => by
      obtain ⟨_, _, _, _, _, _, _, _, ⟨K, c, h5, h6, h7⟩, _⟩ := hc j m hj
      exact ⟨(K, c), h5, h6, h7⟩)
  let rs := (l.zip ys).map fun p => (⟨p.1, p.2.1, p.2.2⟩ : RRaw)
  have hrl : rs.length = n := by simp only [rs, List.length_map, List.length_zip, h1, Nat.min_self]; exact h.len
  have hr : ∀ (j : Nat) (r : RRaw), rs[j]? = some r → l[j]? = some r.r ∧ ys[j]? = some (r.K, r.c) := by
    intro j r hj
    simp only [rs, List.getElem?_map] at hj
    cases hz : (l.zip ys)[j]? with
    | none => rw [hz] at hj; cases hj
    | some p =>
      rw [hz] at hj
      obtain rfl := Option.some.inj hj
      rw [List.getElem?_zip_eq_some] at hz
      exact hz
  refine ⟨rs, ?_, ?_, ?_⟩
  · simp only [rs, List.map_map]
    have : (RRaw.r ∘ fun p : Row × Option Addr × Nat => (⟨p.1, p.2.1, p.2.2⟩ : RRaw)) = Prod.fst := rfl
    rw [this, List.map_fst_zip (by omega)]
  · intro r hrm
    obtain ⟨j, hj⟩ := List.mem_iff_getElem?.1 hrm
    obtain ⟨a1, a2⟩ := hr j r hj
    obtain ⟨y, b1, _, b3, b4⟩ := h2 j r.r a1
    rw [a2] at b1
    obtain rfl := Option.some.inj b1
    obtain ⟨_, _, _, _, _, _, _, _, _, _, _, c8, c9, c10⟩ := hc j r.r a1
    exact ⟨b4, b3, c8, c9, c10⟩
  · refine ⟨by rw [rc_length, hrl], rc_one rs, fun _ => ⟨ad, e, fun j u hu => ?_⟩⟩
    have hjl : j < rs.length * 11 := by rw [← rc_length]; exact (List.getElem?_eq_some_iff.1 hu).1
    have hi : j / 11 < rs.length := by omega
    have hg : rs[j / 11]? = some (rs[j / 11]'hi) := List.getElem?_eq_getElem hi
    obtain ⟨a1, a2⟩ := hr _ _ hg
    obtain ⟨y, b1, b2, b3, b4⟩ := h2 _ _ a1
    rw [a2] at b1
    obtain rfl := Option.some.inj b1
    obtain ⟨c0, c1, c2, c3, c4, c5, c6, c7, _, c9, c10, _⟩ := hc _ _ a1
    have hm := rc_get rs (j / 11) (j % 11) _ hg (Nat.mod_lt _ (by decide))
    rw [show j / 11 * 11 + j % 11 = j by omega, hu] at hm
    rw [show ad.add j = (ad.add (j / 11 * 11)).add (j % 11) by rw [add_add]; congr 1; omega]
    have hf : j % 11 < 11 := Nat.mod_lt _ (by decide)
    rw [eleven]
    generalize j % 11 = f at hm hf
    match f, hf with
    | 0, _ => rw [if_pos rfl, c0]; exact hm.symm
    | 1, _ => rw [if_neg (by decide), c1]; exact hm.symm
    | 2, _ => rw [if_neg (by decide), c2]; exact hm.symm
    | 3, _ => rw [if_neg (by decide), c3]; exact hm.symm
    | 4, _ => rw [if_neg (by decide), c4]; exact hm.symm
    | 5, _ => rw [if_neg (by decide), c5]; exact hm.symm
    | 6, _ => rw [if_neg (by decide), c6]; exact hm.symm
    | 7, _ => rw [if_neg (by decide), c7]; exact hm.symm
    | 8, _ => rw [if_neg (by decide), b2]; exact hm.symm
    | 9, _ => rw [if_neg (by decide), c9]; exact hm.symm
    | 10, _ => rw [if_neg (by decide), c10]; exact hm.symm
theorem src_keep {w w' : World} {A : Option Addr} {m sz : Nat} {news : List Value} (h : Src w A m sz news) {B : Nat} (hA : ∀ ad, A = some ad → ad.block < B) (hk : ∀ p : Addr, p.block < B → w'.cell? p = w.cell? p) : Src w' A m sz news := by
  refine ⟨h.1, h.2.1, fun hm => ?_⟩
  obtain ⟨ad, e, hc⟩ := h.2.2 hm
  exact ⟨ad, e, fun j u hu => (hk _ (by rw [add_block]; exact hA ad e)).trans (hc j u hu)⟩
theorem rc_take (l : List RRaw) (j : Nat) : (rc l).take (j * 11) = rc (l.take j) := by
  have h := rc_append (l.take j) (l.drop j)
  rw [List.take_append_drop] at h
  rw [h]
  by_cases hj : j ≤ l.length
  · rw [List.take_append_of_le_length (by rw [rc_length, List.length_take]; omega), List.take_of_length_le (by rw [rc_length, List.length_take]; omega)]
  · rw [show l.drop j = [] from List.drop_eq_nil_of_le (by omega)]
    show (rc (l.take j) ++ []).take (j * 11) = _
    rw [List.append_nil, List.take_of_length_le (by rw [rc_length, List.length_take]; omega)]
theorem rc_drop (l : List RRaw) (j : Nat) : (rc l).drop (j * 11) = rc (l.drop j) := by
  by_cases hj : j ≤ l.length
  · have h := rc_append (l.take j) (l.drop j)
    rw [List.take_append_drop] at h
    rw [h, List.drop_append_of_le_length (by rw [rc_length, List.length_take]; omega), List.drop_eq_nil_of_le (by rw [rc_length, List.length_take]; omega), List.nil_append]
  · rw [show l.drop j = [] from List.drop_eq_nil_of_le (by omega), List.drop_eq_nil_of_le (by rw [rc_length]; omega)]
    rfl
/-- The first ones; those behind. -/
theorem src_first {w : World} {A : Option Addr} {n : Nat} {rs : List RRaw} (h : Src w A n 11 (rc rs)) {j : Nat} (hj : j ≤ n) : Src w A j 11 (rc (rs.take j)) := by
  have hl : rs.length = n := by have := h.1; rw [rc_length] at this; omega
  refine ⟨by rw [rc_length, List.length_take]; omega, rc_one _, fun hm => ?_⟩
  obtain ⟨ad, e, hc⟩ := h.2.2 (by omega)
  refine ⟨ad, e, fun i u hu => hc i u ?_⟩
  rw [← rc_take, List.getElem?_take] at hu
  split at hu
  · exact hu
  · cases hu
theorem src_last {w : World} {A : Option Addr} {n : Nat} {rs : List RRaw} (h : Src w A n 11 (rc rs)) {j c : Nat} (hj : j ≤ n) (hc : n ≤ c) : Src w (if c = j then A else A.map fun x => x.add (j * 11)) (n - j) 11 (rc (rs.drop j)) := by
  have hl : rs.length = n := by have := h.1; rw [rc_length] at this; omega
  refine ⟨by rw [rc_length, List.length_drop]; omega, rc_one _, fun hm => ?_⟩
  obtain ⟨ad, e, hc'⟩ := h.2.2 (by omega)
  rw [if_neg (by omega), e]
  refine ⟨ad.add (j * 11), rfl, fun i u hu => ?_⟩
  rw [add_add]
  refine hc' _ u ?_
  rw [← rc_drop, List.getElem?_drop] at hu
  exact hu
end Go.Proofs.YtfhdoecackdflaaGreatDoor.ImO
