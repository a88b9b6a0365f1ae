/-
  Files looked up; sorted files are what they lkF up; what fits, fits at each step: pure.
-/
import Derived.Test.YtolkghdeppoanaaRfA
import Derived.Test.YtolkghdeppoanaaSfD
set_option linter.unusedVariables false
set_option linter.unusedSimpArgs false
namespace Go.Proofs.Ytolkghdeppoanaa.SfT
open Go.RowKit Go.Proofs.Ytolkghdeppoanaa.RkO Go.Proofs.Ytolkghdeppoanaa.RkC Go.Proofs.Ytolkghdeppoanaa.RkD Go.Proofs.Ytolkghdeppoanaa.RfA Go.Proofs.Ytolkghdeppoanaa.SfB Go.Proofs.Ytolkghdeppoanaa.SfD

/-! ## Files looked up -/
def lkF (l : List F) (n : ByteArray) : Option (List UInt8) := (l.find? fun f => decide (f.1 = n)).map (·.2)
theorem uniq {l : List F} (hs : SrtF l) {f g : F} (hf : f ∈ l) (hg : g ∈ l) (e : f.1 = g.1) : f = g := by
  induction hs with
  | nil => simp at hf
  | cons hx _ ih =>
    have hne : ∀ {a b : F}, cmpS a.1 b.1 < 0 → a.1 ≠ b.1 := fun h e => by
      rw [e, ordS.refl] at h
      exact absurd h (by decide)
    rcases List.mem_cons.1 hf with h1 | h1
    · rcases List.mem_cons.1 hg with h2 | h2
      · rw [h1, h2]
      · exact absurd e (by rw [h1]; exact hne (hx g h2))
    · rcases List.mem_cons.1 hg with h2 | h2
      · exact absurd e.symm (by rw [h2]; exact hne (hx f h1))
      · exact ih h1 h2
theorem look_iff {l : List F} (hs : SrtF l) {n : ByteArray} {d : List UInt8} : lkF l n = some d ↔ (n, d) ∈ l := by
  unfold lkF
  constructor
  · intro h
    cases hf : l.find? (fun f => decide (f.1 = n)) with
    | none => rw [hf] at h; cases h
    | some f =>
      rw [hf] at h
      have h1 := List.mem_of_find?_eq_some hf
      have h2 : f.1 = n := by simpa using List.find?_some hf
      have h3 : f.2 = d := by simpa using h
      rw [← h2, ← h3]
      exact h1
  · intro h
    cases hf : l.find? (fun f => decide (f.1 = n)) with
    | none => exact absurd (decide_eq_true rfl) (List.find?_eq_none.1 hf _ h)
    | some f =>
      have h1 := List.mem_of_find?_eq_some hf
      have h2 : f.1 = n := by simpa using List.find?_some hf
      rw [uniq hs h1 h h2]; rfl
theorem look_none {l : List F} {n : ByteArray} : lkF l n = none ↔ n ∉ l.map (·.1) := by
  unfold lkF
  rw [Option.map_eq_none_iff, List.find?_eq_none]
  constructor
  · intro h hm
    obtain ⟨f, hf, e⟩ := List.mem_map.1 hm
    exact h f hf (decide_eq_true e)
  · intro h f hf e
    exact h (List.mem_map.2 ⟨f, hf, of_decide_eq_true e⟩)
theorem sorted_ext : ∀ {a b : List F}, SrtF a → SrtF b → (∀ x, x ∈ a ↔ x ∈ b) → a = b
  | [], [], _, _, _ => rfl
  | [], y :: b, _, _, h => by have := (h y).2 (List.mem_cons_self ..); simp at this
  | x :: a, [], _, _, h => by have := (h x).1 (List.mem_cons_self ..); simp at this
  | x :: a, y :: b, ha, hb, h => by
    have ha' := List.pairwise_cons.1 ha
    have hb' := List.pairwise_cons.1 hb
    have hirr : ∀ f : F, ¬ cmpS f.1 f.1 < 0 := fun f h => by rw [ordS.refl] at h; exact absurd h (by decide)
    have hxy : x = y := by
      rcases List.mem_cons.1 ((h x).1 (List.mem_cons_self ..)) with e | e
      · exact e
      · rcases List.mem_cons.1 ((h y).2 (List.mem_cons_self ..)) with e2 | e2
        · exact e2.symm
        · exact absurd (ordS.trans _ _ _ (ha'.1 y e2) (hb'.1 x e)) (hirr x)
    subst hxy
    congr 1
    refine sorted_ext ha'.2 hb'.2 fun z => ⟨fun hz => ?_, fun hz => ?_⟩
    · rcases List.mem_cons.1 ((h z).1 (List.mem_cons_of_mem _ hz)) with e | e
      · exact absurd (ha'.1 z hz) (by rw [e]; exact hirr x)
      · exact e
    · rcases List.mem_cons.1 ((h z).2 (List.mem_cons_of_mem _ hz)) with e | e
      · exact absurd (hb'.1 z hz) (by rw [e]; exact hirr x)
      · exact e
theorem look_ext {a b : List F} (ha : SrtF a) (hb : SrtF b) (h : ∀ n, lkF a n = lkF b n) : a = b :=
  sorted_ext ha hb fun x => by
    obtain ⟨n, d⟩ := x
    rw [← look_iff ha, ← look_iff hb, h]
theorem mem_rp {n : ByteArray} {d : List UInt8} {x : F} : ∀ {l : List F} {dn : Bool}, x ∈ rp n d l dn ↔ (x ∈ l ∧ x.1 ≠ n) ∨ (dn = false ∧ x = (n, d))
  | [], dn => by cases dn <;> simp [rp]
  | f :: r, dn => by
    have ih := mem_rp (n := n) (d := d) (x := x) (l := r) (dn := dn || ge f.1 n)
    unfold rp
    rw [List.mem_append, List.mem_append, ih, List.mem_cons]
    by_cases hn : f.1 = n
    · have hg : ge f.1 n = true := by rw [hn]; exact ge_iff.2 (by rw [ordS.refl]; decide)
      rw [hg, decide_eq_true hn]
      cases dn
      · simp only [Bool.not_false, Bool.true_and, if_true, List.mem_singleton, List.not_mem_nil, false_or, Bool.or_true, reduceCtorEq, false_and, or_false, true_and]
        constructor
        · rintro (h | h)
          · exact .inr h
          · exact .inl ⟨.inr h.1, h.2⟩
        · rintro (⟨h | h, h2⟩ | h)
          · exact absurd (by rw [h]; exact hn) h2
          · exact .inr ⟨h, h2⟩
          · exact .inl h
      · simp only [Bool.not_true, Bool.false_and, Bool.false_eq_true, if_false, List.not_mem_nil, false_or, if_true, Bool.true_or, reduceCtorEq, false_and, or_false]
        constructor
        · rintro ⟨h, h2⟩; exact ⟨.inr h, h2⟩
        · rintro ⟨h | h, h2⟩
          · exact absurd (by rw [h]; exact hn) h2
          · exact ⟨h, h2⟩
    · rw [decide_eq_false hn]
      cases hg : ge f.1 n <;> cases dn <;> simp only [Bool.not_false, Bool.not_true, Bool.true_and, Bool.false_and, Bool.false_eq_true, if_true, if_false, List.mem_singleton, List.not_mem_nil, false_or, Bool.or_true, Bool.or_false, Bool.true_or, Bool.false_or, reduceCtorEq, false_and, or_false, true_and]
      · constructor
        · rintro (h | h | h)
          · exact .inl ⟨.inl h, by rw [h]; exact hn⟩
          · exact .inl ⟨.inr h.1, h.2⟩
          · exact .inr h
        · rintro (⟨h | h, h2⟩ | h)
          · exact .inl h
          · exact .inr (.inl ⟨h, h2⟩)
          · exact .inr (.inr h)
      · constructor
        · rintro (h | h)
          · exact ⟨.inl h, by rw [h]; exact hn⟩
          · exact ⟨.inr h.1, h.2⟩
        · rintro ⟨h | h, h2⟩
          · exact .inl h
          · exact .inr ⟨h, h2⟩
      · constructor
        · rintro (h | h | h)
          · exact .inr h
          · exact .inl ⟨.inl h, by rw [h]; exact hn⟩
          · exact .inl ⟨.inr h.1, h.2⟩
        · rintro (⟨h | h, h2⟩ | h)
          · exact .inr (.inl h)
          · exact .inr (.inr ⟨h, h2⟩)
          · exact .inl h
      · constructor
        · rintro (h | h)
          · exact ⟨.inl h, by rw [h]; exact hn⟩
          · exact ⟨.inr h.1, h.2⟩
        · rintro ⟨h | h, h2⟩
          · exact .inl h
          · exact .inr ⟨h, h2⟩
theorem mem_putF {n : ByteArray} {d : List UInt8} {l : List F} (hs : SrtF l) {x : F} : x ∈ putF n d l ↔ (x ∈ l ∧ x.1 ≠ n) ∨ x = (n, d) := by
  rw [← rp_put hs, mem_rp]; simp
theorem mem_cutF {n : ByteArray} {l : List F} (hs : SrtF l) {x : F} : x ∈ cutF n l ↔ x ∈ l ∧ x.1 ≠ n := by
  rw [← rc_cut hs]
  unfold rc
  rw [List.mem_filter]; simp
theorem look_put {n : ByteArray} {d : List UInt8} {l : List F} (hs : SrtF l) (m : ByteArray) : lkF (putF n d l) m = if m = n then some d else lkF l m := by
  have hp : SrtF (putF n d l) := srt_put ordS hs
  by_cases h : m = n
  · rw [if_pos h, look_iff hp, mem_putF hs, h]; exact .inr rfl
  · rw [if_neg h]
    cases hl : lkF l m with
    | some e => exact (look_iff hp).2 ((mem_putF hs).2 (.inl ⟨(look_iff hs).1 hl, h⟩))
    | none =>
      rw [look_none] at hl ⊢
      intro hm
      obtain ⟨f, hf, e⟩ := List.mem_map.1 hm
      rcases (mem_putF hs).1 hf with h1 | h1
      · exact hl (List.mem_map.2 ⟨f, h1.1, e⟩)
      · rw [h1] at e; exact h e.symm
theorem look_cut {n : ByteArray} {l : List F} (hs : SrtF l) (m : ByteArray) : lkF (cutF n l) m = if m = n then none else lkF l m := by
  have hp : SrtF (cutF n l) := srt_cut hs
  by_cases h : m = n
  · rw [if_pos h, look_none]
    intro hm
    obtain ⟨f, hf, e⟩ := List.mem_map.1 hm
    exact ((mem_cutF hs).1 hf).2 (e.trans h)
  · rw [if_neg h]
    cases hl : lkF l m with
    | some e => exact (look_iff hp).2 ((mem_cutF hs).2 ⟨(look_iff hs).1 hl, h⟩)
    | none =>
      rw [look_none] at hl ⊢
      intro hm
      obtain ⟨f, hf, e⟩ := List.mem_map.1 hm
      exact hl (List.mem_map.2 ⟨f, ((mem_cutF hs).1 hf).1, e⟩)
theorem hit_look {n : ByteArray} {l : List F} (hs : SrtF l) : hitF n l = (lkF l n).isSome := by
  cases h : hitF n l with
  | true =>
    obtain ⟨d, hv⟩ := (hit_iff ordS).1 h
    rw [(look_iff hs).2 (List.mem_of_getElem? hv)]; rfl
  | false =>
    cases hl : lkF l n with
    | none => rfl
    | some d =>
      obtain ⟨j, hj⟩ := List.mem_iff_getElem?.1 ((look_iff hs).1 hl)
      have := (at_hit hs hj rfl).1
      rw [h] at this
      cases this
theorem cut_miss {n : ByteArray} {l : List F} (h : hitF n l = false) : cutF n l = l := by unfold cutF cut; rw [show hit cmpS n l = false from h]; rfl
theorem rd_look {s : St} (hs : SrtF s.files) (n : ByteArray) : rdF s n = if s.down then none else lkF s.files n := by
  unfold rdF
  cases s.down with
  | true => rfl
  | false =>
    simp only [Bool.false_eq_true, if_false]
    cases hl : lkF s.files n with
    | some d =>
      obtain ⟨j, hj⟩ := List.mem_iff_getElem?.1 ((look_iff hs).1 hl)
      have := (at_hit hs hj rfl).2
      rw [show lo cmpS (n, d).1 s.files = lo cmpS n s.files from rfl] at this
      rw [this, hj]
      simp
    | none =>
      rw [look_none] at hl
      cases hg : s.files[lo cmpS n s.files]? with
      | none => rfl
      | some f => simp only []; rw [if_neg fun e => hl (List.mem_map.2 ⟨f, List.mem_of_getElem? hg, e⟩)]
theorem srt_done {l : List F} (hs : SrtF l) (c : Ch) : SrtF (doneC l c) := by
  unfold doneC
  split
  · exact srt_cut hs
  · exact srt_put ordS hs
theorem look_done {l : List F} (hs : SrtF l) (c : Ch) (m : ByteArray) : lkF (doneC l c) m = if m = c.name then (if c.cut then none else some c.data) else lkF l m := by
  unfold doneC
  cases c.cut with
  | true => simp only [if_true]; exact look_cut hs m
  | false => simp only [Bool.false_eq_true, if_false]; exact look_put hs m
/-- All done, in order. -/
def dall (l : List F) (cs : List Ch) : List F := cs.foldl doneC l
theorem srt_dall : ∀ {cs : List Ch} {l : List F}, SrtF l → SrtF (dall l cs)
  | [], _, h => h
  | c :: r, l, h => srt_dall (cs := r) (srt_done h c)
theorem look_dall_no : ∀ {cs : List Ch} {l : List F}, SrtF l → ∀ {m : ByteArray}, m ∉ cs.map (·.name) → lkF (dall l cs) m = lkF l m
  | [], _, _, _, _ => rfl
  | c :: r, l, hs, m, h => by
    rw [List.map_cons, List.mem_cons] at h
    have := look_dall_no (cs := r) (srt_done hs c) (m := m) fun hm => h (.inr hm)
    show lkF (dall (doneC l c) r) m = _
    rw [this, look_done hs, if_neg fun e => h (.inl e)]
theorem look_dall_in : ∀ {cs : List Ch} {l : List F}, SrtF l → (cs.map (·.name)).Nodup → ∀ {c : Ch}, c ∈ cs → lkF (dall l cs) c.name = if c.cut then none else some c.data
  | c0 :: r, l, hs, hn, c, hc => by
    rw [List.map_cons, List.nodup_cons] at hn
    show lkF (dall (doneC l c0) r) c.name = _
    rcases List.mem_cons.1 hc with rfl | hc
    · rw [look_dall_no (srt_done hs c) hn.1, look_done hs, if_pos rfl]
    · exact look_dall_in (cs := r) (srt_done hs c0) hn.2 hc
/-! ## What fits -/
def Cov (G : List (ByteArray × Nat)) (n : ByteArray) (v : Nat) : Prop := ∃ p ∈ G, p.1 = n ∧ v ≤ p.2
theorem cov_new (n : ByteArray) (c : Nat) : ∀ G, Cov (mxu n c G) n c
  | [] => ⟨(n, c), by simp [mxu], rfl, Nat.le_refl _⟩
  | q :: r => by
    unfold mxu
    split
    · exact ⟨_, List.mem_cons_self .., rfl, Nat.le_max_right _ _⟩
    · obtain ⟨p, h1, h2⟩ := cov_new n c r
      exact ⟨p, List.mem_cons_of_mem _ h1, h2⟩
theorem cov_old {n m : ByteArray} {c v : Nat} : ∀ {G}, Cov G m v → Cov (mxu n c G) m v
  | q :: r, ⟨p, h1, h2, h3⟩ => by
    unfold mxu
    split
    · rename_i e
      rcases List.mem_cons.1 h1 with rfl | h1
      · exact ⟨_, List.mem_cons_self .., by rw [← h2, e], Nat.le_trans h3 (Nat.le_max_left _ _)⟩
      · exact ⟨p, List.mem_cons_of_mem _ h1, h2, h3⟩
    · rcases List.mem_cons.1 h1 with rfl | h1
      · exact ⟨_, List.mem_cons_self .., h2, h3⟩
      · obtain ⟨p', h4, h5⟩ := cov_old (G := r) (n := n) (c := c) ⟨p, h1, h2, h3⟩
        exact ⟨p', List.mem_cons_of_mem _ h4, h5⟩
theorem cov_gr1 : ∀ {l : List F} {G}, (∀ {m v}, Cov G m v → Cov (gr1 l G) m v) ∧ ∀ f ∈ l, Cov (gr1 l G) f.1 (cst f.1 f.2)
  | [], G => ⟨fun h => h, fun f hf => by simp at hf⟩
  | f :: r, G => by
    obtain ⟨h1, h2⟩ := cov_gr1 (l := r) (G := mxu f.1 (cst f.1 f.2) G)
    refine ⟨fun h => h1 (cov_old h), fun g hg => ?_⟩
    rcases List.mem_cons.1 hg with rfl | hg
    · exact h1 (cov_new _ _ _)
    · exact h2 g hg
theorem cov_gr2 : ∀ {l : List Ch} {G}, (∀ {m v}, Cov G m v → Cov (gr2 l G) m v) ∧ ∀ c ∈ l, c.cut = false → Cov (gr2 l G) c.name (cst c.name c.data)
  | [], G => ⟨fun h => h, fun f hf => by simp at hf⟩
  | f :: r, G => by
    obtain ⟨h1, h2⟩ := cov_gr2 (l := r) (G := if f.cut then G else mxu f.name (cst f.name f.data) G)
    refine ⟨fun h => h1 (by split; exact h; exact cov_old h), fun g hg hc => ?_⟩
    rcases List.mem_cons.1 hg with rfl | hg
    · exact h1 (by rw [hc]; exact cov_new _ _ _)
    · exact h2 g hg hc
theorem costs_flt {n : ByteArray} {c : Nat} : ∀ {X : List F}, (X.map (·.1)).Nodup → (∀ f ∈ X, f.1 = n → cst f.1 f.2 ≤ c) → costs X ≤ c + costs (X.filter fun f => !decide (f.1 = n)) ∧ X.length ≤ 1 + (X.filter fun f => !decide (f.1 = n)).length
  | [], _, _ => by simp [costs]
  | f :: r, hn, h => by
    rw [List.map_cons, List.nodup_cons] at hn
    by_cases e : f.1 = n
    · have hr : r.filter (fun f => !decide (f.1 = n)) = r := List.filter_eq_self.2 fun g hg => by simpa using fun e2 => hn.1 (by rw [e, ← e2]; exact List.mem_map.2 ⟨g, hg, rfl⟩)
      have h1 := h f (List.mem_cons_self ..) e
      rw [List.filter_cons_of_neg (by simpa using e), hr]
      unfold cst at h1
      refine ⟨?_, by rw [List.length_cons]; omega⟩
      simp only [costs, List.map_cons, List.sum_cons]
      omega
    · obtain ⟨h1, h2⟩ := costs_flt (X := r) hn.2 (fun g hg => h g (List.mem_cons_of_mem _ hg))
      rw [List.filter_cons_of_pos (by simpa using e)]
      refine ⟨?_, by rw [List.length_cons, List.length_cons]; omega⟩
      simp only [costs, List.map_cons, List.sum_cons] at h1 ⊢
      omega
theorem cov_sum : ∀ {G : List (ByteArray × Nat)} {X : List F}, (X.map (·.1)).Nodup → (∀ f ∈ X, Cov G f.1 (cst f.1 f.2)) → (G.map (·.1)).Nodup → costs X ≤ sum2 G ∧ X.length ≤ G.length
  | [], X, _, h, _ => by
    cases X with
    | nil => simp [costs, sum2]
    | cons f r => obtain ⟨p, hp, _⟩ := h f (List.mem_cons_self ..); simp at hp
  | q :: r, X, hn, h, hg => by
    rw [List.map_cons, List.nodup_cons] at hg
    obtain ⟨h1, h2⟩ := costs_flt (n := q.1) (c := q.2) hn fun f hf e => by
      obtain ⟨p, hp, e1, e2⟩ := h f hf
      rcases List.mem_cons.1 hp with rfl | hp
      · exact e2
      · exact absurd (List.mem_map.2 ⟨p, hp, e1.trans e⟩) hg.1
    have hsub : ((X.filter fun f => !decide (f.1 = q.1)).map (·.1)).Nodup := List.Nodup.sublist (List.Sublist.map _ List.filter_sublist) hn
    obtain ⟨h3, h4⟩ := cov_sum (G := r) hsub (fun f hf => by
      obtain ⟨hf1, hf2⟩ := List.mem_filter.1 hf
      obtain ⟨p, hp, e1, e2⟩ := h f hf1
      rcases List.mem_cons.1 hp with rfl | hp
      · exact absurd e1.symm (by simpa using hf2)
      · exact ⟨p, hp, e1, e2⟩) hg.2
    refine ⟨?_, by rw [List.length_cons]; omega⟩
    simp only [sum2, List.map_cons, List.sum_cons] at h3 ⊢
    omega
theorem srt_nodup {l : List F} (hs : SrtF l) : (l.map (·.1)).Nodup := by
  rw [List.nodup_iff_pairwise_ne, List.pairwise_map]
  exact hs.imp fun h e => by rw [e, ordS.refl] at h; exact absurd h (by decide)
end Go.Proofs.Ytolkghdeppoanaa.SfT
