/-
  What a commit, and an opening anew, come to, wherever the power goes, whatever stays: pure.
-/
import Derived.Test.YtolkghdeppoanaaSfT
import Derived.Test.YtolkghdeppoanaaSfP
set_option linter.unusedVariables false
set_option linter.unusedSimpArgs false
namespace Go.Proofs.Ytolkghdeppoanaa.SfU
open Go.RowKit Go.Proofs.Ytolkghdeppoanaa.RkO Go.Proofs.Ytolkghdeppoanaa.RkC Go.Proofs.Ytolkghdeppoanaa.RkD Go.Proofs.Ytolkghdeppoanaa.SfB Go.Proofs.Ytolkghdeppoanaa.SfD Go.Proofs.Ytolkghdeppoanaa.SfG Go.Proofs.Ytolkghdeppoanaa.SfT Go.Proofs.Ytolkghdeppoanaa.SfO Go.Proofs.Ytolkghdeppoanaa.SfP

theorem gr1_nd : ∀ {l : List F} {G : Gr}, Nd G → Nd (gr1 l G)
  | [], _, h => h
  | f :: r, _, h => gr1_nd (l := r) (h.mxu (n := f.1) (c := cst f.1 f.2))
theorem gr2_nd : ∀ {l : List Ch} {G : Gr}, Nd G → Nd (gr2 l G)
  | [], _, h => h
  | c :: r, G, h => by
    have e : gr2 (c :: r) G = gr2 r (if c.cut then G else mxu c.name (cst c.name c.data) G) := rfl
    rw [e]
    refine gr2_nd (l := r) ?_
    split
    · exact h
    · exact h.mxu
/-- Changes l that fit where files A are. -/
structure Cx (A : List F) (l : List Ch) (R : Nat) : Prop where
  srt : SrtF A
  noR : lkF A nR = none
  may : mayL l = true
  len : (bsL l).length ≤ 200000
  num : (gr2 l (mxu nR (cst nR (bsL l)) (gr1 A []))).length ≤ 40
  sum : sum2 (gr2 l (mxu nR (cst nR (bsL l)) (gr1 A []))) ≤ R
/-- Some of l done on A, with the redo. -/
structure Mid (A : List F) (l : List Ch) (X : List F) : Prop where
  srt : SrtF X
  redo : lkF X nR = some (bsL l)
  rest : ∀ m, m ≠ nR → lkF X m = lkF A m ∨ lkF X m = lkF (dall A l) m
section
variable {A X : List F} {l : List Ch} {R : Nat} {s : St}
theorem Cx.ch (C : Cx A l R) {c : Ch} (hc : c ∈ l) : okN c.name = true ∧ c.name ≠ nR ∧ c.data.length ≤ 200000 := by
  have h := C.may
  unfold mayL at h
  rw [Bool.and_eq_true] at h
  have h1 := List.all_eq_true.1 h.1 c hc
  unfold chBad at h1
  simp only [Bool.not_eq_true', Bool.or_eq_false_iff, decide_eq_false_iff_not] at h1
  obtain ⟨h2, h3, h4, h5⟩ := h1
  exact ⟨decide_eq_true ⟨by omega, by omega⟩, h2, by omega⟩
theorem Cx.nod (C : Cx A l R) : (l.map (·.name)).Nodup := by
  have h := C.may
  unfold mayL at h
  rw [Bool.and_eq_true] at h
  exact of_decide_eq_true h.2
theorem Cx.nR_no (C : Cx A l R) : nR ∉ l.map (·.name) := fun hm => by
  obtain ⟨c, hc, e⟩ := List.mem_map.1 hm
  exact (C.ch hc).2.1 e
theorem Mid.fit (C : Cx A l R) (h : Mid A l X) : costs X ≤ R ∧ X.length ≤ 40 := by
  have hcov : ∀ f ∈ X, Cov (gr2 l (mxu nR (cst nR (bsL l)) (gr1 A []))) f.1 (cst f.1 f.2) := by
    intro f hf
    have hl : lkF X f.1 = some f.2 := (look_iff h.srt).2 hf
    have hA : lkF A f.1 = some f.2 → Cov (gr2 l (mxu nR (cst nR (bsL l)) (gr1 A []))) f.1 (cst f.1 f.2) := fun ha => cov_gr2.1 (cov_old (cov_gr1.2 f ((look_iff C.srt).1 ha)))
    by_cases hn : f.1 = nR
    · have : f.2 = bsL l := by
        rw [hn, h.redo] at hl
        exact (Option.some.inj hl).symm
      rw [this, hn]
      exact cov_gr2.1 (cov_new _ _ _)
    · rcases h.rest f.1 hn with e | e
      · exact hA (e ▸ hl)
      · by_cases hm : f.1 ∈ l.map (·.name)
        · obtain ⟨c, hc, e2⟩ := List.mem_map.1 hm
          have h2 := look_dall_in C.srt C.nod hc
          rw [e2, ← e, hl] at h2
          cases hcut : c.cut with
          | true => rw [hcut] at h2; cases h2
          | false =>
            rw [hcut] at h2
            have h3 : f.2 = c.data := by simpa using h2
            rw [← e2, h3]
            exact cov_gr2.2 c hc hcut
        · rw [look_dall_no C.srt hm] at e
          exact hA (e ▸ hl)
  have := cov_sum (srt_nodup h.srt) hcov (gr2_nd ((gr1_nd (show Nd [] from List.Pairwise.nil)).mxu))
  exact ⟨Nat.le_trans this.1 C.sum, Nat.le_trans this.2 C.num⟩
theorem Mid.done (C : Cx A l R) (h : Mid A l X) {c : Ch} (hc : c ∈ l) : Mid A l (doneC X c) := by
  refine ⟨srt_done h.srt c, ?_, fun m hm => ?_⟩
  · rw [look_done h.srt, if_neg fun e => (C.ch hc).2.1 e.symm]; exact h.redo
  · rw [look_done h.srt]
    by_cases e : m = c.name
    · rw [if_pos e]
      right
      rw [e, look_dall_in C.srt C.nod hc]
    · rw [if_neg e]; exact h.rest m hm
theorem Mid.start (C : Cx A l R) : Mid A l (putF nR (bsL l) A) :=
  ⟨srt_put ordS C.srt, by rw [look_put C.srt, if_pos rfl], fun m hm => .inl (by rw [look_put C.srt, if_neg hm])⟩
/-- The redo is sure: what is sure, and what one reads, is somewhere between. -/
structure Ph (A : List F) (l : List Ch) (R : Nat) (s : St) : Prop where
  room : s.room = R
  sure : Mid A l s.sure
  files : Mid A l s.files
  loose : ∀ x ∈ s.loose, ∃ c ∈ l, ∀ Y, doneC Y x = doneC Y c
/-- All is sure: files D. -/
structure Cl (D : List F) (R : Nat) (s : St) : Prop where
  room : s.room = R
  sure : s.sure = D
  files : s.files = D
  loose : s.loose = []
  down : s.down = false
theorem go_none (c : Ch) (nx : List F) (h : s.fuse = some 0) : goE s = 5 ∧ goS s c nx = { s with down := true } := ⟨if_pos h, if_pos h⟩
theorem go_some (c : Ch) (nx : List F) (h : ¬ s.fuse = some 0) : goE s = 0 ∧ goS s c nx = { s with files := nx, loose := s.loose ++ [c], writes := s.writes + 1, fuse := s.fuse.map (· - 1) } := ⟨if_neg h, if_neg h⟩
theorem full_no (h : costs X ≤ R ∧ X.length ≤ 40) (hr : s.room = R) {n : ByteArray} {d : List UInt8} (hx : putF n d s.files = X) : wrFull s n d = false := by
  unfold wrFull
  rw [hx, decide_eq_false (by omega), decide_eq_false (by omega)]; rfl
theorem wr_bad {n : ByteArray} {d : List UInt8} (h1 : okN n = true) (h2 : d.length ≤ 200000) : wrBad n d = false := by
  unfold wrBad
  rw [h1, decide_eq_false (by omega)]; rfl
theorem ph_do (C : Cx A l R) (h : Ph A l R s) (hd : s.down = false) {c : Ch} (hc : c ∈ l) :
    (doE s c = 5 ∧ Ph A l R (doS s c) ∧ (doS s c).down = true ∧ s.fuse ≠ none) ∨
    (doE s c = 0 ∧ Ph A l R (doS s c) ∧ (doS s c).down = false ∧ (doS s c).files = doneC s.files c ∧ (s.fuse = none → (doS s c).fuse = none)) := by
  obtain ⟨hok, hne, hdl⟩ := C.ch hc
  have hM := h.files.done C hc
  have hfit := hM.fit C
  have hnd : ¬ s.down = true := by rw [hd]; decide
  cases hcut : c.cut with
  | true =>
    have hdn : ∀ Y, doneC Y c = cutF c.name Y := fun Y => by unfold doneC; rw [hcut]; rfl
    cases hh : hitF c.name s.files with
    | false =>
      have e1 : doE s c = 0 := by unfold doE; rw [hcut, hh]; rfl
      have e2 : doS s c = s := by unfold doS; rw [hcut, hh]; rfl
      rw [e1, e2]
      exact .inr ⟨rfl, h, hd, by rw [hdn, cut_miss hh], fun h => h⟩
    | true =>
      have e1 : doE s c = goE s := by unfold doE; rw [hcut, hh]; unfold ctE; rw [hok, hd, hh]; rfl
      have e2 : doS s c = goS s ⟨c.name, true, []⟩ (cutF c.name s.files) := by unfold doS; rw [hcut, hh]; unfold ctS; rw [hok, hd, hh]; rfl
      rw [e1, e2]
      by_cases hf : s.fuse = some 0
      · obtain ⟨g1, g2⟩ := go_none ⟨c.name, true, []⟩ (cutF c.name s.files) hf
        rw [g1, g2]
        exact .inl ⟨rfl, ⟨h.room, h.sure, h.files, h.loose⟩, rfl, by rw [hf]; simp⟩
      · obtain ⟨g1, g2⟩ := go_some ⟨c.name, true, []⟩ (cutF c.name s.files) hf
        rw [g1, g2]
        refine .inr ⟨rfl, ⟨h.room, h.sure, by rw [← hdn]; exact hM, fun x hx => ?_⟩, hd, (hdn _).symm, fun h0 => by show s.fuse.map _ = none; rw [h0]; rfl⟩
        rcases List.mem_append.1 hx with hx | hx
        · exact h.loose x hx
        · obtain rfl := List.mem_singleton.1 hx
          exact ⟨c, hc, fun Y => by rw [hdn]; rfl⟩
  | false =>
    have hdn : ∀ Y, doneC Y c = putF c.name c.data Y := fun Y => by unfold doneC; rw [hcut]; rfl
    have hb := wr_bad hok hdl
    have hfull := full_no hfit h.room (hdn s.files).symm
    have e1 : doE s c = goE s := by unfold doE; rw [hcut]; unfold wrE; rw [hb, hd, hfull]; rfl
    have e2 : doS s c = goS s ⟨c.name, false, c.data⟩ (putF c.name c.data s.files) := by unfold doS; rw [hcut]; unfold wrS; rw [hb, hd, hfull]; rfl
    rw [e1, e2]
    by_cases hf : s.fuse = some 0
    · obtain ⟨g1, g2⟩ := go_none ⟨c.name, false, c.data⟩ (putF c.name c.data s.files) hf
      rw [g1, g2]
      exact .inl ⟨rfl, ⟨h.room, h.sure, h.files, h.loose⟩, rfl, by rw [hf]; simp⟩
    · obtain ⟨g1, g2⟩ := go_some ⟨c.name, false, c.data⟩ (putF c.name c.data s.files) hf
      rw [g1, g2]
      refine .inr ⟨rfl, ⟨h.room, h.sure, by rw [← hdn]; exact hM, fun x hx => ?_⟩, hd, (hdn _).symm, fun h0 => by show s.fuse.map _ = none; rw [h0]; rfl⟩
      rcases List.mem_append.1 hx with hx | hx
      · exact h.loose x hx
      · obtain rfl := List.mem_singleton.1 hx
        exact ⟨c, hc, fun Y => by rw [hdn]; rfl⟩
theorem ph_dos (C : Cx A l R) : ∀ {r : List Ch} {s : St}, (∀ c ∈ r, c ∈ l) → Ph A l R s → s.down = false →
    (dosE s r = 5 ∧ Ph A l R (dosS s r) ∧ (dosS s r).down = true ∧ s.fuse ≠ none) ∨
    (dosE s r = 0 ∧ Ph A l R (dosS s r) ∧ (dosS s r).down = false ∧ (dosS s r).files = dall s.files r ∧ (s.fuse = none → (dosS s r).fuse = none))
  | [], s, _, h, hd => .inr ⟨rfl, h, hd, rfl, fun h => h⟩
  | c :: r, s, hr, h, hd => by
    unfold dosE dosS
    rcases ph_do C h hd (hr c (List.mem_cons_self ..)) with ⟨e, h1, h2, h3⟩ | ⟨e, h1, h2, h3, h4⟩
    · rw [e]
      exact .inl ⟨rfl, h1, h2, h3⟩
    · rw [e]
      simp only [ne_eq, not_true_eq_false, if_false]
      rcases ph_dos C (r := r) (fun x hx => hr x (List.mem_cons_of_mem _ hx)) h1 h2 with ⟨k1, k2, k3, k4⟩ | ⟨k1, k2, k3, k4, k5⟩
      · exact .inl ⟨k1, k2, k3, fun h0 => k4 (h4 h0)⟩
      · exact .inr ⟨k1, k2, k3, by rw [k4, h3]; rfl, fun h0 => k5 (h4 h0)⟩
/-- All done on what is between: that is all done, with the redo. -/
theorem mid_all (C : Cx A l R) (h : Mid A l X) : dall X l = putF nR (bsL l) (dall A l) := by
  have hsA := srt_dall (cs := l) C.srt
  refine look_ext (srt_dall h.srt) (srt_put ordS hsA) fun m => ?_
  rw [look_put hsA]
  by_cases e : m = nR
  · rw [if_pos e, e, look_dall_no h.srt C.nR_no]; exact h.redo
  · rw [if_neg e]
    by_cases hm : m ∈ l.map (·.name)
    · obtain ⟨c, hc, rfl⟩ := List.mem_map.1 hm
      rw [look_dall_in h.srt C.nod hc, look_dall_in C.srt C.nod hc]
    · rw [look_dall_no h.srt hm, look_dall_no C.srt hm]
      rcases h.rest m e with e2 | e2
      · exact e2
      · rw [e2, look_dall_no C.srt hm]
theorem cut_back {D : List F} {b : List UInt8} (hs : SrtF D) (hn : lkF D nR = none) : cutF nR (putF nR b D) = D := by
  have hp : SrtF (putF nR b D) := srt_put ordS hs
  refine look_ext (srt_cut hp) hs fun m => ?_
  rw [look_cut hp, look_put hs]
  by_cases e : m = nR
  · rw [if_pos e, e, hn]
  · rw [if_neg e, if_neg e]
theorem ph_fin (C : Cx A l R) (h : Ph A l R s) (hd : s.down = false) :
    (finE s l = 5 ∧ Ph A l R (finS s l) ∧ (finS s l).down = true ∧ s.fuse ≠ none) ∨ (finE s l = 0 ∧ Cl (dall A l) R (finS s l) ∧ (s.fuse = none → (finS s l).fuse = none)) := by
  have hDn : lkF (dall A l) nR = none := by rw [look_dall_no C.srt C.nR_no]; exact C.noR
  have hDs : SrtF (dall A l) := srt_dall C.srt
  unfold finE finS
  rcases ph_dos C (fun c hc => hc) h hd with ⟨k1, k2, k3, k4⟩ | ⟨k1, k2, k3, k4, k5⟩
  · rw [k1]
    exact .inl ⟨rfl, k2, k3, k4⟩
  · rw [k1]
    simp only [ne_eq, not_true_eq_false, if_false]
    rw [mid_all C h.files] at k4
    obtain ⟨s1, hs1⟩ : ∃ s1, s1 = dosS s l := ⟨_, rfl⟩
    rw [← hs1] at k2 k3 k4 k5 ⊢
    have f1 : flE s1 = 0 := by unfold flE; rw [k3]; rfl
    have f2 : flS s1 = { s1 with sure := s1.files, loose := [] } := by unfold flS; rw [k3]; rfl
    have hh : hitF nR s1.files = true := by rw [hit_look k2.files.srt, k2.files.redo]; rfl
    have c1 : ctE (flS s1) nR = goE (flS s1) := by
      unfold ctE
      rw [f2, okR]
      show (if (!true) = true then _ else if s1.down = true then _ else if (!hitF nR s1.files) = true then _ else _) = _
      rw [k3, hh]; rfl
    have c2 : ctS (flS s1) nR = goS (flS s1) ⟨nR, true, []⟩ (cutF nR s1.files) := by
      unfold ctS
      rw [f2, okR]
      show (if (!true) = true then _ else if s1.down = true then _ else if (!hitF nR s1.files) = true then _ else _) = _
      rw [k3, hh]; rfl
    have hcb : cutF nR s1.files = dall A l := by rw [k4]; exact cut_back hDs hDn
    unfold endE endS
    rw [f1, c1, c2]
    simp only [ne_eq, not_true_eq_false, if_false]
    have hfu : (flS s1).fuse = s1.fuse := by rw [f2]
    by_cases hf : s1.fuse = some 0
    · obtain ⟨g1, g2⟩ := go_none (s := flS s1) ⟨nR, true, []⟩ (cutF nR s1.files) (by rw [hfu]; exact hf)
      rw [g1, g2, f2]
      exact .inl ⟨rfl, ⟨k2.room, k2.files, k2.files, fun x hx => by simp at hx⟩, rfl, fun h0 => by rw [k5 h0] at hf; cases hf⟩
    · obtain ⟨g1, g2⟩ := go_some (s := flS s1) ⟨nR, true, []⟩ (cutF nR s1.files) (by rw [hfu]; exact hf)
      rw [g1, g2, f2, hcb]
      simp only [not_true_eq_false, if_false]
      refine .inr ?_
      have e1 : flE ({ s1 with sure := s1.files, files := dall A l, loose := [] ++ [⟨nR, true, []⟩], writes := s1.writes + 1, fuse := s1.fuse.map (· - 1) } : St) = 0 := by unfold flE; simp only [k3]; rfl
      have e2 : flS ({ s1 with sure := s1.files, files := dall A l, loose := [] ++ [⟨nR, true, []⟩], writes := s1.writes + 1, fuse := s1.fuse.map (· - 1) } : St) = { s1 with sure := dall A l, files := dall A l, loose := [], writes := s1.writes + 1, fuse := s1.fuse.map (· - 1) } := by unfold flS; simp only [k3]; rfl
      refine ⟨e1, ?_, fun h0 => ?_⟩
      · rw [e2]
        exact ⟨k2.room, rfl, rfl, rfl, k3⟩
      · rw [e2]
        show s1.fuse.map _ = none
        rw [k5 h0]; rfl
end
end Go.Proofs.Ytolkghdeppoanaa.SfU
