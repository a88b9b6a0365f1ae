/-
  A commit, a crash, an opening anew, as a whole: pure.
-/
import Derived.Test.YtolkghdeppoanaaSfU
set_option linter.unusedVariables false
set_option linter.unusedSimpArgs false
namespace Go.Proofs.Ytolkghdeppoanaa.SfV
open Go.RowKit Go.Proofs.Ytolkghdeppoanaa.RkO Go.Proofs.Ytolkghdeppoanaa.RkC Go.Proofs.Ytolkghdeppoanaa.RkD Go.Proofs.Ytolkghdeppoanaa.SfB Go.Proofs.Ytolkghdeppoanaa.SfD Go.Proofs.Ytolkghdeppoanaa.SfG Go.Proofs.Ytolkghdeppoanaa.SfT Go.Proofs.Ytolkghdeppoanaa.SfO Go.Proofs.Ytolkghdeppoanaa.SfP Go.Proofs.Ytolkghdeppoanaa.SfU

section
variable {A D X : List F} {l : List Ch} {R : Nat} {s : St}
theorem cr_mid (C : Cx A l R) {ps : List UInt8} : ∀ {cs : List Ch} {i : Nat} {X : List F}, Mid A l X → (∀ x ∈ cs, ∃ c ∈ l, ∀ Y, doneC Y x = doneC Y c) → Mid A l (cr ps cs i X)
  | [], _, _, h, _ => h
  | x :: r, i, X, h, hc => by
    unfold cr
    refine cr_mid C (cs := r) ?_ fun y hy => hc y (List.mem_cons_of_mem _ hy)
    split
    · obtain ⟨c, hcl, e⟩ := hc x (List.mem_cons_self ..)
      rw [e]
      exact h.done C hcl
    · exact h
theorem ph_crash (C : Cx A l R) (h : Ph A l R s) (ps : List UInt8) : Ph A l R (crS s ps) ∧ (crS s ps).down = false ∧ (crS s ps).fuse = none :=
  ⟨⟨h.room, cr_mid C h.sure h.loose, cr_mid C h.sure h.loose, fun x hx => by simp [crS] at hx⟩, rfl, rfl⟩
theorem cl_crash (h : Cl D R s) (ps : List UInt8) : Cl D R (crS s ps) ∧ (crS s ps).fuse = none := by
  have e : cr ps s.loose 0 s.sure = D := by rw [h.loose, h.sure]; rfl
  exact ⟨⟨h.room, e, e, rfl, rfl⟩, rfl⟩
/-- Nothing was written yet: a crash leaves what was sure. -/
theorem no_crash (h : s.room = R ∧ s.sure = D ∧ s.loose = []) (ps : List UInt8) : Cl D R (crS s ps) ∧ (crS s ps).fuse = none := by
  have e : cr ps s.loose 0 s.sure = D := by rw [h.2.2, h.2.1]; rfl
  exact ⟨⟨h.1, e, e, rfl, rfl⟩, rfl⟩
theorem Cl.fu (h : Cl D R s) (f : Option Nat) : Cl D R (fuS s f) := ⟨h.room, h.sure, h.files, h.loose, h.down⟩
theorem Ph.fu (h : Ph A l R s) (f : Option Nat) : Ph A l R (fuS s f) := ⟨h.room, h.sure, h.files, h.loose⟩
/-- Files of which none is the redo. -/
structure Fk (D : List F) : Prop where
  srt : SrtF D
  noR : lkF D nR = none
theorem Fk.nil : Fk [] := ⟨List.Pairwise.nil, rfl⟩
theorem cx_of (h : Cl A R s) (k : Fk A) (hf : fitE s l = 0) : Cx A l R := by
  unfold fitE at hf
  rw [h.down] at hf
  simp only [Bool.false_eq_true, if_false] at hf
  split at hf
  · cases hf
  · rename_i h1
    split at hf
    · cases hf
    · rename_i h2
      split at hf
      · cases hf
      · rename_i h3
        unfold grt at h3
        rw [h.files, h.room] at h3
        exact ⟨k.srt, k.noR, by simpa using h1, by omega, by omega, by omega⟩
theorem Cx.all (C : Cx A l R) : Fk (dall A l) := ⟨srt_dall C.srt, by rw [look_dall_no C.srt C.nR_no]; exact C.noR⟩
theorem com_bad (hf : fitE s l ≠ 0) : comE s l = fitE s l ∧ comS s l = s := by
  unfold comE comS
  rw [if_pos hf, if_pos hf]; exact ⟨rfl, rfl⟩
theorem com_any (h : Cl A R s) (k : Fk A) (hf : fitE s l = 0) :
    (comE s l = 0 ∧ Cl (dall A l) R (comS s l) ∧ (s.fuse = none → (comS s l).fuse = none)) ∨
    (comE s l = 5 ∧ s.fuse ≠ none ∧ (Ph A l R (comS s l) ∨ (comS s l).room = R ∧ (comS s l).sure = A ∧ (comS s l).loose = [])) := by
  have C := cx_of h k hf
  unfold comE comS
  rw [hf]
  simp only [ne_eq, not_true_eq_false, if_false]
  by_cases hl : l.length = 0
  · rw [if_pos hl, if_pos hl]
    obtain rfl : l = [] := List.eq_nil_of_length_eq_zero hl
    exact .inl ⟨rfl, h, fun h => h⟩
  rw [if_neg hl, if_neg hl]
  have hM := Mid.start C
  have hfit := hM.fit C
  have hb := wr_bad okR C.len
  have hfull := full_no hfit h.room (n := nR) (d := bsL l) (by rw [h.files])
  have e1 : wrE s nR (bsL l) = goE s := by unfold wrE; rw [hb, h.down, hfull]; rfl
  have e2 : wrS s nR (bsL l) = goS s ⟨nR, false, bsL l⟩ (putF nR (bsL l) s.files) := by unfold wrS; rw [hb, h.down, hfull]; rfl
  rw [e1, e2]
  by_cases hfu : s.fuse = some 0
  · obtain ⟨g1, g2⟩ := go_none ⟨nR, false, bsL l⟩ (putF nR (bsL l) s.files) hfu
    rw [g1, g2]
    exact .inr ⟨rfl, by rw [hfu]; simp, .inr ⟨h.room, h.sure, h.loose⟩⟩
  · obtain ⟨g1, g2⟩ := go_some ⟨nR, false, bsL l⟩ (putF nR (bsL l) s.files) hfu
    rw [g1, g2]
    simp only [not_true_eq_false, if_false]
    obtain ⟨s1, hs1⟩ : ∃ s1 : St, s1 = { s with files := putF nR (bsL l) s.files, loose := s.loose ++ [⟨nR, false, bsL l⟩], writes := s.writes + 1, fuse := s.fuse.map (· - 1) } := ⟨_, rfl⟩
    rw [← hs1]
    have hd1 : s1.down = false := by rw [hs1]; exact h.down
    have f1 : flE s1 = 0 := by unfold flE; rw [hd1]; rfl
    have f2 : flS s1 = { s1 with sure := s1.files, loose := [] } := by unfold flS; rw [hd1]; rfl
    have hP : Ph A l R (flS s1) := by
      rw [f2, hs1]
      exact ⟨h.room, by show Mid A l (putF nR (bsL l) s.files); rw [h.files]; exact hM, by show Mid A l (putF nR (bsL l) s.files); rw [h.files]; exact hM, fun x hx => by simp at hx⟩
    have hd2 : (flS s1).down = false := by rw [f2]; exact hd1
    have hfz : s.fuse = none → (flS s1).fuse = none := fun h0 => by rw [f2, hs1]; show s.fuse.map _ = none; rw [h0]; rfl
    rw [f1]
    simp only [not_true_eq_false, if_false]
    rcases ph_fin C hP hd2 with ⟨k1, k2, _, k4⟩ | ⟨k1, k2, k3⟩
    · exact .inr ⟨k1, fun h0 => k4 (hfz h0), .inl k2⟩
    · exact .inl ⟨k1, k2, fun h0 => k3 (hfz h0)⟩
theorem do_bare (c : Ch) (s : St) : doE s (bare c) = doE s c ∧ doS s (bare c) = doS s c := by
  unfold doE doS bare
  cases c.cut <;> exact ⟨rfl, rfl⟩
theorem dos_bare : ∀ {l : List Ch} {s : St}, dosE s (l.map bare) = dosE s l ∧ dosS s (l.map bare) = dosS s l
  | [], _ => ⟨rfl, rfl⟩
  | c :: r, s => by
    obtain ⟨h1, h2⟩ := do_bare c s
    obtain ⟨h3, h4⟩ := dos_bare (l := r) (s := doS s c)
    rw [List.map_cons]
    unfold dosE dosS
    rw [h1, h2, h3, h4]
    exact ⟨rfl, rfl⟩
theorem fin_bare (s : St) (l : List Ch) : finE s (l.map bare) = finE s l ∧ finS s (l.map bare) = finS s l := by
  unfold finE finS
  rw [dos_bare.1, dos_bare.2]
  exact ⟨rfl, rfl⟩
theorem op_cl (h : Cl D R s) (k : Fk D) : opE s = 0 ∧ opS s = s ∧ rdF s nR = none := by
  have hr : rdF s nR = none := by rw [rd_look (by rw [h.files]; exact k.srt), h.down, h.files]; exact k.noR
  unfold opE opS
  rw [h.down, hr]
  exact ⟨rfl, rfl, rfl⟩
theorem ph_rd (h : Ph A l R s) (hd : s.down = false) : rdF s nR = some (bsL l) := by
  rw [rd_look h.files.srt, hd]; exact h.files.redo
theorem ph_parse (C : Cx A l R) : parse (bsL l) = (l.map bare, 0) := parse_bytes fun c hc => by
  obtain ⟨h1, _, h3⟩ := C.ch hc
  exact ⟨(okN_size h1).2, fun _ => h3⟩
theorem op_ph (C : Cx A l R) (h : Ph A l R s) (hd : s.down = false) :
    (opE s = 5 ∧ Ph A l R (opS s) ∧ s.fuse ≠ none) ∨ (opE s = 0 ∧ Cl (dall A l) R (opS s) ∧ (s.fuse = none → (opS s).fuse = none)) := by
  have hp := ph_parse C
  have e1 : opE s = finE s l := by
    unfold opE
    rw [hd, ph_rd h hd]
    simp only [Bool.false_eq_true, if_false, hp, ne_eq, not_true_eq_false]
    exact (fin_bare s l).1
  have e2 : opS s = finS s l := by
    unfold opS
    rw [hd, ph_rd h hd]
    simp only [Bool.false_eq_true, if_false, hp, ne_eq, not_true_eq_false]
    exact (fin_bare s l).2
  rw [e1, e2]
  rcases ph_fin C h hd with ⟨k1, k2, _, k4⟩ | ⟨k1, k2, k3⟩
  · exact .inl ⟨k1, k2, k4⟩
  · exact .inr ⟨k1, k2, k3⟩
/-- What Open reads is never long. -/
theorem op_few_cl (h : Cl D R s) (k : Fk D) {J : Nat} : ∀ b, rdF s nR = some b → b.length ≤ 1000000000 ∧ (parse b).1.length ≤ J := fun b hb => by
  rw [(op_cl h k).2.2] at hb; cases hb
theorem op_few_ph (C : Cx A l R) (h : Ph A l R s) (hd : s.down = false) {J : Nat} (hJ : l.length ≤ J) : ∀ b, rdF s nR = some b → b.length ≤ 1000000000 ∧ (parse b).1.length ≤ J := fun b hb => by
  rw [ph_rd h hd] at hb
  obtain rfl := Option.some.inj hb
  rw [ph_parse C]
  exact ⟨by have := C.len; omega, by rw [List.length_map]; exact hJ⟩
end
theorem new_cl (r : Int) : Cl [] (max 0 (min r 1000000)).toNat (newS r) ∧ (newS r).fuse = none := ⟨⟨rfl, rfl, rfl, rfl, rfl⟩, rfl⟩
end Go.Proofs.Ytolkghdeppoanaa.SfV
