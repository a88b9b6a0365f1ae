/-
  A safe in memory; whether changes fit; changes committed.
-/
import Derived.Test.YtolkghdeppoanaaSfI
import Derived.Test.YtolkghdeppoanaaSfN
set_option linter.unusedVariables false
set_option linter.unusedSimpArgs false
namespace Go.Proofs.Ytolkghdeppoanaa.SfO
open Go.RowKit Go.Proofs.Ytolkghdeppoanaa.BxD Go.Proofs.Ytolkghdeppoanaa.BxKit Go.Proofs.Ytolkghdeppoanaa.RkO Go.Proofs.Ytolkghdeppoanaa.RkP Go.Proofs.Ytolkghdeppoanaa.RkC Go.Proofs.Ytolkghdeppoanaa.RkD Go.Proofs.Ytolkghdeppoanaa.RkR Go.Proofs.Ytolkghdeppoanaa.RkK Go.Proofs.Ytolkghdeppoanaa.RkM Go.Proofs.Ytolkghdeppoanaa.RkN Go.Proofs.Ytolkghdeppoanaa.SfB Go.Proofs.Ytolkghdeppoanaa.SfC Go.Proofs.Ytolkghdeppoanaa.SfD Go.Proofs.Ytolkghdeppoanaa.SfE Go.Proofs.Ytolkghdeppoanaa.SfK Go.Proofs.Ytolkghdeppoanaa.SfL Go.Proofs.Ytolkghdeppoanaa.SfI Go.Proofs.Ytolkghdeppoanaa.SfN

def comE (s : St) (l : List Ch) : Int :=
  if fitE s l ≠ 0 then fitE s l else if l.length = 0 then 0 else if wrE s nR (bsL l) ≠ 0 then wrE s nR (bsL l)
  else if flE (wrS s nR (bsL l)) ≠ 0 then flE (wrS s nR (bsL l)) else finE (flS (wrS s nR (bsL l))) l
def comS (s : St) (l : List Ch) : St :=
  if fitE s l ≠ 0 then s else if l.length = 0 then s else if wrE s nR (bsL l) ≠ 0 then wrS s nR (bsL l)
  else if flE (wrS s nR (bsL l)) ≠ 0 then flS (wrS s nR (bsL l)) else finS (flS (wrS s nR (bsL l))) l
theorem bsL_len : ∀ {l : List Ch}, szC l → (bsL l).length ≤ 3000000 * l.length
  | [], _ => by simp [bsL]
  | c :: r, h => by
    have h1 := chB_len (h c (List.mem_cons_self ..))
    have h2 := bsL_len (l := r) fun x hx => h x (List.mem_cons_of_mem _ hx)
    unfold bsL at h2 ⊢
    rw [List.flatMap_cons, List.length_append, List.length_cons]
    omega
theorem gr1_ok : ∀ {l : List F} {m : SfG.Gr}, (∀ f ∈ l, f.1.size ≤ 24 ∧ f.2.length ≤ 200000) → SfH.Bd m → SfH.Bd (gr1 l m) ∧ (gr1 l m).length ≤ m.length + l.length
  | [], m, _, h => ⟨h, Nat.le_refl _⟩
  | f :: r, m, hl, h => by
    have h1 := hl f (List.mem_cons_self ..)
    have h2 := gr1_ok (l := r) (m := mxu f.1 (cst f.1 f.2) m) (fun x hx => hl x (List.mem_cons_of_mem _ hx)) (h.mxu (by unfold cst; omega))
    have h3 := SfH.mxu_len f.1 (cst f.1 f.2) m
    refine ⟨h2.1, ?_⟩
    show (gr1 r (mxu f.1 (cst f.1 f.2) m)).length ≤ _
    rw [List.length_cons]
    omega
theorem gr2_ok : ∀ {l : List Ch} {m : SfG.Gr}, szC l → SfH.Bd m → SfH.Bd (gr2 l m) ∧ (gr2 l m).length ≤ m.length + l.length
  | [], m, _, h => ⟨h, Nat.le_refl _⟩
  | c :: r, m, hl, h => by
    have h1 := hl c (List.mem_cons_self ..)
    have hr : szC r := fun x hx => hl x (List.mem_cons_of_mem _ hx)
    have e : gr2 (c :: r) m = gr2 r (if c.cut then m else mxu c.name (cst c.name c.data) m) := rfl
    rw [e, List.length_cons]
    cases c.cut with
    | true =>
      have h2 := gr2_ok (l := r) (m := m) hr h
      exact ⟨h2.1, by have := h2.2; simp; omega⟩
    | false =>
      have h2 := gr2_ok (l := r) (m := mxu c.name (cst c.name c.data) m) hr (h.mxu (by unfold cst; omega))
      have h3 := SfH.mxu_len c.name (cst c.name c.data) m
      exact ⟨h2.1, by have := h2.2; simp; omega⟩
theorem grt_ok {s : St} {b : List UInt8} {l : List Ch} (hf : ∀ f ∈ s.files, f.1.size ≤ 24 ∧ f.2.length ≤ 200000) (hz : szC l) (hb : b.length ≤ 2999000 := by omega) : sum2 (grt s b l) ≤ 3000000 * (s.files.length + 1 + l.length) ∧ (grt s b l).length ≤ s.files.length + 1 + l.length := by
  have h1 := gr1_ok hf (m := []) (fun p hp => by simp at hp)
  have h2 := h1.1.mxu (n := nR) (c := cst nR b) (by unfold cst; show 5 + b.length + 8 ≤ 3000000; omega)
  have h3 := SfH.mxu_len nR (cst nR b) (gr1 s.files [])
  have h4 := gr2_ok hz h2
  have h5 := SfH.sum_bd h4.1
  have h6 : (gr2 l (mxu nR (cst nR b) (gr1 s.files []))).length ≤ s.files.length + 1 + l.length := by have := h4.2; have := h1.2; simp at this; omega
  exact ⟨Nat.le_trans h5 (Nat.mul_le_mul_left _ h6), h6⟩
/-- A safe at S on the rack at T. -/
structure Sx (base T S lo hi k : Nat) (w : World) (s : St) : Prop where
  rx : Rx base T lo hi k w s
  sb : Row w S 77 [ptr T]
section
variable {base T S lo hi k : Nat} {w w' : World} {s s' : St}
theorem Sx.ne (h : Sx base T S lo hi k w s) : S ≠ T := by
  obtain ⟨l, hl⟩ := h.rx.head
  exact h.sb.ne_ hl (by decide)
theorem Sx.go (h : Sx base T S lo hi k w s) (hb : Below w.heap.size w w') : Sx base T S lo hi k w' s := ⟨h.rx.go hb, h.sb.below hb h.sb.lt⟩
theorem Sx.turn {k' : Nat} (h : Sx base T S lo hi k w s) (hr : Rx base T lo hi k' w' s') (hf : Fq base T lo hi w w') : Sx base T S lo hi k' w' s' := ⟨hr, hf.row h.sb h.ne (by decide)⟩
theorem Sx.win (h : Sx base T S lo hi k w s) (hb : Below w.heap.size w w') : Sx base T S w.heap.size w'.heap.size k w' s := ⟨h.rx.win hb, h.sb.below hb h.sb.lt⟩
theorem Sx.shut (h : Sx base T S lo hi k w s) : Sx base T S 0 0 k w s := ⟨h.rx.shut, h.sb⟩
theorem Sx.more (h : Sx base T S lo hi k w s) {m : Nat} (hm : k ≤ m) : Sx base T S lo hi m w s := ⟨h.rx.more hm, h.sb⟩
set_option maxRecDepth 100000 in
theorem rack_any (h : Sx base T S lo hi k w s) : Calls Try.prog 26 #[ptr S] w fun e w' => e = .returned (ptr T) ∧ w = w' := by
  have c0 := h.sb.cell 0
  clear h
  unfold ptr at *
  go_enter Try.func26, Try.ntmps26
  go_wp2
  go_ret
  exact ⟨rfl, rfl⟩
set_option maxHeartbeats 4000000 in
set_option maxRecDepth 100000 in
theorem fits_any (h : Sx base T S lo hi k w s) (h6 : k ≤ 900) {n cp : Nat} {A : Option Addr} {l : List Ch} (hL : ChsP w base lo hi A n l) (hn : n ≤ 1000) (hz : szC l) :
    Calls Try.prog 19 #[ptr S, .slice A n cp] w fun e w' => e = .returned (.int .i64 (fitE s l)) ∧ Below w.heap.size w w' := by
  have R0 := Lib.hid h.rx
  have HL := Lib.hid hL
  have HZ := Lib.hid hz
  have KR := Lib.hid (rack_any h)
  have KD := Lib.hid (downX h.rx)
  have KM := Lib.hid (may_any (cp := cp) hL h.rx.bs h.rx.hs hn hz)
  have hbl := bsL_len hz
  have HGO := Lib.hid (fun hb => grt_ok h.rx.ok.files.sz hz (b := bsL l) hb)
  have hfl := h.rx.ok.files.len
  have hln := hL.1
  rw [hln] at hbl HGO
  have hc := h.rx.ok.files.cost
  have hrm := h.rx.ok.room
  have HS := Lib.hid h.rx.low
  clear h hL hz
  unfold ptr at *
  cases hd : s.down with
  | true =>
    have HP := Lib.hid (show fitE s l = 5 by unfold fitE; rw [hd]; rfl)
    rw [hd] at KD
    go_enter Try.func19, Try.ntmps19
    go_wp2_with (first
      | (go_at_call 26; go_loud (refine KR.out.mono ?_; rintro e w1 ⟨rfl, rfl⟩))
      | (go_at_call 38; go_loud (refine KD.out.mono ?_; rintro e w2 ⟨rfl, rfl⟩)))
    go_ret
    exact ⟨by rw [HP.out]; rfl, Below.refl _ _⟩
  | false =>
    rw [hd] at KD
    have HD := Lib.hid hd
    cases hm : mayL l with
    | false =>
      have HP := Lib.hid (show fitE s l = 1 by unfold fitE; rw [hd, hm]; rfl)
      rw [hm] at KM
      clear hd hm
      go_enter Try.func19, Try.ntmps19
      go_wp2_with (first
        | (go_at_call 26; go_loud (refine KR.out.mono ?_; rintro e w1 ⟨rfl, rfl⟩))
        | (go_at_call 38; go_loud (refine KD.out.mono ?_; rintro e w2 ⟨rfl, rfl⟩))
        | (go_at_call 43; go_loud (refine KM.out.mono ?_; rintro e w3 ⟨rfl, hb3⟩; have B3 := Lib.hid hb3; clear hb3)))
      go_ret
      exact ⟨by rw [HP.out]; rfl, B3.out⟩
    | true =>
      have HF := Lib.hid (show fitE s l = if 200000 < (bsL l).length then 4 else if 40 < (grt s (bsL l) l).length ∨ s.room < sum2 (grt s (bsL l) l) then 4 else 0 by unfold fitE; rw [hd, hm]; rfl)
      rw [hm] at KM
      clear hd hm
      go_enter Try.func19, Try.ntmps19
      go_upto_region 8 with (first
        | (go_at_call 26; go_loud (refine KR.out.mono ?_; rintro e w1 ⟨rfl, rfl⟩))
        | (go_at_call 38; go_loud (refine KD.out.mono ?_; rintro e w2 ⟨rfl, rfl⟩))
        | (go_at_call 43; go_loud (refine KM.out.mono ?_; rintro e w3 ⟨rfl, hb3⟩; have B3 := Lib.hid hb3; clear hb3)))
      have R3 := Lib.hid (R0.out.go B3.out)
      have KB := Lib.hid (bytes_any (cp := cp) (HL.out.keep (Kb.below B3.out R0.out.bs R0.out.hs)) R3.out.bs R3.out.hs hn HZ.out)
      unfold BsPost at KB
      obtain ⟨q, hq⟩ : ∃ q, q = (bsL l).length := ⟨_, rfl⟩
      rw [← hq] at KB hbl
      have HQ := Lib.hid hq
      clear KR KD KM hq
      go_upto_region 9 with (go_at_call 13; go_loud (refine KB.out.mono ?_; rintro e w4 ⟨A4, c4, rfl, _, _, hb4⟩; have B4 := Lib.hid (B3.out.trans (hb4.mono B3.out.size)); clear hb4))
      by_cases h2 : 200000 < q
      · have HP := Lib.hid (show fitE s l = 4 by rw [HF.out, if_pos (by rw [← HQ.out]; exact h2)])
        have h2i : (200000 : Int) < (q : Int) := by omega
        clear KB
        go_wp2_with fail
        go_ret
        exact ⟨by rw [HP.out]; rfl, B4.out⟩
      · have h2i : ¬ (200000 : Int) < (q : Int) := by omega
        have R4 := Lib.hid (R0.out.go B4.out)
        have KG := Lib.hid (greatest_any (cp := cp) (bc := c4) (Bd' := A4) R4.out HD.out h6 (b := bsL l) HQ.out.symm (by omega) (HL.out.keep (Kb.below B4.out R0.out.bs R0.out.hs)) hn HZ.out)
        obtain ⟨gl, hgl⟩ : ∃ gl, gl = (grt s (bsL l) l).length := ⟨_, rfl⟩
        obtain ⟨gs, hgse⟩ : ∃ gs, gs = sum2 (grt s (bsL l) l) := ⟨_, rfl⟩
        have hgs := HGO.out (by rw [← HQ.out]; omega)
        rw [← hgl, ← hgse] at KG hgs
        have HG := Lib.hid (show fitE s l = if 40 < gl ∨ s.room < gs then 4 else 0 by rw [HF.out, if_neg (by rw [← HQ.out]; exact h2), hgl, hgse])
        obtain ⟨gs1, gs2⟩ := hgs
        unfold ptr at KG
        clear hgl hgse HF
        go_upto_region 12 with (go_at_call 44; go_loud (refine KG.out.mono ?_; rintro e w5 ⟨rfl, hb5⟩; have B5 := Lib.hid (B4.out.trans (hb5.mono B4.out.size)); clear hb5))
        have R5 := Lib.hid (R0.out.go B5.out)
        have KS := Lib.hid (sizeX R5.out (by omega))
        obtain ⟨cs, hcs⟩ : ∃ cs, cs = costs s.files := ⟨_, rfl⟩
        rw [← hcs] at KS hc
        have HCS := Lib.hid hcs
        have hcl : cs ≤ 200032000 := by omega
        have hsum : IntKind.i64.wrap ((cs : Int) + ((s.room : Int) - (cs : Int))) = (s.room : Int) := by
          rw [show (cs : Int) + ((s.room : Int) - (cs : Int)) = (s.room : Int) by omega]
          exact IntWalk.i64_in _ (by omega)
        unfold ptr at KS
        clear hcs KG KB
        by_cases h3 : 40 < gl
        · have HP := Lib.hid (show fitE s l = 4 by rw [HG.out, if_pos (.inl h3)])
          have h3i : (40 : Int) < (gl : Int) := by omega
          go_wp2_with fail
          go_ret
          exact ⟨by rw [HP.out]; rfl, B5.out⟩
        · have h3i : ¬ (40 : Int) < (gl : Int) := by omega
          have HP := Lib.hid (show fitE s l = if s.room < gs then 4 else 0 by rw [HG.out]; simp [h3])
          clear HG h3
          have harm : gs ≤ 6000000000 := by omega
          by_cases h4 : s.room < gs
          · have h4i : (s.room : Int) < (gs : Int) := by omega
            rw [if_pos h4] at HP
            go_wp2_with (first
              | (go_at_call 45; go_loud (
                 refine KS.out.mono ?_
                 rintro e w6 ⟨rfl, hb6⟩
                 have B6 := Lib.hid (B5.out.trans (hb6.mono B5.out.size))
                 have KO := Lib.hid (roomX (R0.out.go B6.out) (by omega))
                 rw [← HCS.out] at KO
                 unfold ptr at KO
                 clear hb6))
              | (go_at_call 46; go_loud (
                 refine KO.out.mono ?_
                 rintro e w7 ⟨rfl, hb7⟩
                 have B7 := Lib.hid (B6.out.trans (hb7.mono B6.out.size))
                 clear hb7)))
            go_ret
            exact ⟨by rw [HP.out]; rfl, B7.out⟩
          · have h4i : ¬ (s.room : Int) < (gs : Int) := by omega
            rw [if_neg h4] at HP
            go_wp2_with (first
              | (go_at_call 45; go_loud (
                 refine KS.out.mono ?_
                 rintro e w6 ⟨rfl, hb6⟩
                 have B6 := Lib.hid (B5.out.trans (hb6.mono B5.out.size))
                 have KO := Lib.hid (roomX (R0.out.go B6.out) (by omega))
                 rw [← HCS.out] at KO
                 unfold ptr at KO
                 clear hb6))
              | (go_at_call 46; go_loud (
                 refine KO.out.mono ?_
                 rintro e w7 ⟨rfl, hb7⟩
                 have B7 := Lib.hid (B6.out.trans (hb7.mono B6.out.size))
                 clear hb7)))
            go_ret
            exact ⟨by rw [HP.out]; rfl, B7.out⟩
end
end Go.Proofs.Ytolkghdeppoanaa.SfO
