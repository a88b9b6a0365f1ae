/-
  SafeAll: behind a crash in a commit, opened anew, all of it is there or nothing.
-/
import Derived.Test.YtolkghdeppoanaaSwT
import Derived.Test.YtolkghdeppoanaaSwW
import Derived.Lib.SmallJoins
set_option linter.unusedVariables false
set_option linter.unusedSimpArgs false
namespace Go.Proofs.Ytolkghdeppoanaa.SwY
open Go.RowKit Go.Proofs.Ytolkghdeppoanaa.BxD Go.Proofs.Ytolkghdeppoanaa.BxKit Go.Proofs.Ytolkghdeppoanaa.PkKit Go.Proofs.Ytolkghdeppoanaa.RkO Go.Proofs.Ytolkghdeppoanaa.RkC Go.Proofs.Ytolkghdeppoanaa.RkD Go.Proofs.Ytolkghdeppoanaa.RkR Go.Proofs.Ytolkghdeppoanaa.RkK Go.Proofs.Ytolkghdeppoanaa.RkP Go.Proofs.Ytolkghdeppoanaa.RkE Go.Proofs.Ytolkghdeppoanaa.RkM Go.Proofs.Ytolkghdeppoanaa.RkN Go.Proofs.Ytolkghdeppoanaa.SfB Go.Proofs.Ytolkghdeppoanaa.SfC Go.Proofs.Ytolkghdeppoanaa.SfD Go.Proofs.Ytolkghdeppoanaa.SfE Go.Proofs.Ytolkghdeppoanaa.SfK Go.Proofs.Ytolkghdeppoanaa.SfO Go.Proofs.Ytolkghdeppoanaa.SfP Go.Proofs.Ytolkghdeppoanaa.SfT Go.Proofs.Ytolkghdeppoanaa.SfU Go.Proofs.Ytolkghdeppoanaa.SfV Go.Proofs.Ytolkghdeppoanaa.SwL Go.Proofs.Ytolkghdeppoanaa.SwS Go.Proofs.Ytolkghdeppoanaa.SwA Go.Proofs.Ytolkghdeppoanaa.SwR Go.Proofs.Ytolkghdeppoanaa.SwT Go.Proofs.Ytolkghdeppoanaa.SwW

theorem flt_snoc {α : Type} {p : α → Bool} {rs : List α} {j : Nat} {r : α} (h : rs[j]? = some r) : (rs.take (j + 1)).filter p = (rs.take j).filter p ++ if p r then [r] else [] := by
  obtain ⟨hl, rfl⟩ := List.getElem?_eq_some_iff.1 h
  rw [List.take_succ_eq_append_getElem hl, List.filter_append]
  congr 1
  cases hp : p rs[j] <;> simp [hp]
theorem flt_map {n : ByteArray} {rs : List RF} : (rs.filter fun r => !decide (r.1 = n)).map fOf = flt n (rs.map fOf) := by
  unfold flt
  rw [List.filter_map]
  rfl
theorem dall_snoc {A : List F} {l : List Ch} {k : Nat} {c : Ch} (h : l[k]? = some c) : dall A (l.take (k + 1)) = doneC (dall A (l.take k)) c := by
  obtain ⟨hl, rfl⟩ := List.getElem?_eq_some_iff.1 h
  unfold dall
  rw [List.take_succ_eq_append_getElem hl, List.foldl_append]; rfl
theorem oneF {W : World} {b : Nat} {x : ByteArray} {K : Option Addr} {dl kc : Nat} (h : W.heap[b]? = some (.cells #[.string x, .slice K dl kc] 44 (0, 0))) : Src W (some ⟨b, 0, none⟩) 1 2 [.string x, .slice K dl kc] := by
  refine ⟨rfl, fun u hu => by simp at hu; rcases hu with h | h <;> (subst h; rfl), fun _ => ⟨_, rfl, fun j u hu => ?_⟩⟩
  rw [RkR.add_new, cell_of_row W b j _ _ _ h]
  simpa using hu
theorem one_files (x : ByteArray) (K : Option Addr) (dl kc : Nat) : ∀ u ∈ (#[.string x, .slice K dl kc] : Array Value).toList, u.oneCell' = true := by
  intro u hu
  simp at hu
  rcases hu with h | h <;> (subst h; rfl)
theorem nw {w : World} {o : Obj} {b : Nat} (hb : b = w.heap.size) : (w.alloc o).heap[b]? = some o := by subst hb; exact heap_alloc_new w o
theorem od {w : World} {o : Obj} {b : Nat} {x : Obj} (h : w.heap[b]? = some x) : (w.alloc o).heap[b]? = some x := (Below.heap_alloc _ _ _ (Array.getElem?_eq_some_iff.1 h).1).trans h
theorem dr {w : World} {b : Nat} {x : Obj} (h : w.heap[b]? = some x) : w.drew.heap[b]? = some x := h
set_option maxHeartbeats 16000000 in
set_option maxRecDepth 100000 in
theorem walk {w : World} {LA MA PA QA : Option Addr} {n m lc mc pn pc qn qc : Nat} {first l : List Ch} {ps qs : List UInt8} {x y : Int} (hl : Arg w w.heap.size LA n first) (hm : Arg w w.heap.size MA m l) (hp : BytesAt w w.heap.size PA pn ps) (hpn : pn ≤ 140737488355328) (hq : BytesAt w w.heap.size QA qn qs) (hqn : qn ≤ 140737488355328) :
    Calls Try.prog 4 #[.slice LA n lc, .slice MA m mc, .int .i64 x, .int .i64 y, .slice PA pn pc, .slice QA qn qc] w fun e w' => e = .returned (.bool true) ∧ Below w.heap.size w w' := by
  have HL := Lib.hid hl
  have HM := Lib.hid hm
  have HP := Lib.hid hp
  have HQ := Lib.hid hq
  have KA := Lib.hid (fun wx => awake wx)
  have KH := Lib.hid (heavy_any (c := lc) hl (Nat.le_refl _))
  have KH2 := Lib.hid (fun (wx : World) (hb : Below w.heap.size w wx) => heavy_any (c := mc) (hm.keep hb) hb.size)
  unfold HvPost at KH KH2
  clear hl hm hp hq
  go_enter Try.func4, Try.ntmps4
  go_upto_region 1 with fail
  go_cut [43] (fun s43 wx => ∃ b : Bool, s43 = .bool b ∧ Hid (b = false → Lt first ∧ Lt l ∧ pn ≤ 500 ∧ qn ≤ 500) ∧ Hid (Below w.heap.size w wx))
  case first =>
    go_wp2_with (first
      | (go_at_call 9; go_loud (refine (KH2.out _ HB.out).mono ?_; rintro e w3 ⟨h2, rfl, g1, g2, g3, hb2⟩; have HB3 := Lib.hid (HB.out.trans (hb2.mono HB.out.size)); have HT3 := Lib.hid g3; clear hb2 g3))
      | (go_at_call 9; go_loud (refine KH.out.mono ?_; rintro e w2 ⟨h, rfl, h1, h2', h3, hb⟩; have HB := Lib.hid hb; have HT := Lib.hid h3; clear hb h3)))
    all_goals
      go_meet
      refine ⟨_, rfl, fun hb => ?_, HB3⟩
      first | (cases hb; done) | (simp at hb; exact ⟨HT.out (by omega), HT3.out (by omega), by omega, by omega⟩)
  case rest =>
    obtain ⟨b, rfl, HLT, HB⟩ := hcut
    clear KH KH2
    cases b with
    | true =>
      go_wp2_with (go_at_call 10; go_loud (refine (KA.out _).mono ?_; rintro e w3 ⟨rfl, hb⟩))
      go_ret
      exact ⟨rfl, HB.out.trans (hb.mono HB.out.size)⟩
    | false =>
      obtain ⟨hlt1, hlt2, hp2, hq2⟩ := HLT.out rfl
      have hn : n ≤ 60 := by rw [← HL.out.chs.1]; exact hlt1.1
      have hm : m ≤ 60 := by rw [← HM.out.chs.1]; exact hlt2.1
      have SZ1 := Lib.hid hlt1.szC
      have SZ2 := Lib.hid hlt2.szC
      obtain ⟨T, hT⟩ : ∃ T, T = wc.heap.size := ⟨_, rfl⟩
      have HWT := Lib.hid (show w.heap.size ≤ T from by rw [hT]; exact HB.out.size)
      have KN := Lib.hid (newX wc w.heap.size 1000000 HB.out.size)
      obtain ⟨s0, hs0⟩ : ∃ s0, s0 = newS 1000000 := ⟨_, rfl⟩
      have C0 := Lib.hid (show Cl [] 1000000 s0 ∧ s0.fuse = none by rw [hs0]; exact new_cl 1000000)
      rw [← hT, ← hs0] at KN
      unfold ptr at KN
      clear hlt1 hlt2 hT HLT hs0
      go_upto_region 4 with (go_at_call 16; go_loud (refine KN.out.mono ?_; rintro e w1 ⟨rfl, h1, h2⟩; have R1 := Lib.hid h1; have B1 := Lib.hid (HB.out.trans (h2.mono HWT.out)); clear h1 h2))
      have o1 := op_cl C0.out.1 Fk.nil
      have KO := Lib.hid (open_any (J := 0) R1.out (by omega) (op_few_cl C0.out.1 Fk.nil))
      rw [o1.1, o1.2.1] at KO
      unfold ptr at KO
      clear o1 KN
      go_upto_region 5 with (go_at_call 17; go_loud (
         refine KO.out.mono ?_
         rintro e w2 ⟨v, rfl, h1, h2, _, h4⟩
         obtain ⟨S, rfl, h5, _⟩ := h4 rfl
         have S2 := Lib.hid (show Sx w.heap.size T S 0 0 1 w2 s0 from ⟨h1, h5⟩)
         have B2 := Lib.hid (B1.out.trans (h2.to R1.out.bs))
         clear h1 h2 h4 h5))
      clear KO
      obtain ⟨A, hst1, hst2, hst3, hst4, hst5, hst6⟩ := SwF.fits_state C0.out.1 Fk.nil C0.out.2 (l := first)
      have KC := Lib.hid (commit_any (cp := lc) S2.out (by omega) (chs_mono (fun _ => pb_more) (HL.out.keep B2.out).chs) (by omega) SZ1.out)
      obtain ⟨E1, hE1⟩ : ∃ E1, E1 = fitE s0 first := ⟨_, rfl⟩
      obtain ⟨s1, hs1⟩ : ∃ s1, s1 = comS s0 first := ⟨_, rfl⟩
      have HSAME := Lib.hid (show E1 ≠ 0 → fitE s1 first = E1 from fun h => by rw [hs1, (com_bad (by rw [← hE1]; exact h)).2, hE1])
      rw [hst1, ← hE1, ← hs1] at KC
      rw [← hs1] at hst2 hst4
      have C1 := Lib.hid hst2
      have K1 := Lib.hid hst3
      have Z1 := Lib.hid hst4
      unfold ptr at KC
      clear hst1 hst2 hst3 hst4 hst5 hst6 hE1 hs1
      unfold ptr
      go_cut [64] (fun s64 wx => s64 = .bool false ∧ Hid (Sx w.heap.size T S 0 0 63 wx s1) ∧ Hid (Below w.heap.size w wx))
      case first =>
        by_cases hE0 : E1 = 0
        · subst hE0
          go_wp2_with (go_at_call 18; go_loud (refine KC.out.mono ?_; rintro e w3 ⟨rfl, h1, h2⟩; have S3 := Lib.hid (h1.more (m := 63) (by omega)); have B3 := Lib.hid (B2.out.trans (h2.to S2.out.rx.bs)); clear h1 h2))
          go_meet
          exact ⟨rfl, S3, B3⟩
        · have hei : (E1 != 0) = true := by simpa using hE0
          have hej : (E1 == 0) = false := by simpa using hE0
          have HE := Lib.hid (HSAME.out hE0)
          clear hE0
          go_wp2_with (first
            | (go_at_call 19; go_loud (refine KF.out.mono ?_; rintro e w4 ⟨rfl, hb⟩; have S4 := Lib.hid (S3.out.go hb); have B4 := Lib.hid (up B3.out (Nat.le_refl _) hb); clear hb))
            | (go_at_call 18; go_loud (
               refine KC.out.mono ?_
               rintro e w3 ⟨rfl, h1, h2⟩
               have S3 := Lib.hid (h1.more (m := 63) (by omega))
               have B3 := Lib.hid (B2.out.trans (h2.to S2.out.rx.bs))
               have KF := Lib.hid (fits_any (cp := lc) S3.out (by omega) (chs_mono (fun _ => pb_more) (HL.out.keep B3.out).chs) (by omega) SZ1.out)
               rw [HE.out] at KF
               unfold ptr at KF
               clear h1 h2)))
          go_meet
          exact ⟨rfl, S4, B4⟩
      case rest =>
        obtain ⟨rfl, S3, B3⟩ := hcut
        clear KC S2 B2 R1 B1 HSAME SZ1
        have KS := Lib.hid (sureX S3.out.rx (by omega))
        rw [C1.out.sure] at KS
        obtain ⟨dn, hdn⟩ : ∃ dn, dn = A.length := ⟨_, rfl⟩
        have hdl : dn ≤ 1000 := by have := S3.out.rx.ok.files.len; rw [C1.out.files] at this; omega
        have HDN := Lib.hid hdn
        unfold SuPost ptr at KS
        rw [← hdn] at KS
        clear hdn
        go_upto_region 8 with (go_at_call 20; go_loud (refine KS.out.mono ?_; rintro e w4 ⟨A4, c4, rfl, h1, h2, h3⟩; have F4 := Lib.hid h2; have S4 := Lib.hid (S3.out.go h3); have B4 := Lib.hid (up B3.out (Nat.le_refl _) h3); have HC4 := Lib.hid h1; clear h1 h2 h3))
        have KF := Lib.hid (fits_any (cp := mc) S4.out (by omega) (chs_mono (fun _ => pb_more) (HM.out.keep B4.out).chs) (by omega) SZ2.out)
        clear KS
        by_cases hf : fitE s1 l = 0
        case neg =>
          obtain ⟨h1, h2⟩ := com_bad hf
          have KC2 := Lib.hid (fun (wx : World) (hs : Sx w.heap.size T S 0 0 63 wx s1) (hb : Below w.heap.size w wx) => commit_any (cp := mc) hs (by omega) (chs_mono (fun _ => pb_more) (HM.out.keep hb).chs) (by omega) SZ2.out)
          rw [h1, h2] at KC2
          obtain ⟨E2, hE2⟩ : ∃ E2, E2 = fitE s1 l := ⟨_, rfl⟩
          have KF2 := Lib.hid (fun (k : Nat) (hk : k ≤ 900) (wx : World) (hs : Sx w.heap.size T S 0 0 k wx s1) (hb : Below w.heap.size w wx) => fits_any (cp := mc) hs hk (chs_mono (fun _ => pb_more) (HM.out.keep hb).chs) (by omega) SZ2.out)
          have KS2 := Lib.hid (fun (k : Nat) (hk : k ≤ 1000) (wx : World) (hr : Rx w.heap.size T 0 0 k wx s1) => sureX hr hk)
          rw [C1.out.sure] at KS2
          unfold SuPost at KS2
          rw [← HDN.out] at KS2
          rw [← hE2] at KF KF2 KC2 hf
          have hei : (E2 != 0) = true := by simpa using hf
          have hee : (E2 == E2) = true := by simp
          have KE := Lib.hid (fun (wx : World) (A1 A2 : Option Addr) (c1 c2 : Nat) (h1 : FilesT wx A1 dn A) (h2 : FilesT wx A2 dn A) => same_files (c1 := c1) (c2 := c2) h1 h2 (by omega))
          rw [show decide (A = A) = true from decide_eq_true rfl] at KE
          unfold ptr at KF KF2 KC2 KS2
          clear hE2 hf h1 h2
          go_wp2_with (first
            | (go_at_call 10; go_loud (refine (KA.out _).mono ?_; rintro e w10 ⟨rfl, hb⟩; have B10 := Lib.hid (up B9.out (Nat.le_refl _) hb); clear hb))
            | (go_at_call 21; go_loud (refine (KE.out _ _ _ _ _ F8.out G8.out).mono ?_; rintro e w9 ⟨rfl, h3⟩; have B9 := Lib.hid (up B8.out (Nat.le_refl _) h3); clear h3))
            | (go_at_call 20; go_loud (refine (KS2.out _ (by omega) _ S7.out.rx).mono ?_; rintro e w8 ⟨A8, c8, rfl, _, h2, h3⟩; have F8 := Lib.hid h2; have G8 := Lib.hid (G7.out.kp (Kp.below h3 (Nat.le_refl _))); have B8 := Lib.hid (up B7.out (Nat.le_refl _) h3); clear h2 h3))
            | (go_at_call 19; go_loud (refine (KF2.out _ (by omega) _ S6.out B6.out).mono ?_; rintro e w7 ⟨rfl, hb⟩; have S7 := Lib.hid (S6.out.go hb); have G7 := Lib.hid (G6.out.kp (Kp.below hb (Nat.le_refl _))); have B7 := Lib.hid (up B6.out (Nat.le_refl _) hb); clear hb))
            | (go_at_call 18; go_loud (refine (KC2.out _ S5.out B5.out).mono ?_; rintro e w6 ⟨rfl, h1, h2⟩; have S6 := Lib.hid h1; have G6 := Lib.hid (G5.out.kp (S5.out.rx.kp h2)); have B6 := Lib.hid (B5.out.trans (h2.to S5.out.rx.bs)); clear h1 h2))
            | (go_at_call 19; go_loud (refine KF.out.mono ?_; rintro e w5 ⟨rfl, hb⟩; have S5 := Lib.hid (S4.out.go hb); have G5 := Lib.hid (F4.out.kp (Kp.below hb (Nat.le_refl _))); have B5 := Lib.hid (up B4.out (Nat.le_refl _) hb); clear hb)))
          go_ret
          exact ⟨rfl, B10.out⟩
        rw [hf] at KF
        have HF := Lib.hid hf
        unfold ptr at KF
        clear hf
        go_upto_region 10 with (go_at_call 19; go_loud (refine KF.out.mono ?_; rintro e w5 ⟨rfl, h3⟩; have S5 := Lib.hid (S4.out.go h3); have B5 := Lib.hid (up B4.out (Nat.le_refl _) h3); have F5 := Lib.hid (F4.out.kp (Kp.below h3 (Nat.le_refl _))); clear h3))
        clear KF
        obtain ⟨rs0, hrs0, hF0⟩ := F5.out
        have HR0 := Lib.hid hrs0
        have HSRC := Lib.hid hF0.src
        have HD0 := Lib.hid (FWr.of (base := w.heap.size) hF0).2.1
        clear hrs0 hF0
        go_upto_region 11 with (at_builtin; go_loud (
           refine wpList_rows elF (base := w5.heap.size) rfl _ _ rfl rfl rfl (own_empty (heap_alloc_new w5 _) (Nat.le_refl _)) (src_keep HSRC.out (below_alloc w5 _)) (by unfold maxLen; omega) (by omega) (below_alloc w5 _).size ?_
           intro v6 w6 hown6 hg6 _
           have X6 := Lib.hid (Below.grown (below_alloc w5 _) hg6 (below_alloc w5 _).size (fun k e => by have := Option.some.inj e; dsimp only at this; omega))
           obtain ⟨A6, c6, rfl, hc6⟩ := RkR.own_slice hown6
           rw [Nat.zero_add, List.nil_append] at hown6
           rw [Nat.zero_add] at hc6
           have HO6 := Lib.hid hown6
           clear hown6 hg6))
        clear HSRC
        go_wp2_with fail
        go_loopw [92, 17] (fun s92 s17 wr => ∃ (k : Nat) (WA : Option Addr) (wn wk : Nat) (rs : List RF), k ≤ m ∧ s92 = .int .i64 k ∧ s17 = .slice WA wn wk ∧ wn ≤ 1000 + k ∧ wn ≤ wk ∧ Hid (rs.map fOf = dall A (l.take k)) ∧ Hid (∀ r ∈ rs, DW w5 w.heap.size r) ∧ Hid (wr.ownsRow w5.heap.size 44 2 (.slice WA wn wk) wn (fc rs)) ∧ Hid (Below w5.heap.size w5 wr)) (fun s92 _ _ => m - (intOf s92).toNat)
        case atStart => exact ⟨0, A6, dn, c6, rs0, Nat.zero_le _, rfl, rfl, by omega, hc6, Lib.hid (by rw [HR0.out]; rfl), HD0, HO6, X6⟩
        case round =>
          clear HO6 X6 HD0 HR0 hc6
          obtain ⟨k, WA, wn, wk, rs, hk, rfl, rfl, hwn, hwk, HMAP, HD, HO, HX⟩ := hrel
          by_cases hlt : k < m
          · have hkb := Kb.below (base := w.heap.size) (lo := 0) (hi := 0) HX.out B5.out.size (Nat.zero_le _)
            obtain ⟨la, cn, ct, K, kd, kc, rfl, hx, d0, d1, d2, hle, hby, hpb⟩ := (HM.out.keep B5.out).chs.sp hkb hlt
            have HDC := Lib.hid (show DW w5 w.heap.size (cn, ⟨K, kc, kd⟩) from ⟨.arg (hby.keep fun k hk => (hkb k hk).symm), hle⟩)
            have HCX := Lib.hid hx
            obtain ⟨dl, hdl0⟩ : ∃ dl, dl = kd.length := ⟨_, rfl⟩
            rw [← hdl0] at d2
            have HDL := Lib.hid hdl0
            have BA := Lib.hid (below_alloc wr (.cells #[.string cn, .bool ct, .slice K dl kc] 42))
            have M0 := Lib.hid (show RkO.Row (wr.alloc (.cells #[.string cn, .bool ct, .slice K dl kc] 42)) wr.heap.size 42 [.string cn, .bool ct, .slice K dl kc] from heap_alloc_new wr _)
            have HOa := Lib.hid (own_go HO.out BA.out)
            have XA := Lib.hid (up HX.out (Nat.le_refl _) BA.out)
            obtain ⟨P, hP⟩ : ∃ P, P = wr.heap.size := ⟨_, rfl⟩
            have hki : (k : Int) < (m : Int) := by omega
            have hk0 : (0 : Int) ≤ (k : Int) := by omega
            clear hx hdl0 hby hpb hle hkb
            go_upto_region 14 with fail
            rw [← hP] at M0 ⊢
            clear hP d0 d1 d2 HO HX BA
            generalize (World.alloc wr _) = w7 at M0 HOa XA ⊢
            have HCL := Lib.hid (fun (wq : World) (hb : Below w7.heap.size w7 wq) => show wq.cell? { block := P, off := 0 } = some (.string cn) ∧ wq.cell? { block := P, off := 1 } = some (.bool ct) ∧ wq.cell? { block := P, off := 2 } = some (.slice K dl kc) from by
              have h := M0.out.below hb M0.out.lt
              exact ⟨h.cell 0, h.cell 1, h.cell 2⟩)
            have HB7 := Lib.hid (Nat.le_trans B5.out.size XA.out.size)
            have FW7 := Lib.hid (FWr.own (base := w.heap.size) HOa.out (fun r hr => (HD.out r hr).kw (Kw.below XA.out B5.out.size)))
            have HWL := Lib.hid FW7.out.1
            go_wp2_with fail
            go_loopw [98, 20] (fun s98 s20 wr => ∃ (j : Nat) (NA : Option Addr) (nn nk : Nat) (ns : List RF), j ≤ wn ∧ s98 = .int .i64 j ∧ s20 = .slice NA nn nk ∧ nn ≤ j ∧ nn ≤ nk ∧ Hid (ns = (rs.take j).filter fun r => !decide (r.1 = cn)) ∧ Hid (wr.ownsRow w7.heap.size 44 2 (.slice NA nn nk) nn (fc ns)) ∧ Hid (Below w7.heap.size w7 wr)) (fun s98 _ _ => wn - (intOf s98).toNat)
            case atStart => exact ⟨0, none, 0, 0, [], Nat.zero_le _, rfl, rfl, Nat.le_refl _, Nat.le_refl _, rfl, World.ownsRow_nil _ _ _ _, Below.refl _ _⟩
            case round =>
              obtain ⟨j, NA, nn, nk, ns, hj, rfl, rfl, hnj, hnk, HNS, HON, HXQ⟩ := hrel
              obtain ⟨l0, l1, l2⟩ := HCL.out _ HXQ.out
              by_cases hjl : j < wn
              · obtain ⟨wa, fx, FK, fd, fkc, rfl, hfx, e0, e1, _, _⟩ := FW7.out.sp (Kw.below HXQ.out HB7.out) hjl
                have hsn := flt_snoc (p := fun r : RF => !decide (r.1 = cn)) hfx
                rw [← HNS.out] at hsn
                obtain ⟨fl, hfl⟩ : ∃ fl, fl = fd.length := ⟨_, rfl⟩
                rw [← hfl] at e1
                have HFL := Lib.hid hfl
                have hji : (j : Int) < (wn : Int) := by omega
                have hj0 : (0 : Int) ≤ (j : Int) := by omega
                have BP := Lib.hid (below_alloc wr (.cells #[.string fx, .slice FK fl fkc] 44))
                obtain ⟨l0', _, _⟩ := HCL.out _ (up HXQ.out (Nat.le_refl _) BP.out)
                clear hfx hfl
                by_cases hne : fx = cn
                · subst hne
                  have hxx : (fx.toList == fx.toList) = true := by simp
                  have HS2 := Lib.hid (show ns = (rs.take (j + 1)).filter fun r => !decide (r.1 = fx) by rw [hsn]; simp)
                  have HON2 := Lib.hid (own_go HON.out BP.out)
                  have HXQ2 := Lib.hid (up HXQ.out (Nat.le_refl _) BP.out)
                  clear hsn l1 l2
                  go_wp2_with fail
                  go_roundw
                  case measure => simp [intOf]; omega
                  case rel => exact ⟨j + 1, NA, nn, nk, ns, by omega, by go_num, rfl, by omega, hnk, HS2, HON2, HXQ2⟩
                · have hxx : (fx.toList == cn.toList) = false := by
                    cases h : (fx.toList == cn.toList) with
                    | false => rfl
                    | true => exact absurd (ba_ext (by simpa using h)) hne
                  have HS2 := Lib.hid (show ns ++ [(fx, ⟨FK, fkc, fd⟩)] = (rs.take (j + 1)).filter fun r => !decide (r.1 = cn) by rw [hsn]; simp [hne])
                  clear hsn l1 l2 hne
                  go_wp2_with (at_builtin; go_loud (
                    refine wpList_rows elF (base := w7.heap.size) rfl _ _ rfl rfl rfl (own_go (own_go HON.out BP.out) (below_alloc _ _)) (src_new (m := 1) (sz := 2) _ #[.string fx, .slice FK fl fkc] 44 (by simp) rfl (one_files fx FK fl fkc)) (by unfold maxLen; omega) (by omega) (up (up HXQ.out (Nat.le_refl _) BP.out) (Nat.le_refl _) (below_alloc _ _)).size ?_
                    intro v10 w10 hown10 hg10 _
                    have HX10 := Lib.hid (Below.grown (up (up HXQ.out (Nat.le_refl _) BP.out) (Nat.le_refl _) (below_alloc _ _)) hg10 (up (up HXQ.out (Nat.le_refl _) BP.out) (Nat.le_refl _) (below_alloc _ _)).size (fun k e => (HON.out.lt k e).1))
                    obtain ⟨A10, c10, rfl, hc10⟩ := RkR.own_slice hown10
                    have HON10 := Lib.hid (show w10.ownsRow w7.heap.size 44 2 (.slice A10 (nn + 1) c10) (nn + 1) (fc (ns ++ [(fx, ⟨FK, fkc, fd⟩)])) by
                      rw [fc_append, show fc [(fx, (⟨FK, fkc, fd⟩ : RD))] = [.string fx, .slice FK fl fkc] by rw [HFL.out]; rfl]
                      exact hown10)
                    clear hown10 hg10))
                  go_roundw
                  case measure => simp [intOf]; omega
                  case rel => exact ⟨j + 1, A10, nn + 1, c10, ns ++ [(fx, ⟨FK, fkc, fd⟩)], by omega, by go_num, rfl, by omega, hc10, HS2, HON10, HX10⟩
              · obtain rfl : j = wn := by omega
                have HN2 := Lib.hid (show ns = rs.filter fun r => !decide (r.1 = cn) by rw [HNS.out, List.take_of_length_le (by rw [HWL.out]; exact Nat.le_refl _)])
                have HDA := Lib.hid (dall_snoc (A := A) HCX.out)
                have HSR := Lib.hid (show SrtF (dall A (l.take k)) from srt_dall K1.out.srt)
                have HNM := Lib.hid (show ns.map fOf = cutF cn (dall A (l.take k)) by rw [HN2.out, flt_map, HMAP.out, flt_cut HSR.out])
                have HDS := Lib.hid (show ∀ r ∈ ns, DW w5 w.heap.size r from fun r hr => HD.out r (by rw [HN2.out] at hr; exact (List.mem_filter.1 hr).1))
                have HXE := Lib.hid (XA.out.trans (HXQ.out.mono XA.out.size))
                obtain ⟨w8, rfl⟩ : ∃ w8, w8 = wr := ⟨_, rfl⟩
                clear HN2 HNS FW7
                cases ct with
                | true =>
                  have HOE := Lib.hid (_root_.Go.Joins.ownsRow_le (base' := w5.heap.size) HON.out XA.out.size)
                  clear l0 l2
                  go_wp2_with fail
                  go_roundw
                  case measure => simp [intOf]; omega
                  case rel => exact ⟨k + 1, NA, nn, nk, ns, by omega, by go_num, rfl, by omega, hnk, Lib.hid (by rw [HDA.out, HNM.out]; rfl), HDS, HOE, HXE⟩
                | false =>
                  have FN := Lib.hid (FWr.own (base := w.heap.size) HON.out (fun r hr => (HDS.out r hr).kw (Kw.below HXE.out B5.out.size)))
                  have HNL := Lib.hid FN.out.1
                  have HB8 := Lib.hid (Nat.le_trans B5.out.size HXE.out.size)
                  clear l0 l2
                  go_wp2_with fail
                  clear l1
                  go_loopw [23] (fun s23 wr => ∃ q : Nat, q ≤ nn ∧ s23 = .int .i64 q ∧ Hid (∀ (j : Nat) (x : F), j < q → (ns.map fOf)[j]? = some x → cmpS x.1 cn < 0) ∧ Hid (Below w8.heap.size w8 wr)) (fun s23 _ => nn - (intOf s23).toNat)
                  case atStart => exact ⟨0, Nat.zero_le _, rfl, fun j x h => absurd h (Nat.not_lt_zero j), Below.refl _ _⟩
                  case round =>
                    obtain ⟨q, hq, rfl, HLO, HXW⟩ := hrel
                    obtain ⟨m0, _, _⟩ := HCL.out _ (HXQ.out.trans (HXW.out.mono HXQ.out.size))
                    have hq0 : (0 : Int) ≤ (q : Int) := by omega
                    go_upto_region 23 with fail
                    by_cases hstop : ∃ z, (ns.map fOf)[q]? = some z ∧ cmpS z.1 cn < 0
                    · obtain ⟨z, hz, hzx⟩ := hstop
                      have hqw : q < nn := by have := (List.getElem?_eq_some_iff.1 hz).1; rw [List.length_map, HNL.out] at this; exact this
                      obtain ⟨na, fx, FK, fd, fkc, rfl, hfx, e0, _, _, _⟩ := FN.out.sp (Kw.below HXW.out HB8.out) hqw
                      rw [List.getElem?_map, hfx] at hz
                      obtain rfl : (fx, fd) = z := Option.some.inj hz
                      have hbl : Op.bytesLess fx.toList cn.toList = true := cmpS_neg.1 hzx
                      have hqi : (q : Int) < (nn : Int) := by omega
                      have HLO1 : Hid (∀ (j : Nat) (x : F), j < q + 1 → (ns.map fOf)[j]? = some x → cmpS x.1 cn < 0) := by
                        intro j x hj hx
                        rcases Nat.lt_or_ge j q with h | h
                        · exact HLO.out j x h hx
                        · obtain rfl : j = q := by omega
                          rw [List.getElem?_map, hfx] at hx
                          rw [← Option.some.inj hx]; exact hzx
                      clear hz hzx hfx
                      go_cut [128] (fun s128 wx => s128 = .bool true ∧ Hid (Below wr.heap.size wr wx))
                      case first =>
                        go_quiet (fail)
                        go_wp2_with fail
                        go_meet
                        exact ⟨rfl, BxKit.below_drewN (Below.refl _ _) _⟩
                      case rest =>
                        obtain ⟨rfl, Y⟩ := hcut
                        clear m0 e0 hbl
                        go_wp2_with fail
                        go_roundw
                        case measure => simp [intOf]; omega
                        case rel => exact ⟨q + 1, by omega, by go_num, HLO1, Lib.hid (up HXW.out (Nat.le_refl _) Y.out)⟩
                    · have HST := Lib.hid (show ∀ z, (ns.map fOf)[q]? = some z → ¬ cmpS z.1 cn < 0 from fun z hz hzx => hstop ⟨z, hz, hzx⟩)
                      clear hstop
                      go_cut [128] (fun s128 wx => s128 = .bool false ∧ Hid (Below wr.heap.size wr wx))
                      case first =>
                        by_cases hqw : q < nn
                        · obtain ⟨na, fx, FK, fd, fkc, rfl, hfx, e0, _, _, _⟩ := FN.out.sp (Kw.below HXW.out HB8.out) hqw
                          have hbl : Op.bytesLess fx.toList cn.toList = false := by
                            cases h : Op.bytesLess fx.toList cn.toList with
                            | false => rfl
                            | true => exact absurd (cmpS_neg.2 h) (HST.out (fx, fd) (by rw [List.getElem?_map, hfx]; rfl))
                          have hqi : (q : Int) < (nn : Int) := by omega
                          clear hfx
                          go_quiet (fail)
                          go_wp2_with fail
                          go_meet
                          exact ⟨rfl, BxKit.below_drewN (Below.refl _ _) _⟩
                        · have hqi : ¬ (q : Int) < (nn : Int) := by omega
                          go_quiet (fail)
                          go_wp2_with fail
                          go_meet
                          exact ⟨rfl, BxKit.below_drewN (Below.refl _ _) _⟩
                      case rest =>
                        obtain ⟨rfl, Y⟩ := hcut
                        obtain ⟨w9, rfl⟩ : ∃ w9, w9 = wc := ⟨_, rfl⟩
                        have HX9 := Lib.hid (up HXW.out (Nat.le_refl _) Y.out)
                        have HX79 := Lib.hid (HXQ.out.trans (HX9.out.mono HXQ.out.size))
                        have FN9 := Lib.hid (FN.out.kw (Kw.below HX9.out HB8.out))
                        have HPUT := Lib.hid (put_at (d := kd) HSR.out HNM.out (by rw [List.length_map, HNL.out]; exact hq) HLO.out HST.out)
                        have HKC := Lib.hid (fun (wq : World) (hb : Below w9.heap.size w9 wq) => show wq.cell? { block := P, off := 0 } = some (.string cn) ∧ wq.cell? { block := P, off := 2 } = some (.slice K dl kc) from by
                          obtain ⟨h1, _, h3⟩ := HCL.out _ (HX79.out.trans (hb.mono HX79.out.size))
                          exact ⟨h1, h3⟩)
                        have ht1 := sl_hi NA nn nk q (by omega)
                        obtain ⟨A2, n2, c2, ht2, hn2, hdr⟩ := FN9.out.cut_lo hq hnk
                        have HDR := Lib.hid hdr.src
                        have HTK := Lib.hid (FN9.out.take hq).src
                        have hn2b : q + n2 ≤ j := by omega
                        clear hdr m0 HST HLO
                        go_upto_region 25 with fail
                        go_region_held3 (fun wq => wq.cell? { block := P, off := 0 } = some (.string cn) ∧ wq.cell? { block := P, off := 2 } = some (.slice K dl kc)) (exact HKC.out _ (by (repeat (with_reducible first | exact Below.refl _ _ | exact XA3.out | exact XA2.out | exact XA1.out | refine Below.drew ?_ | refine Below.alloc ?_ (by first | exact Nat.le_refl _ | omega | (simp; done) | (simp; omega)) _)); first | done | fail)) (first
                          | (show (if Region.wanted ⟨some 135, _, _, _, _, _⟩ _ = true then _ else _)
                             go_loud (
                             refine step_rows elF (base := w9.heap.size) (c := nk) rfl (.tmp 131) (.tmp 134) rfl rfl rfl (own_empty (by (repeat (with_reducible first | exact nw (by first | rfl | (simp; done) | (simp; omega)) | refine dr ?_ | refine od ?_)); first | done | fail) (by first | exact Nat.le_refl _ | omega | (simp; done) | (simp; omega))) (src_keep HTK.out (by (repeat (with_reducible first | exact Below.refl _ _ | refine Below.drew ?_ | refine Below.alloc ?_ (by first | exact Nat.le_refl _ | omega | (simp; done) | (simp; omega)) _)); first | done | fail)) (by unfold maxLen; omega) (by omega) (by first | exact Nat.le_refl _ | omega | (simp; done) | (simp; omega)) ?_
                             intro v1 wa1 hown1 hg1 _
                             have XA1 := Lib.hid (Below.grown (show Below w9.heap.size w9 _ from (by (repeat (with_reducible first | exact Below.refl _ _ | refine Below.drew ?_ | refine Below.alloc ?_ (by first | exact Nat.le_refl _ | omega | (simp; done) | (simp; omega)) _)); first | done | fail)) hg1 (by first | exact Nat.le_refl _ | omega | (simp; done) | (simp; omega)) (fun k e => by have e2 := Option.some.inj e; dsimp only at e2; omega))
                             rw [Nat.zero_add, List.nil_append] at hown1
                             have HO1 := Lib.hid hown1
                             have hs6 := XA1.out.size
                             have hs6' := hg1.size
                             try simp at hs6'
                             first | (have hgE : World.grownBy _ wa1 (some w9.heap.size) := hg1) | (have hgE : World.grownBy _ wa1 (some (w9.heap.size + 1)) := hg1)
                             first | (have HM6 := Lib.hid (show wa1.heap[w9.heap.size]? = some (.cells #[.string cn, .slice K dl kc] 44 (0, 0)) from (hgE.block w9.heap.size (by first | exact Nat.le_refl _ | omega | (simp; done) | (simp; omega)) (fun e => by have := Option.some.inj e; omega)).trans (by (repeat (with_reducible first | exact nw (by first | rfl | (simp; done) | (simp; omega)) | refine dr ?_ | refine od ?_)); first | done | fail))) | (have HM6 := Lib.hid (show wa1.heap[(w9.heap.size + 1)]? = some (.cells #[.string cn, .slice K dl kc] 44 (0, 0)) from (hgE.block (w9.heap.size + 1) (by first | exact Nat.le_refl _ | omega | (simp; done) | (simp; omega)) (fun e => by have := Option.some.inj e; omega)).trans (by (repeat (with_reducible first | exact nw (by first | rfl | (simp; done) | (simp; omega)) | refine dr ?_ | refine od ?_)); first | done | fail))) | skip
                             clear hown1 hg1 hgE
                             dsimp only))
                          | (show (if Region.wanted ⟨some 142, _, _, _, _, _⟩ _ = true then _ else _)
                             go_loud (
                             refine step_rows elF (base := w9.heap.size) (c := 1) rfl (.tmp 135) (.tmp 141) rfl rfl rfl (own_go HO1.out (show Below wa1.heap.size wa1 _ from (by (repeat (with_reducible first | exact Below.refl _ _ | refine Below.drew ?_ | refine Below.alloc ?_ (by first | exact Nat.le_refl _ | omega | (simp; done) | (simp; omega)) _)); first | done | fail))) (oneF (by (repeat (with_reducible first | exact nw (by first | rfl | (simp; done) | (simp; omega)) | exact HM6.out | refine dr ?_ | refine od ?_)); first | done | fail)) (by unfold maxLen; omega) (by omega) (by first | exact Nat.le_refl _ | omega | (simp; done) | (simp; omega)) ?_
                             intro v2 wa2 hown2 hg2 _
                             have XA2 := Lib.hid (Below.grown (show Below w9.heap.size w9 _ from (by (repeat (with_reducible first | exact Below.refl _ _ | exact XA1.out | refine Below.drew ?_ | refine Below.alloc ?_ (by first | exact Nat.le_refl _ | omega | (simp; done) | (simp; omega)) _)); first | done | fail)) hg2 (by first | exact Nat.le_refl _ | omega | (simp; done) | (simp; omega)) (fun k e => (HO1.out.lt k e).1))
                             have HO2 := Lib.hid hown2
                             clear hown2 hg2
                             dsimp only))
                          | (show (if Region.wanted ⟨some 146, _, _, _, _, _⟩ _ = true then _ else _)
                             go_loud (
                             refine step_rows elF (base := w9.heap.size) (c := c2) rfl (.tmp 142) (.tmp 145) rfl rfl rfl HO2.out (src_keep HDR.out XA2.out) (by unfold maxLen; omega) (by omega) (XA2.out.size) ?_
                             intro v3 wa3 hown3 hg3 _
                             have XA3 := Lib.hid (Below.grown XA2.out hg3 XA2.out.size (fun k e => (HO2.out.lt k e).1))
                             obtain ⟨A3, c3, rfl, hc3⟩ := RkR.own_slice hown3
                             have HO3 := Lib.hid hown3
                             clear hown3 hg3
                             dsimp only)))
                        all_goals
                          have HOE := Lib.hid (_root_.Go.Joins.ownsRow_le (base' := w5.heap.size) HO3.out (Nat.le_trans HXE.out.size HX9.out.size))
                          have HXF := Lib.hid (HXE.out.trans ((HX9.out.trans (XA3.out.mono HX9.out.size)).mono HXE.out.size))
                          go_wp2_with fail
                          go_roundw
                          case measure => simp [intOf]; omega
                          case rel => exact ⟨k + 1, A3, q + 1 + n2, c3, ns.take q ++ (cn, ⟨K, kc, kd⟩) :: ns.drop q, by omega, by go_num, rfl, by omega, hc3, Lib.hid (by
                              rw [HDA.out, List.map_append, List.map_cons, List.map_take, List.map_drop]
                              exact HPUT.out), fun r hr => by
                                rcases List.mem_append.1 hr with hr | hr
                                · exact HDS.out r (List.mem_of_mem_take hr)
                                · rcases List.mem_cons.1 hr with rfl | hr
                                  · exact HDC.out
                                  · exact HDS.out r (List.mem_of_mem_drop hr), by
                              have h := HOE.out
                              rw [fc_append, show fc ((cn, (⟨K, kc, kd⟩ : RD)) :: ns.drop q) = [.string cn, .slice K dl kc] ++ fc (ns.drop q) by rw [HDL.out]; rfl]
                              rw [List.append_assoc] at h
                              exact h, HXF⟩
          · obtain rfl : k = m := by omega
            have hkl : l.length = k := HM.out.chs.1
            have S6 := Lib.hid (S5.out.go HX.out)
            have B6 := Lib.hid (up B5.out (Nat.le_refl _) HX.out)
            have W6 := Lib.hid (show FWt wr w.heap.size WA wn (dall A l) from ⟨rs, by rw [HMAP.out, List.take_of_length_le (by rw [hkl]; exact Nat.le_refl _)], FWr.own HO.out (fun r hr => (HD.out r hr).kw (Kw.below HX.out B5.out.size))⟩)
            have G6 := Lib.hid (FWt.of (base := w.heap.size) (F5.out.kp (Kp.below HX.out (Nat.le_refl _))))
            clear HMAP HD HO HX F5 S5
            have hstate := all_state (p1 := ps) (p2 := qs) (f := fuO (fz y)) (s := fuS s1 (fuO (fz x))) (l := l) (SfV.Cl.fu C1.out _) K1.out HF.out
            rw [hkl] at hstate
            have KU := Lib.hid (fuseX S6.out.rx (fz x) (fz_le x))
            obtain ⟨s2, hs2⟩ : ∃ s2, s2 = fuS s1 (fuO (fz x)) := ⟨_, rfl⟩
            rw [← hs2] at KU hstate
            unfold ptr at KU
            clear hs2 HDN
            go_upto_region 29 with (go_at_call 22; go_loud (refine KU.out.mono ?_; rintro e wa ⟨rfl, h1, h2⟩; have Sa := Lib.hid (S6.out.turn h1 h2); have Ba := Lib.hid (B6.out.trans (h2.to S6.out.rx.bs)); have Wa := Lib.hid (W6.out.kw (Kw.fq S6.out.rx h2)); have Ga := Lib.hid (G6.out.kw (Kw.fq S6.out.rx h2)); clear h1 h2))
            have KC := Lib.hid (commit_any (cp := mc) Sa.out (by omega) (chs_mono (fun _ => pb_more) (HM.out.keep Ba.out).chs) (by omega) SZ2.out)
            obtain ⟨E3, hE3⟩ : ∃ E3, E3 = comE s2 l := ⟨_, rfl⟩
            obtain ⟨s3, hs3⟩ : ∃ s3, s3 = comS s2 l := ⟨_, rfl⟩
            rw [← hE3, ← hs3] at KC hstate
            unfold ptr at KC
            clear hE3 hs3 KU
            go_upto_region 30 with (go_at_call 18; go_loud (refine KC.out.mono ?_; rintro e wb ⟨rfl, h1, h2⟩; have Rb := Lib.hid h1.rx; have Bb := Lib.hid (Ba.out.trans (h2.to Sa.out.rx.bs)); have Wb := Lib.hid (Wa.out.kw (Kw.fq Sa.out.rx h2)); have Gb := Lib.hid (Ga.out.kw (Kw.fq Sa.out.rx h2)); clear h1 h2))
            have KK := Lib.hid (crashX (dc := pc) Rb.out (by omega) (HP.out.below Bb.out (Nat.le_refl _)) Bb.out.size (by omega))
            obtain ⟨s4, hs4⟩ : ∃ s4, s4 = crS s3 ps := ⟨_, rfl⟩
            rw [← hs4] at KK hstate
            unfold ptr at KK
            clear hs4 KC
            go_upto_region 31 with (go_at_call 23; go_loud (refine KK.out.mono ?_; rintro e wd ⟨rfl, h1, h2⟩; have Rd := Lib.hid h1; have Bd := Lib.hid (Bb.out.trans (h2.to Rb.out.bs)); have Wd := Lib.hid (Wb.out.kw (Kw.fq Rb.out h2)); have Gd := Lib.hid (Gb.out.kw (Kw.fq Rb.out h2)); clear h1 h2))
            have KU := Lib.hid (fuseX Rd.out (fz y) (fz_le y))
            obtain ⟨s5, hs5⟩ : ∃ s5, s5 = fuS s4 (fuO (fz y)) := ⟨_, rfl⟩
            rw [← hs5] at KU hstate
            unfold ptr at KU
            clear hs5 KK
            go_upto_region 32 with (go_at_call 22; go_loud (refine KU.out.mono ?_; rintro e we ⟨rfl, h1, h2⟩; have Re := Lib.hid h1; have Be := Lib.hid (Bd.out.trans (h2.to Rd.out.bs)); have We := Lib.hid (Wd.out.kw (Kw.fq Rd.out h2)); have Ge := Lib.hid (Gd.out.kw (Kw.fq Rd.out h2)); clear h1 h2))
            obtain ⟨D, hD, hD0, hEE, hOO, hf1, hf2, hO2, hC2⟩ := hstate
            have KO := Lib.hid (open_any (J := k) Re.out (by omega) hf1)
            obtain ⟨E6, hE6⟩ : ∃ E6, E6 = opE s5 := ⟨_, rfl⟩
            obtain ⟨s6, hs6⟩ : ∃ s6, s6 = opS s5 := ⟨_, rfl⟩
            rw [← hs6] at KO hf2 hO2 hC2
            rw [← hE6] at KO hOO
            have HOO := Lib.hid hOO
            have HEE := Lib.hid hEE
            have HDD := Lib.hid hD
            have HD0 := Lib.hid hD0
            unfold ptr at KO
            clear hE6 hs6 KU hf1 hOO hEE hD hD0
            go_upto_region 33 with (go_at_call 17; go_loud (
               refine KO.out.mono ?_
               rintro e wf ⟨v, rfl, h1, h2, h5, h6⟩
               have Rf := Lib.hid h1
               have Bf := Lib.hid (Be.out.trans (h2.to Re.out.bs))
               have Wf := Lib.hid (We.out.kw (Kw.fq Re.out h2))
               have Gf := Lib.hid (Ge.out.kw (Kw.fq Re.out h2))
               clear h1 h2 h5 h6))
            clear KO
            go_cut [177] (fun s177 wx => s177 = .bool false ∧ wx = wf)
            case first =>
              rcases HOO.out with h | h
              · subst h
                go_wp2_with fail
                go_meet
                exact ⟨rfl, rfl⟩
              · subst h
                go_wp2_with fail
                go_meet
                exact ⟨rfl, rfl⟩
            case rest =>
              obtain ⟨rfl, rfl⟩ := hcut
              have KK := Lib.hid (crashX (dc := qc) Rf.out (by omega) (HQ.out.below Bf.out (Nat.le_refl _)) Bf.out.size (by omega))
              obtain ⟨s7, hs7⟩ : ∃ s7, s7 = crS s6 qs := ⟨_, rfl⟩
              rw [← hs7] at KK hf2 hO2 hC2
              unfold ptr at KK
              clear hs7
              go_upto_region 36 with (go_at_call 23; go_loud (refine KK.out.mono ?_; rintro e wg ⟨rfl, h1, h2⟩; have Rg := Lib.hid h1; have Bg := Lib.hid (Bf.out.trans (h2.to Rf.out.bs)); have Wg := Lib.hid (Wf.out.kw (Kw.fq Rf.out h2)); have Gg := Lib.hid (Gf.out.kw (Kw.fq Rf.out h2)); clear h1 h2))
              have KO := Lib.hid (open_any (J := k) Rg.out (by omega) hf2)
              obtain ⟨s8, hs8⟩ : ∃ s8, s8 = opS s7 := ⟨_, rfl⟩
              rw [hO2, ← hs8] at KO
              rw [← hs8] at hC2
              have C8 := Lib.hid hC2
              unfold ptr at KO
              clear hs8 hf2 hO2 hC2 KK
              go_upto_region 37 with (go_at_call 17; go_loud (
                 refine KO.out.mono ?_
                 rintro e wh ⟨v, rfl, h1, h2, _, h4⟩
                 obtain ⟨S', rfl, _, _⟩ := h4 rfl
                 have Rh := Lib.hid h1
                 have Bh := Lib.hid (Bg.out.trans (h2.to Rg.out.bs))
                 have Wh := Lib.hid (Wg.out.kw (Kw.fq Rg.out h2))
                 have Gh := Lib.hid (Gg.out.kw (Kw.fq Rg.out h2))
                 clear h1 h2 h4))
              have KS := Lib.hid (sureX Rh.out (by omega))
              rw [C8.out.sure] at KS
              obtain ⟨en, hen⟩ : ∃ en, en = D.length := ⟨_, rfl⟩
              have hel : en ≤ 100000 := by have := Rh.out.ok.files.len; rw [C8.out.files] at this; omega
              unfold SuPost ptr at KS
              rw [← hen] at KS
              clear hen KO
              go_upto_region 40 with (go_at_call 20; go_loud (refine KS.out.mono ?_; rintro e wi ⟨Ai, ci, rfl, _, h2, h3⟩; have Fi := Lib.hid h2; have Bi := Lib.hid (up Bh.out (Nat.le_refl _) h3); have Wi := Lib.hid (Wh.out.kw (Kw.below h3 Bh.out.size)); have Gi := Lib.hid (Gh.out.kw (Kw.below h3 Bh.out.size)); clear h2 h3))
              have KE := Lib.hid (same_filesW (c1 := ci) (c2 := wk) Fi.out Wi.out Bi.out.size hel)
              clear KS
              rcases HEE.out with h | h
              · subst h
                have hDe := HD0.out rfl
                rw [decide_eq_true hDe] at KE
                clear hDe
                go_wp2_with (first
                  | (go_at_call 21; go_loud (refine KE.out.mono ?_; rintro e wj ⟨rfl, h3⟩; have Bj := Lib.hid (up Bi.out (Nat.le_refl _) h3); clear h3))
                  | (go_at_call 10; go_loud (refine (KA.out _).mono ?_; rintro e wk ⟨rfl, hb⟩; have Bk := Lib.hid (up Bj.out (Nat.le_refl _) hb); clear hb)))
                go_ret
                exact ⟨rfl, Bk.out⟩
              · subst h
                by_cases hDe : D = dall A l
                · rw [decide_eq_true hDe] at KE
                  clear hDe
                  go_wp2_with (first
                    | (go_at_call 21; go_loud (refine KE.out.mono ?_; rintro e wj ⟨rfl, h3⟩; have Bj := Lib.hid (up Bi.out (Nat.le_refl _) h3); clear h3))
                    | (go_at_call 10; go_loud (refine (KA.out _).mono ?_; rintro e wk ⟨rfl, hb⟩; have Bk := Lib.hid (up Bj.out (Nat.le_refl _) hb); clear hb)))
                  go_ret
                  exact ⟨rfl, Bk.out⟩
                · rw [decide_eq_false hDe] at KE
                  have hDA : D = A := by
                    rcases HDD.out with h | h
                    · exact h
                    · exact absurd h hDe
                  subst hDA
                  have KE2 := Lib.hid (fun (wx : World) (hb : Below wi.heap.size wi wx) => same_filesW (c1 := ci) (c2 := c4) (Fi.out.kp (Kp.below hb (Nat.le_refl _))) (Gi.out.kw (Kw.below hb Bi.out.size)) (Nat.le_trans Bi.out.size hb.size) hel)
                  rw [decide_eq_true rfl] at KE2
                  clear hDe
                  go_wp2_with (first
                    | (go_at_call 21; go_loud (refine (KE2.out _ Yj.out).mono ?_; rintro e wl ⟨rfl, h3⟩; have Bl := Lib.hid (up Bj.out (Nat.le_refl _) h3); clear h3))
                    | (go_at_call 21; go_loud (refine KE.out.mono ?_; rintro e wj ⟨rfl, h3⟩; have Yj := Lib.hid h3; have Bj := Lib.hid (up Bi.out (Nat.le_refl _) h3); clear h3))
                    | (go_at_call 10; go_loud (refine (KA.out _).mono ?_; rintro e wk ⟨rfl, hb⟩; have Bk := Lib.hid (up Bl.out (Nat.le_refl _) hb); clear hb)))
                  go_ret
                  exact ⟨rfl, Bk.out⟩
end Go.Proofs.Ytolkghdeppoanaa.SwY
