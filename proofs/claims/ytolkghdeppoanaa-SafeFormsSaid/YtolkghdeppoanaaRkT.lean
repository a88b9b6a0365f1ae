/-
  Cut and Crash of the program.
-/
import Derived.Test.YtolkghdeppoanaaRkU
set_option linter.unusedVariables false
set_option linter.unusedSimpArgs false
namespace Go.Proofs.Ytolkghdeppoanaa.RkT
open Go.RowKit Go.Proofs.Ytolkghdeppoanaa.BxD Go.Proofs.Ytolkghdeppoanaa.BxKit Go.Proofs.Ytolkghdeppoanaa.RkO Go.Proofs.Ytolkghdeppoanaa.RkC Go.Proofs.Ytolkghdeppoanaa.RkD Go.Proofs.Ytolkghdeppoanaa.RkR Go.Proofs.Ytolkghdeppoanaa.RkK Go.Proofs.Ytolkghdeppoanaa.RkP Go.Proofs.Ytolkghdeppoanaa.RkQ Go.Proofs.Ytolkghdeppoanaa.RkE Go.Proofs.Ytolkghdeppoanaa.RkS Go.Proofs.Ytolkghdeppoanaa.RkM Go.Proofs.Ytolkghdeppoanaa.RkN Go.Proofs.Ytolkghdeppoanaa.RkV Go.Proofs.Ytolkghdeppoanaa.RkW Go.Proofs.Ytolkghdeppoanaa.RkU
section
variable {w : World} {base T : Nat} {s : St} {SA FA LA : Option Addr} {sn sc fn fcp ln lc : Nat}
set_option maxRecDepth 100000 in
set_option maxHeartbeats 4000000 in
theorem Cut_any (h : Rk w base T s SA sn sc FA fn fcp LA ln lc) {k : Nat} (hk : Ok k s) (h6 : k ≤ 900) {n : ByteArray} (hbase : base ≤ w.heap.size) (hm : fuseV s.fuse ≤ 9223372036854775807) :
    Calls Try.prog 63 #[ptr T, .string n] w (RkPost w base T LA (ctS s n) (.returned (.int .i64 (ctE s n)))) := by
  have KN := Lib.hid (mayName_any n w)
  obtain ⟨c0, c1, c2, c3, c4, c5, c6, c7, cf⟩ := h.cells rfl
  have HH := Lib.hid h
  have HT := Lib.hid h.lt
  have hfl := h.files.len
  have hfn : fn ≤ 900 := by have := hk.files.len; omega
  clear cf
  cases ho : okN n with
  | false =>
    rw [ho] at KN
    have HP := Lib.hid (RkPost.same h (Below.refl _ _) (.returned (.int .i64 1)))
    have hE : ctE s n = 1 := by unfold ctE; rw [ho]; rfl
    have hS : ctS s n = s := by unfold ctS; rw [ho]; rfl
    rw [hE, hS]
    clear h ho hE hS
    unfold ptr
    go_enter Try.func63, Try.ntmps63
    go_wp2_with (go_at_call 64; go_loud (refine KN.out.mono ?_; rintro e w1 ⟨rfl, rfl⟩))
    go_ret
    exact HP.out
  | true =>
    rw [ho] at KN
    cases hd : s.down with
    | true =>
      have HP := Lib.hid (RkPost.same h (Below.refl _ _) (.returned (.int .i64 5)))
      have hE : ctE s n = 5 := by unfold ctE; rw [ho, hd]; rfl
      have hS : ctS s n = s := by unfold ctS; rw [ho, hd]; rfl
      rw [hE, hS]
      rw [hd] at c5
      clear h ho hE hS
      unfold ptr
      go_enter Try.func63, Try.ntmps63
      go_wp2_with (go_at_call 64; go_loud (refine KN.out.mono ?_; rintro e w1 ⟨rfl, rfl⟩))
      go_ret
      exact HP.out
    | false =>
      rw [hd] at c5
      have KP := Lib.hid (place_any (cap := fcp) n (by omega) hk.files.srt h.files)
      unfold PlPost at KP
      cases hh : hitF n s.files with
      | false =>
        have hE : ctE s n = 6 := by unfold ctE; rw [ho, hd, hh]; rfl
        have hS : ctS s n = s := by unfold ctS; rw [ho, hd, hh]; rfl
        rw [hE, hS]
        rw [hh] at KP
        clear h ho hh hd hE hS
        unfold ptr
        go_enter Try.func63, Try.ntmps63
        go_wp2_with (first
          | (go_at_call 64; go_loud (refine KN.out.mono ?_; rintro e w1 ⟨rfl, rfl⟩))
          | (go_at_call 61; go_loud (refine KP.out.mono ?_; rintro e w1 ⟨rfl, hb1⟩; have HP := Lib.hid (RkPost.same HH.out hb1 (.returned (.int .i64 6))); clear hb1)))
        go_ret
        exact HP.out
      | true =>
        have hE : ctE s n = goE s := by unfold ctE; rw [ho, hd, hh]; rfl
        have hS : ctS s n = goS s ⟨n, true, []⟩ (cutF n s.files) := by unfold ctS; rw [ho, hd, hh]; rfl
        rw [hE, hS]
        rw [hh] at KP
        clear hE hS
        obtain ⟨S', hS'⟩ : ∃ S', S' = goS s ⟨n, true, []⟩ (cutF n s.files) := ⟨_, rfl⟩
        obtain ⟨E', hE'⟩ : ∃ E', E' = goE s := ⟨_, rfl⟩
        rw [← hS', ← hE']
        have HS' := Lib.hid hS'
        have HE' := Lib.hid hE'
        obtain ⟨nx, hnx⟩ : ∃ nx, nx = cutF n s.files := ⟨_, rfl⟩
        have HNX := Lib.hid hnx
        clear h ho hh hd hS' hE' hnx c0 c1 c3 c4 c6 c7
        unfold ptr
        go_enter Try.func63, Try.ntmps63
        go_upto_region 9 with (first
          | (go_at_call 64; go_loud (refine KN.out.mono ?_; rintro e w1 ⟨rfl, rfl⟩))
          | (go_at_call 61; go_loud (refine KP.out.mono ?_; rintro e w1 ⟨rfl, hb1⟩; have HB1 := Lib.hid hb1; clear hb1)))
        obtain ⟨W2, hW2⟩ : ∃ W2, W2 = w1.alloc (.cells #[.string n, .bool true, .slice none 0 0] 42) := ⟨_, rfl⟩
        have hB2 : Below w.heap.size w W2 := by rw [hW2]; exact HB1.out.alloc HB1.out.size _
        have hP : Row W2 w1.heap.size 42 [.string n, .bool true, .slice none 0 0] := by rw [hW2]; exact heap_alloc_new w1 _
        have HS2 := Lib.hid (show w1.heap.size < W2.heap.size by rw [hW2]; simp)
        rw [← hW2]
        have p0 : W2.cell? { block := w1.heap.size, off := 0 } = some (.string n) := hP.cell 0
        have p1 : W2.cell? { block := w1.heap.size, off := 1 } = some (.bool true) := hP.cell 1
        have p2 : W2.cell? { block := w1.heap.size, off := 2 } = some (.slice none 0 0) := hP.cell 2
        have x2 : W2.cell? { block := T, off := 2 } = some (.slice FA fn fcp) := (hB2.cell (p := ⟨T, 2, none⟩) HT.out).trans c2
        have KD := Lib.hid (done_cut (w := W2.drew) (k := n) (cp := fcp) (K := none) (dn := 0) (kc := 0) (HH.out.files.kp (Kp.drew (Kp.below hB2 (Nat.le_refl _)))) (by omega) HH.out.fcap hk.files.srt)
        unfold DnPost at KD
        rw [← HNX.out] at KD
        have HB2 := Lib.hid hB2
        have HCL := Lib.hid (fun (w3 : World) (hb : Below W2.heap.size W2 w3) => show w3.cell? { block := w1.heap.size, off := 0 } = some (.string n) ∧ w3.cell? { block := w1.heap.size, off := 1 } = some (.bool true) ∧ w3.cell? { block := w1.heap.size, off := 2 } = some (.slice none 0 0) from
          ⟨(hb.cell (p := ⟨w1.heap.size, 0, none⟩) HS2.out).trans p0, (hb.cell (p := ⟨w1.heap.size, 1, none⟩) HS2.out).trans p1, (hb.cell (p := ⟨w1.heap.size, 2, none⟩) HS2.out).trans p2⟩)
        obtain ⟨q, hq⟩ : ∃ q, q = nx.length := ⟨_, rfl⟩
        rw [← hq] at KD
        clear hW2 hB2 hP c2 c5 KP KN hq
        go_region_law (go_simp; first
          | (go_at_call 48; go_loud (
             refine KD.out.mono ?_
             rintro e w3 ⟨A3, k3, rfl, hk3, hf3, hw3⟩
             have HB3 := Lib.hid (show Below W2.heap.size W2 w3 from (Below.drew (Below.refl W2.heap.size W2)).trans hw3)
             obtain ⟨y0, y1, y2⟩ := HCL.out w3 HB3.out
             have HB30 := Lib.hid (HB2.out.trans (HB3.out.mono HB2.out.size))
             have KW := Lib.hid (show Calls Try.prog 66 #[ptr T, .agg #[.string n, .bool true, .slice none 0 0], .slice A3 q k3] w3 (RkPost w base T LA S' (.returned (.int .i64 E'))) by
               have hW := write_any (HH.out.below HB30.out) hk (by omega) (x := n) (b := true) (d := []) (K := none) (kc := 0) hf3 hk3 (ByT.nil _ _) (Nat.le_refl _) (Nat.le_trans hbase HB30.out.size) hm
               rw [HE'.out, HS'.out, ← HNX.out]
               exact hW.mono fun e w' h => RkPost.lift HB30.out h)
             clear hf3 hw3
             dsimp only))
          | (go_at_call 66; go_loud (
             refine KW.out.mono ?_
             rintro e w5 ⟨rfl, hg⟩
             have HG := Lib.hid hg
             clear hg
             dsimp only)))
        all_goals
          go_wp2_with fail
          go_ret
          exact ⟨rfl, HG.out⟩
set_option maxRecDepth 100000 in
theorem Fr.tr {a b c : World} {T : Nat} {LA LA2 : Option Addr} (h : Fr a b T LA) (hl : LNew a LA LA2) (g : Fr b c T LA2) : Fr a c T LA := by
  refine ⟨g.os.trans h.os, g.tape.trans h.tape, g.output.trans h.output, Nat.le_trans h.size g.size, fun k hk h1 h2 => ?_⟩
  refine (g.block k (Nat.lt_of_lt_of_le hk h.size) h1 fun ad e => ?_).trans (h.block k hk h1 h2)
  rcases hl ad e with h3 | ⟨ad2, h3, h4⟩
  · omega
  · rw [h4]; exact h2 ad2 h3
set_option maxRecDepth 100000 in
theorem cr_done {ps : List UInt8} {cs : List Ch} {i : Nat} {l : List F} {c : Ch} (h : cs[i]? = some c) : cr ps (cs.drop i) i l = cr ps (cs.drop (i + 1)) (i + 1) (if picked ps i then doneC l c else l) := by
  obtain ⟨hl, rfl⟩ := List.getElem?_eq_some_iff.1 h
  rw [List.drop_eq_getElem_cons hl]; rfl
set_option maxRecDepth 100000 in
theorem bit0 (c : UInt8) : (bits .and .u8 (c.toNat : Int) 1 == 1) = (c.toNat % 2 == 1) := by
  have h : ∀ k : Fin 256, (bits .and .u8 ((k : Nat) : Int) 1 == 1) = ((k : Nat) % 2 == 1) := by decide +kernel
  exact h ⟨c.toNat, c.toNat_lt⟩
set_option maxRecDepth 100000 in
set_option maxHeartbeats 4000000 in
theorem crash_any (h : Rk w base T s SA sn sc FA fn fcp LA ln lc) {k : Nat} (hk : Ok k s) (h6 : k ≤ 900) {D : Option Addr} {dn dc B : Nat} {ps : List UInt8} (hD : PkKit.BytesAt w B D dn ps) (hB : B ≤ w.heap.size) (hdn : dn ≤ 100000000) :
    Calls Try.prog 23 #[ptr T, .slice D dn dc] w (RkPost w base T LA (crS s ps) (.returned (.tuple #[]))) := by
  obtain ⟨c0, c1, c2, c3, c4, c5, c6, c7, cf⟩ := h.cells rfl
  have HH := Lib.hid h
  have HD := Lib.hid hD
  have hlen := h.loose.len
  have hl9 : ln ≤ 900 := by have := hk.loose; omega
  have hpl := hD.1
  have HPL := Lib.hid hpl
  obtain ⟨LA0, hLA0⟩ : ∃ LA0, LA0 = LA := ⟨_, rfl⟩
  rw [← hLA0] at HH c3 ⊢
  clear h hD cf hpl hLA0
  unfold ptr
  go_enter Try.func23, Try.ntmps23
  go_wp2_with fail
  go_loopw [18, 4] (fun s18 s4 wr => ∃ (q n c : Nat) (A : Option Addr) (cur : List F), q ≤ ln ∧ s18 = .int .i64 q ∧ s4 = .slice A n c ∧ n ≤ c ∧ Hid (FilesT wr A n cur) ∧ Hid (Below w.heap.size w wr) ∧ Hid (Fok (s.sure.length + q) cur) ∧ Hid (cr ps (s.loose.drop q) q cur = cr ps s.loose 0 s.sure)) (fun s18 _ _ => ln - (intOf s18).toNat)
  case atStart => exact ⟨0, sn, sc, SA, s.sure, Nat.zero_le _, rfl, rfl, HH.out.scap, HH.out.sure, Below.refl _ _, hk.sure, rfl⟩
  case round =>
    obtain ⟨q, n, c, A, cur, hq, rfl, rfl, hnc, HF, HB, HO, HC⟩ := hrel
    have hsz := HB.out.size
    by_cases hlt : q < ln
    · obtain ⟨ad, x, b, K, kd, kc, rfl, hp, d0, d1, d2, hle, hby⟩ := HH.out.loose.sp HB.out hlt
      have hcd := cr_done (ps := ps) (l := cur) hp
      rw [HC.out] at hcd
      have hch := hk.ch _ (List.mem_of_getElem? hp)
      have HDN := Lib.hid hcd
      have HCH := Lib.hid hch
      have HBY := Lib.hid hby
      obtain ⟨m, hm⟩ : ∃ m, m = kd.length := ⟨_, rfl⟩
      rw [← hm] at d2
      have HM := Lib.hid hm
      have hn9 : n ≤ 900 := by have := HO.out.len; have := HF.out.len; have := hk.loose; omega
      have HLE := Lib.hid hle
      clear hp hcd hch hby hm hle
      have hnext : picked ps q = false → Hid (∃ (q' n' c' : Nat) (A' : Option Addr) (cur' : List F), q' ≤ ln ∧ Value.int .i64 ((q : Int) + 1) = .int .i64 q' ∧ Value.slice A n c = .slice A' n' c' ∧ n' ≤ c' ∧ Hid (FilesT (wr.alloc (.cells #[.string x, .bool b, .slice K m kc] 42)) A' n' cur') ∧ Hid (Below w.heap.size w (wr.alloc (.cells #[.string x, .bool b, .slice K m kc] 42))) ∧ Hid (Fok (s.sure.length + q') cur') ∧ Hid (cr ps (s.loose.drop q') q' cur' = cr ps s.loose 0 s.sure)) := fun hpk => by
        refine ⟨q + 1, n, c, A, cur, by omega, by push_cast; rfl, rfl, hnc, HF.out.kp (Kp.alloc _ _), HB.out.alloc hsz _, HO.out.mono (by omega), ?_⟩
        have := HDN.out
        rw [hpk] at this
        exact this.symm
      by_cases hqd : q < dn
      · obtain ⟨pa, pc, rfl, e1, e2⟩ := (HD.out.below (HB.out.alloc hsz (.cells #[.string x, .bool b, .slice K m kc] 42)) hB).at_ hqd
        have hbit := bit0 pc
        have hpk : picked ps q = (pc.toNat % 2 == 1) := by unfold picked; rw [e1]
        have hqi : (q : Int) < (dn : Int) := by omega
        cases hb1 : (pc.toNat % 2 == 1) with
        | false =>
          rw [hb1] at hbit hpk
          have HNX := hnext hpk
          clear hnext hpk hb1 e1
          go_wp2_with fail
          go_roundw
          case rel => exact HNX
          case measure => simp [intOf]; omega
        | true =>
          rw [hb1] at hbit hpk
          have hds := HDN.out
          rw [hpk, if_pos rfl] at hds
          have HDS := Lib.hid hds
          have hKa : Kp wr (wr.alloc (.cells #[.string x, .bool b, .slice K m kc] 42)) := Kp.alloc _ _
          have KD := Lib.hid (show Calls Try.prog 48 #[.slice A n c, .agg #[.string x, .bool b, .slice K m kc]] (wr.alloc (.cells #[.string x, .bool b, .slice K m kc] 42)) (DnPost (doneC cur ⟨x, b, kd⟩) (wr.alloc (.cells #[.string x, .bool b, .slice K m kc] 42))) by
            unfold doneC
            cases b with
            | true => exact done_cut (HF.out.kp hKa) (by omega) hnc HO.out.srt
            | false =>
              have h1 := HBY.out
              have h2 := HLE.out
              have h3 := HM.out
              subst h3
              exact done_put (HF.out.kp hKa) (by omega) hnc HO.out.srt (h1.kp hKa) h2)
          unfold DnPost at KD
          have hok := HO.out.done (c := ⟨x, b, kd⟩) HCH.out
          obtain ⟨nx, hnx⟩ : ∃ nx, nx = doneC cur ⟨x, b, kd⟩ := ⟨_, rfl⟩
          rw [← hnx] at KD hok hds
          have HOK := Lib.hid hok
          have HDS2 := Lib.hid hds
          obtain ⟨n2, hn2⟩ : ∃ n2, n2 = nx.length := ⟨_, rfl⟩
          rw [← hn2] at KD
          clear hnext hpk hb1 e1 hok hds hnx hn2 hKa
          go_wp2_with (go_at_call 48; go_loud (
             refine KD.out.mono ?_
             rintro e w3 ⟨A3, k3, rfl, hk3, hf3, hw3⟩
             have HF3 := Lib.hid hf3
             have HB3 := Lib.hid ((HB.out.alloc hsz (.cells #[.string x, .bool b, .slice K m kc] 42)).trans (hw3.mono (by simp; omega)))
             clear hf3 hw3))
          go_roundw
          case rel => exact ⟨q + 1, n2, k3, A3, nx, by omega, by go_num, rfl, hk3, HF3, HB3, by rw [show s.sure.length + (q + 1) = s.sure.length + q + 1 by omega]; exact HOK, HDS2.out.symm⟩
          case measure => simp [intOf]; omega
      · have hpk : picked ps q = false := by unfold picked; rw [List.getElem?_eq_none (by rw [HPL.out]; omega)]
        have HNX := hnext hpk
        have hqi : ¬ (q : Int) < (dn : Int) := by omega
        clear hnext hpk
        go_wp2_with fail
        go_roundw
        case rel => exact HNX
        case measure => simp [intOf]; omega
    · obtain rfl : q = ln := by omega
      have hcur : cur = cr ps s.loose 0 s.sure := by
        have := HC.out
        rw [List.drop_of_length_le (by omega)] at this
        exact this
      have HCU := Lib.hid hcur
      have KS := Lib.hid (settle_any (HH.out.below HB.out) HF.out hnc)
      clear hcur
      have KS2 := Lib.hid (KS.out.mono fun e w5 (g : RkPost wr base T LA0 (seS s cur) (.returned (.tuple #[])) e w5) => show e = .returned (.tuple #[]) ∧ ∃ LA5, RkPost w base T LA0 (seS s cur) (.returned (.tuple #[])) (.returned (.tuple #[])) w5 ∧ RkX w5 base T (seS s cur) LA5 ∧ Fr w w5 T LA0 ∧ LNew w LA0 LA5 from by
        have g2 := RkPost.lift HB.out g
        obtain ⟨rfl, LA5, h1, h2, h3⟩ := g2
        exact ⟨rfl, LA5, ⟨rfl, LA5, h1, h2, h3⟩, h1, h2, h3⟩)
      unfold ptr at KS2
      clear KS c0 c1 c2 c3 c4 c5 c6 c7
      go_upto_region 9 with (go_at_call 49; go_loud (refine KS2.out.mono ?_; rintro e w5 ⟨rfl, LA5, _, g2, g3, g4⟩; have G2 := Lib.hid g2; have G3 := Lib.hid g3; have G4 := Lib.hid g4; clear g2 g3 g4))
      obtain ⟨SA5, sn5, sc5, FA5, fn5, fc5, ln5, lc5, hR5⟩ := G2.out
      obtain ⟨_, _, _, _, _, c5, _, _, cf⟩ := hR5.cells rfl
      have f5 := cf 5
      have hF6 : Fr w5 (w5.setCell { block := T, off := 5 } (.bool false)) T LA5 := (Fr.of (Below.refl _ _)).set 5 _
      have hR6 : Rk (w5.setCell { block := T, off := 5 } (.bool false)) base T { seS s cur with down := false } SA5 sn5 sc5 FA5 fn5 fc5 LA5 ln5 lc5 :=
        hR5.turn hF6 (hR5.head.stored 5 (.bool false)) hR5.sure hR5.scap hR5.files hR5.fcap (hR5.loose.keep (hR5.kp hF6) (setCell_grown w5 ⟨T, 5, none⟩ _) fun ad e e2 => hR5.TL e (Option.some.inj e2))
      have KF := Lib.hid ((fuse_any hR6 (-1)).mono fun e w7 (g : RkPost _ base T LA5 _ (.returned (.tuple #[])) e w7) => show e = .returned (.tuple #[]) ∧ RkPost w base T LA0 (crS s ps) (.returned (.tuple #[])) (.returned (.tuple #[])) w7 from by
        obtain ⟨rfl, LA7, h1, h2, h3⟩ := g
        have e7 : crS s ps = fuS { seS s cur with down := false } (fuO (-1)) := by unfold crS fuS seS; rw [HCU.out]; rfl
        rw [e7]
        refine ⟨rfl, rfl, LA7, h1, Fr.tr (Fr.tr G3.out G4.out hF6) G4.out h2, fun ad e => ?_⟩
        rcases h3 ad e with h4 | ⟨ad2, h4, h5⟩
        · exact .inl (Nat.le_trans G3.out.size (Nat.le_trans hF6.size h4))
        · rcases G4.out ad2 h4 with h6 | ⟨ad3, h6, h7⟩
          · exact .inl (by omega)
          · exact .inr ⟨ad3, h6, h5.trans h7⟩)
      unfold ptr at KF
      clear cf hR5 hF6 hR6 KS2
      go_wp2_with (go_at_call 22; go_loud (refine KF.out.mono ?_; rintro e w7 ⟨rfl, g⟩; have HG := Lib.hid g; clear g))
      go_end0
      exact HG.out
end
end Go.Proofs.Ytolkghdeppoanaa.RkT
