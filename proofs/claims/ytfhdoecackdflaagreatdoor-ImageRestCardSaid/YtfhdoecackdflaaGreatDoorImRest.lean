/-
  Each row of the rest is wanted, but High: the walk.
-/
import Derived.Test.YtfhdoecackdflaaGreatDoorImAw
import Derived.Test.YtfhdoecackdflaaGreatDoorBxH
import Derived.Deep.RegionHeld3
import Derived.Deep.DeepCutAuto
import Derived.Test.YtfhdoecackdflaaGreatDoorImO
import Derived.Test.YtfhdoecackdflaaGreatDoorK8
set_option linter.unusedVariables false
set_option linter.unusedSimpArgs false
namespace Go.Proofs.YtfhdoecackdflaaGreatDoor.ImRest
open Go.RowKit Go.Proofs.YtfhdoecackdflaaGreatDoor.BxD Go.Proofs.YtfhdoecackdflaaGreatDoor.BxKit Go.Proofs.YtfhdoecackdflaaGreatDoor.BxR Go.Proofs.YtfhdoecackdflaaGreatDoor.BxC Go.Proofs.YtfhdoecackdflaaGreatDoor.BxB Go.Proofs.YtfhdoecackdflaaGreatDoor.BxH Go.Proofs.YtfhdoecackdflaaGreatDoor.BxS Go.Proofs.YtfhdoecackdflaaGreatDoor.BxX Go.Proofs.YtfhdoecackdflaaGreatDoor.OlD Go.Proofs.YtfhdoecackdflaaGreatDoor.PtK Go.Proofs.YtfhdoecackdflaaGreatDoor.RwD Go.Proofs.YtfhdoecackdflaaGreatDoor.RwKit Go.Proofs.YtfhdoecackdflaaGreatDoor.RwRo Go.Proofs.YtfhdoecackdflaaGreatDoor.ImD Go.Proofs.YtfhdoecackdflaaGreatDoor.ImK Go.Proofs.YtfhdoecackdflaaGreatDoor.ImA Go.Proofs.YtfhdoecackdflaaGreatDoor.ImB Go.Proofs.YtfhdoecackdflaaGreatDoor.ImP Go.Proofs.YtfhdoecackdflaaGreatDoor.ImN Go.Proofs.YtfhdoecackdflaaGreatDoor.ImL Go.Proofs.YtfhdoecackdflaaGreatDoor.ImO
open Go.Proofs.YtfhdoecackdflaaGreatDoor.PkKit (BytesAt)

theorem form_k (x : Int) : ∃ k : Nat, (k = 1 ∨ k = 2 ∨ k = 3) ∧ wrap64 (1 + wrap64 ((IntKind.u64.wrap x).tmod 3)) = (k : Int) := by
  have h0 := wrap_u64_nonneg x
  generalize IntKind.u64.wrap x = y at h0
  have h1 : 0 ≤ y % 3 := Int.emod_nonneg _ (by decide)
  have h2 : y % 3 < 3 := Int.emod_lt_of_pos _ (by decide)
  rw [Int.tmod_eq_emod_of_nonneg h0]
  refine ⟨(1 + y % 3).toNat, by omega, ?_⟩
  unfold wrap64
  omega
theorem pick_j (x : Int) {n : Nat} (h : 0 < n) (hn : n ≤ 153) : ∃ j : Nat, j < n ∧ wrap64 ((IntKind.u64.wrap x).tmod (n : Int)) = (j : Int) := by
  have h0 := wrap_u64_nonneg x
  generalize IntKind.u64.wrap x = y at h0
  have h1 : 0 ≤ y % (n : Int) := Int.emod_nonneg _ (by omega)
  have h2 : y % (n : Int) < n := Int.emod_lt_of_pos _ (by omega)
  rw [Int.tmod_eq_emod_of_nonneg h0]
  refine ⟨(y % (n : Int)).toNat, by omega, ?_⟩
  unfold wrap64
  omega
theorem empty_row (W : World) : (W.alloc (.cells #[] 46)).drew.ownsRow W.heap.size 46 11 (.slice (some ⟨W.heap.size, 0, none⟩) 0 0) 0 [] :=
  ⟨rfl, .inr ⟨W.heap.size, 0, #[], rfl, Nat.le_refl _, heap_alloc_new W _, Nat.le_refl _, Nat.zero_le _, rfl, rfl⟩⟩
theorem rows_blk {w : World} {B n : Nat} {A : Option Addr} {l : List Row} (h : RowsAt w B A n l) (hn : 0 < n) : ∀ ad, A = some ad → ad.block < B := by
  intro ad e
  obtain ⟨ad', e', hlt, _⟩ := h.2.2 hn
  rw [e] at e'
  obtain rfl := Option.some.inj e'
  exact hlt
theorem less_keys {w : World} {B : Nat} {rs : List RRaw} {j i : Nat} (h : RKeys w B rs) : RKeys w B (rs.take j ++ rs.drop i) := fun q hq => h q (by
  rcases List.mem_append.1 hq with hq | hq
  · exact List.mem_of_mem_take hq
  · exact List.mem_of_mem_drop hq)
theorem part {l : List Row} {j : Nat} {r : Row} (h : l[j]? = some r) : l = l.take j ++ r :: l.drop (j + 1) := by
  have := (List.getElem?_eq_some_iff.1 h)
  obtain ⟨h1, h2⟩ := this
  rw [← h2, ← List.drop_eq_getElem_cons h1, List.take_append_drop]
set_option maxHeartbeats 8000000 in
set_option maxRecDepth 100000 in
theorem walk {b : Box} {WA MA : Option Addr} {wn wcp mn mcp : Nat} {x y : Int} {w : World} (ht : BxO.Tab w) (h1 : StrsAt w w.heap.size WA wn b.words) (h2 : MsgsAt w w.heap.size MA mn b.msgs) (hwc : wn ≤ wcp) (hmc : mn ≤ mcp) (z1 : b.id.size ≤ 140737488355328) :
    Calls Tryz.prog 5 #[.int .i64 x, .agg #[.string b.id, .int .i64 b.valid, .int .i64 b.next, .int .i64 b.high, .slice WA wn wcp, .slice MA mn mcp], .int .i64 y] w fun e w' => e = .returned (.bool true) ∧ Below w.heap.size w w' := by
  have KH := fun o => heavy_any (bid := b.id) (bv := b.valid) (bn := b.next) (bh := b.high) (wc := wcp) (mc := mcp) (StrsAt.below h1 ((Below.refl _ w).alloc (Nat.le_refl _) o) (Nat.le_refl _)) (MsgsAt.below h2 ((Below.refl _ w).alloc (Nat.le_refl _) o) (Nat.le_refl _)) (by simp) (by simp) z1
  have KM := fun (wr : World) (h : After w (.cells #[.string b.id, .int .i64 b.valid, .int .i64 b.next, .int .i64 b.high, .slice WA wn wcp, .slice MA mn mcp] 25) wr) => ref_may (bid := b.id) (bv := b.valid) (bn := b.next) (bh := b.high) (wc := wcp) (mc := mcp) (StrsAt.below h1 h.below (Nat.le_refl _)) (MsgsAt.below h2 h.below (Nat.le_refl _)) h.below.size hwc
  have HAW := Lib.hid (fun (wr : World) (hb : Below w.heap.size w wr) => ImAw.awake (ht.below hb (Nat.le_refl _)))
  have HS := Lib.hid (After.start w (.cells #[.string b.id, .int .i64 b.valid, .int .i64 b.next, .int .i64 b.high, .slice WA wn wcp, .slice MA mn mcp] 25))
  have HX := Lib.hid h1
  have HM := Lib.hid h2
  have HT := Lib.hid ht
  have HWC := Lib.hid hwc
  have HMC := Lib.hid hmc
  clear h1 h2 ht hwc hmc
  rcases hv_or b.id b.words b.msgs with hh | ⟨hh, _, _, _⟩
  · simp only [hh] at KH
    have K1 := Lib.hid KH
    clear KH hh KM
    go_enter Tryz.func5, Tryz.ntmps5
    go_wp2_with fail
    refine (K1.out _).mono ?_
    rintro e w1 ⟨rfl, hb1⟩
    have HB := Lib.hid (HS.out.go hb1).below
    clear hb1
    go_wp2_with (go_at_call 9; refine (HAW.out _ HB.out).mono ?_; rintro e w9 ⟨rfl, hb9⟩)
    go_ret
    exact ⟨rfl, (HB.out).trans (hb9.mono (HB.out).size)⟩
  simp only [hh] at KH
  have K1 := Lib.hid KH
  clear KH hh
  obtain ⟨em, hem⟩ : ∃ em, em = mbE b := ⟨_, rfl⟩
  simp only [show mbE ⟨b.id, b.valid, b.next, b.high, b.words, b.msgs⟩ = mbE b from rfl, ← hem] at KM
  have K2 := Lib.hid KM
  clear KM
  by_cases he : em = 0
  case neg =>
    have hne : (em != 0) = true := by simpa using he
    clear he hem
    go_enter Tryz.func5, Tryz.ntmps5
    go_wp2_with fail
    refine (K1.out _).mono ?_
    rintro e w1 ⟨rfl, hb1⟩
    have HB := Lib.hid (HS.out.go hb1)
    obtain ⟨b0, b1, b2, b3, b4, b5⟩ := HB.out.box
    clear hb1
    go_wp2_with fail
    refine (K2.out _ HB.out).mono ?_
    rintro e w2 ⟨rfl, hb2⟩
    have HB2 := Lib.hid (HB.out.go hb2).below
    clear hb2
    go_wp2_with (go_at_call 9; refine (HAW.out _ HB2.out).mono ?_; rintro e w9 ⟨rfl, hb9⟩)
    go_ret
    exact ⟨rfl, (HB2.out).trans (hb9.mono (HB2.out).size)⟩
  subst he
  have HE := Lib.hid hem.symm
  clear hem
  go_enter Tryz.func5, Tryz.ntmps5
  go_wp2_with fail
  refine (K1.out _).mono ?_
  rintro e w1 ⟨rfl, hb1⟩
  have HB := Lib.hid (HS.out.go hb1)
  obtain ⟨b0, b1, b2, b3, b4, b5⟩ := HB.out.box
  clear hb1 K1 HS
  go_upto_region 3 with (go_at_call 8; go_loud (
     refine (K2.out _ HB.out).mono ?_
     rintro e w2 ⟨rfl, hb2⟩
     have HB2 := Lib.hid (HB.out.go hb2)
     clear hb2 b0 b1 b2 b3 b4 b5))
  obtain ⟨b0, b1, b2, b3, b4, b5⟩ := HB2.out.box
  clear K2 HB
  go_upto_region 4 with fail
  obtain ⟨k, hk3, hk⟩ := form_k x
  rw [hk]
  have HK3 := Lib.hid hk3
  clear hk hk3
  have KM := Lib.hid (make_any HK3.out (b := b) (HT.out.below HB2.out.below (Nat.le_refl _)) (StrsAt.below HX.out HB2.out.below (Nat.le_refl _)) (MsgsAt.below HM.out HB2.out.below (Nat.le_refl _)) HB2.out.below.size HWC.out HMC.out HE.out)
  go_upto_region 5 with (go_at_call 10; go_loud (
     refine KM.out.mono ?_
     rintro e w3 ⟨A, n, c, A2, n2, c2, rfl, hnc, hnc2, hn2, hz, hr, hb3⟩
     have HB3 := Lib.hid (HB2.out.go hb3)
     have HZ := Lib.hid hz
     have HR := Lib.hid hr
     clear hz hr hb3 b0 b1 b2 b3 b4 b5))
  clear KM HB2
  have HLN := Lib.hid HR.out.len
  have HL153 := Lib.hid (re_len (fmI_is k) HE.out)
  by_cases hn0 : n2 = 0
  · subst hn0
    have HB := Lib.hid HB3.out.below
    go_wp2_with (go_at_call 9; go_loud (refine (HAW.out _ HB.out).mono ?_; rintro e w9 ⟨rfl, hb9⟩; have HB9 := Lib.hid (HB.out.trans (hb9.mono HB.out.size)); clear hb9))
    go_ret
    exact ⟨rfl, HB9.out⟩
  have hn153 : n2 ≤ 153 := by have h1 := HLN.out; have h2 := HL153.out; omega
  have hz0 : ((n2 : Int) == 0) = false := by rw [beq_eq_false_iff_ne]; omega
  have hu : IntKind.u64.wrap (n2 : Int) = (n2 : Int) := by rw [show IntKind.u64.wrap (n2 : Int) = (n2 : Int) % 18446744073709551616 from rfl]; omega
  obtain ⟨j, hj, hjj⟩ := pick_j y (n := n2) (by omega) hn153
  go_upto_region 8 with fail
  rw [hjj]
  clear hjj hz0 hu hn0
  obtain ⟨rs, hrs, hrk, hsrc⟩ := rows_raw HR.out
  have hrl : rs.length = n2 := by have := hsrc.1; rw [rc_length] at this; omega
  have HRS := Lib.hid hrs
  have HRK := Lib.hid hrk
  have HSRC := Lib.hid hsrc
  have HRB := Lib.hid HR.out
  clear hrs hrk hsrc
  have HE1 := Lib.hid (empty_row w3)
  have X0 := Lib.hid (show Below w3.heap.size w3 (w3.alloc (.cells #[] 46)).drew from ((Below.refl _ _).alloc (Nat.le_refl _) _).drew)
  have hbs : w3.heap.size ≤ (w3.alloc (.cells #[] 46)).drew.heap.size := X0.out.size
  have HAB := Lib.hid (show ∀ ad, A2 = some ad → ad.block < w3.heap.size from rows_blk HR.out (by omega))
  have HS1 := Lib.hid (src_first (j := j) (src_keep HSRC.out HAB.out (fun p hp => X0.out.cell hp)) (by omega))
  have g0 : (0 : Int) ≤ (j : Int) := by omega
  have g1 : (j : Int) ≤ (n2 : Int) := by omega
  have g2 : (j : Int) ≤ (c2 : Int) := by omega
  have g3 : (j : Int) + 1 ≤ (n2 : Int) := by omega
  have g4 : (j : Int) + 1 ≤ (c2 : Int) := by omega
  have g5 : (0 : Int) ≤ (j : Int) + 1 := by omega
  have g6 : IntKind.i64.wrap ((j : Int) + 1) = (j : Int) + 1 := IntWalk.i64_in _ (by omega)
  go_cut [10] (fun s10 wx => ∃ (A4 : Option Addr) (c4 : Nat), s10 = .slice A4 (n2 - 1) c4 ∧ n2 - 1 ≤ c4 ∧ Hid (Below w3.heap.size w3 wx) ∧ Hid (RowsAt wx wx.heap.size A4 (n2 - 1) ((re (fmI k) b).take j ++ (re (fmI k) b).drop (j + 1))))
  case first =>
    go_region_held3 (fun _ => True) (first | trivial | go_keep) (first
      | (refine step_rows elR (c := c2) rfl (.tmp 57) (.tmp 60) rfl (by simp [Act.eval]) (by simp [Act.eval]) HE1.out HS1.out (by unfold maxLen; omega) (by omega) hbs ?_
         intro v1 w5 hown1 hg1 _
         have X1 := Lib.hid (show Below w3.heap.size w3 w5 from Below.grown X0.out hg1 hbs (fun g e => by
           have e2 : w3.heap.size = g := Option.some.inj e
           omega))
         have HS2 := Lib.hid (src_last (j := j + 1) (c := c2) (src_keep HSRC.out HAB.out (fun p hp => X1.out.cell hp)) (by omega) hnc2)
         have hq2 := X1.out.size
         rw [Nat.zero_add, List.nil_append] at hown1
         have HO1 := Lib.hid hown1
         clear hown1 hg1
         dsimp only)
      | (refine step_rows elR (c := c2 - (j + 1)) rfl (.tmp 61) (.tmp 65) rfl (by simp [Act.eval]) (by simp [Act.eval]) HO1.out HS2.out (by unfold maxLen; omega) (by omega) hq2 ?_
         intro v2 w6 hown2 hg2 _
         have X2 := Lib.hid (show Below w3.heap.size w3 w6 from Below.grown X1.out hg2 hq2 (fun g e => (HO1.out.lt g e).1))
         rw [show j + (n2 - (j + 1)) = n2 - 1 by omega, ← rc_append] at hown2
         obtain ⟨A3, c3, rfl, hc3⟩ := own_slice hown2
         have HA3 := Lib.hid (rowsAt_own (B := w6.heap.size) hown2 (fun g e => (hown2.lt g e).2) (by omega) (less_keys (HRK.out.keep X2.out.size (fun p hp => X2.out.cell hp))))
         clear hown2 hg2
         dsimp only)
      | (trace_state; sorry))
    go_step
    go_step
    go_meet
    refine ⟨A3, c3, rfl, hc3, X2, ?_⟩
    have h3 := HA3.out
    rw [List.map_append, List.map_take, List.map_drop, HRS.out] at h3
    exact h3
  case rest =>
    obtain ⟨A4, c4, rfl, hc4, X4, HR4⟩ := hcut
    obtain ⟨wx, hwx⟩ : ∃ wx, wx = wc := ⟨_, rfl⟩
    subst hwx
    have HB4 := Lib.hid (HB3.out.go X4.out)
    have HZ4 := Lib.hid (HZ.out.below X4.out (Nat.le_refl _))
    have hs4 := X4.out.size
    have hkeys : ∀ r ∈ (re (fmI k) b).take j ++ (re (fmI k) b).drop (j + 1), r.msg.keys.length ≤ 1000000 := fun r hr => by
      have : r ∈ re (fmI k) b := by
        rcases List.mem_append.1 hr with hr | hr
        · exact List.mem_of_mem_take hr
        · exact List.mem_of_mem_drop hr
      have := re_keys HE.out r this
      omega
    obtain ⟨ad, kd, ru, rm, u, md, d, id, fl, ks, tx, t, K, kn, kc, rfl, hab, e1, c0, _⟩ := RowsAt.sp HRB.out X4.out (Nat.le_refl _) hj
    have kw := whole_made HK3.out (b := b) (cp := c) (c2 := c4) (HT.out.below HB4.out.below (Nat.le_refl _)) HE.out (HZ4.out.more hs4) (Nat.le_refl _) hnc HR4.out hc4 hkeys
    have hless : kd ≠ 7 → (allG (pj (fmI k) b) ((re (fmI k) b).take j ++ (re (fmI k) b).drop (j + 1))).2 = 0 → (allG (pj (fmI k) b) ((re (fmI k) b).take j ++ (re (fmI k) b).drop (j + 1))).1 ≠ b := fun h7 h0 => ImR.less_re (fmI_is k) HE.out (part e1) h7 h0
    obtain ⟨cx, hcx⟩ : ∃ cx, cx = (allG (pj (fmI k) b) ((re (fmI k) b).take j ++ (re (fmI k) b).drop (j + 1))).1 := ⟨_, rfl⟩
    obtain ⟨ce, hce⟩ : ∃ ce, ce = (allG (pj (fmI k) b) ((re (fmI k) b).take j ++ (re (fmI k) b).drop (j + 1))).2 := ⟨_, rfl⟩
    rw [← hcx, ← hce] at kw hless
    have KW := Lib.hid kw
    have HLS := Lib.hid hless
    clear kw hless hkeys hcx hce e1 X0 HE1 HS1 HRS HRK HSRC HAB hbs HR HLN HL153 hrl g5
    obtain ⟨b0, b1, b2, b3, b4, b5⟩ := HB4.out.box
    go_upto_region 10 with (go_at_call 11; go_loud (
       refine KW.out.mono ?_
       rintro e w4 ⟨CA, cn, cc, NA, nn, nc, rfl, hcc, hnc3, hl4, hb4⟩
       have hbx := hb4.alloc hb4.size (.cells #[.string cx.id, .int .i64 cx.valid, .int .i64 cx.next, .int .i64 cx.high, .slice CA cn cc, .slice NA nn nc] 25)
       have HB5 := Lib.hid (HB4.out.go hbx)
       have c05 := (hbx.cell (p := ad.add (j * 11)) (by rw [add_block]; omega)).trans c0
       have HQ5 := Lib.hid (heap_alloc_new w4 (.cells #[.string cx.id, .int .i64 cx.valid, .int .i64 cx.next, .int .i64 cx.high, .slice CA cn cc, .slice NA nn nc] 25))
       have HL5 := Lib.hid (hl4 (w4.alloc (.cells #[.string cx.id, .int .i64 cx.valid, .int .i64 cx.next, .int .i64 cx.high, .slice CA cn cc, .slice NA nn nc] 25)) (by simp) (fun k _ h2 => heap_alloc_old w4 _ h2))
       have hs5 := hb4.size
       clear hl4 hb4 hbx b0 b1 b2 b3 b4 b5 c0))
    clear KW
    obtain ⟨Q, hQ⟩ : ∃ Q, Q = w4.heap.size := ⟨_, rfl⟩
    rw [← hQ] at HQ5 HL5 ⊢
    have hsQ : (w4.alloc (.cells #[.string cx.id, .int .i64 cx.valid, .int .i64 cx.next, .int .i64 cx.high, .slice CA cn cc, .slice NA nn nc] 25)).heap.size = Q + 1 := by simp [hQ]
    clear hQ HB4 HB3 X4 HR4 HZ HZ4 HRB
    generalize (World.alloc w4 _) = w5 at HB5 c05 HQ5 HL5 hsQ ⊢
    have HBl := Lib.hid HB5.out.below
    obtain ⟨b0, b1, b2, b3, b4, b5⟩ := HB5.out.box
    obtain ⟨q0, q1, q2, q3, q4, q5, _⟩ := six_at HQ5.out
    by_cases h7 : kd = 7
    · subst h7
      by_cases he : ce = 0
      · subst he
        go_wp2_with (go_at_call 9; go_loud (refine (HAW.out _ HBl.out).mono ?_; rintro e w9 ⟨rfl, hb9⟩; have HB9 := Lib.hid (HBl.out.trans (hb9.mono HBl.out.size)); clear hb9))
        go_ret
        exact ⟨rfl, HB9.out⟩
      · have h1 : (ce == 0) = false := by simpa using he
        have h2 : (ce != 0) = true := by simpa using he
        go_wp2_with (go_at_call 9; go_loud (refine (HAW.out _ HBl.out).mono ?_; rintro e w9 ⟨rfl, hb9⟩; have HB9 := Lib.hid (HBl.out.trans (hb9.mono HBl.out.size)); clear hb9))
        go_ret
        exact ⟨rfl, HB9.out⟩
    · have h3 : (kd == 7) = false := by simpa using h7
      by_cases he : ce = 0
      · have hne := HLS.out h7 he
        subst he
        have KS := Lib.hid (refSame_any (bid := cx.id) (bv := cx.valid) (bn := cx.next) (bh := cx.high) (wc := cc) (mc := nc) (bid' := b.id) (bv' := b.valid) (bn' := b.next) (bh' := b.high) (wc' := wcp) (mc' := mcp) (w := w5) HL5.out.1 HL5.out.2 (StrsAt.below HX.out HB5.out.below (Nat.le_refl _)) (MsgsAt.below HM.out HB5.out.below (Nat.le_refl _)) (by omega) (by omega) HB5.out.below.size HB5.out.below.size)
        have KS := Lib.hid (show Calls Tryz.prog 12 #[.agg #[.string cx.id, .int .i64 cx.valid, .int .i64 cx.next, .int .i64 cx.high, .slice CA cn cc, .slice NA nn nc], .agg #[.string b.id, .int .i64 b.valid, .int .i64 b.next, .int .i64 b.high, .slice WA wn wcp, .slice MA mn mcp]] w5 (fun e w' => e = .returned (.bool false) ∧ Below w5.heap.size w5 w') from KS.out.mono (fun e w' h => ⟨by rw [h.1, eqX_ne hne], h.2⟩))
        clear hne h7
        go_wp2_with (first
          | (go_at_call 12; go_loud (
             refine KS.out.mono ?_
             rintro e w6 ⟨rfl, hb6⟩
             have HBm := Lib.hid (HBl.out.trans (hb6.mono HBl.out.size))
             clear HBl hb6 b0 b1 b2 b3 b4 b5 q0 q1 q2 q3 q4 q5))
          | (go_at_call 9; go_loud (refine (HAW.out _ HBm.out).mono ?_; rintro e w9 ⟨rfl, hb9⟩; have HB9 := Lib.hid (HBm.out.trans (hb9.mono HBm.out.size)); clear hb9)))
        go_ret
        exact ⟨rfl, HB9.out⟩
      · have h1 : (ce == 0) = false := by simpa using he
        have h2 : (ce != 0) = true := by simpa using he
        clear h7
        go_wp2_with (go_at_call 9; go_loud (refine (HAW.out _ HBl.out).mono ?_; rintro e w9 ⟨rfl, hb9⟩; have HB9 := Lib.hid (HBl.out.trans (hb9.mono HBl.out.size)); clear hb9))
        go_ret
        exact ⟨rfl, HB9.out⟩
end Go.Proofs.YtfhdoecackdflaaGreatDoor.ImRest
