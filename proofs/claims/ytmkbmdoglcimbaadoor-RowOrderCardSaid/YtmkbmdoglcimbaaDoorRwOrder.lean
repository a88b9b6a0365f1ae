/-
  RowOrder: cut in whatever order, the same messages are left; Mods rise by one each.
-/
import Derived.Test.YtmkbmdoglcimbaaDoorRwApi
import Derived.Test.YtmkbmdoglcimbaaDoorBxB
import Derived.Test.YtmkbmdoglcimbaaDoorBxH
import Derived.Test.YtmkbmdoglcimbaaDoorBxX
import Derived.Deep.DeepCutAuto
import Derived.Deep.RegionHeld3
namespace Go.Proofs.YtmkbmdoglcimbaaDoor.RwOrder
open Go.RowKit Go.Proofs.YtmkbmdoglcimbaaDoor.BxD Go.Proofs.YtmkbmdoglcimbaaDoor.BxKit Go.Proofs.YtmkbmdoglcimbaaDoor.BxA Go.Proofs.YtmkbmdoglcimbaaDoor.BxB Go.Proofs.YtmkbmdoglcimbaaDoor.BxR Go.Proofs.YtmkbmdoglcimbaaDoor.BxH Go.Proofs.YtmkbmdoglcimbaaDoor.BxS Go.Proofs.YtmkbmdoglcimbaaDoor.BxX Go.Proofs.YtmkbmdoglcimbaaDoor.BxOp Go.Proofs.YtmkbmdoglcimbaaDoor.RwD Go.Proofs.YtmkbmdoglcimbaaDoor.RwM Go.Proofs.YtmkbmdoglcimbaaDoor.RwKit Go.Proofs.YtmkbmdoglcimbaaDoor.RwApi

theorem pick_n (x : Int) {n : Nat} (h : n ≤ 60) : ∃ k : Nat, k ≤ n ∧ wrap64 ((IntKind.u64.wrap x).tmod ((n : Int) + 1)) = (k : Int) := by
  have h0 : 0 ≤ IntKind.u64.wrap x := by
    rw [show IntKind.u64.wrap x = x % 18446744073709551616 from rfl]
    exact Int.emod_nonneg _ (by decide)
  have h1 := Int.tmod_nonneg ((n : Int) + 1) h0
  have h2 := Int.tmod_lt_of_pos (IntKind.u64.wrap x) (show (0 : Int) < (n : Int) + 1 by omega)
  refine ⟨((IntKind.u64.wrap x).tmod ((n : Int) + 1)).toNat, by omega, ?_⟩
  rw [Int.toNat_of_nonneg h1]
  exact IntWalk.wrap64_in _ (by omega)
theorem cutE_ok {b : Box} {l : List Int} (h : cutE b l = 0) : mbE b = 0 ∧ cutOk b l ∧ b.high + l.length ≤ 1000000 := by
  unfold cutE at h
  by_cases h1 : mbE b ≠ 0
  · rw [if_pos h1] at h; cases h
  rw [if_neg h1] at h
  by_cases h2 : cutOk b l
  case neg => rw [if_neg h2] at h; cases h
  rw [if_pos h2] at h
  by_cases h3 : 1000000 < b.high + l.length
  · rw [if_pos h3] at h; cases h
  exact ⟨by simpa using h1, h2, by omega⟩
theorem all_cut {b : Box} {l : List Int} (h : cutE b l = 0) : allP b (cutP b l) = (cutC b l, 0) ∧ (cutC b l).msgs.length + l.length = b.msgs.length := by
  obtain ⟨h1, h2, h3⟩ := cutE_ok h
  unfold allP cutP RwW12.cutP
  rw [if_pos h1, if_pos h]
  exact cut_done l b h1 h2 h3

theorem eleven_at {wr : World} {L : Nat} {c0 c1 c2 c3 c4 c5 c6 c7 c8 c9 c10 : Value} {t : TypeId} (h : wr.heap[L]? = some (.cells #[c0, c1, c2, c3, c4, c5, c6, c7, c8, c9, c10] t (0, 0))) :
    wr.cell? { block := L, off := 0 } = some c0 ∧ wr.cell? { block := L, off := 1 } = some c1 ∧ wr.cell? { block := L, off := 2 } = some c2 ∧ wr.cell? { block := L, off := 3 } = some c3 ∧ wr.cell? { block := L, off := 4 } = some c4 ∧ wr.cell? { block := L, off := 5 } = some c5 ∧
      wr.cell? { block := L, off := 6 } = some c6 ∧ wr.cell? { block := L, off := 7 } = some c7 ∧ wr.cell? { block := L, off := 8 } = some c8 ∧ wr.cell? { block := L, off := 9 } = some c9 ∧ wr.cell? { block := L, off := 10 } = some c10 := by
  have c : ∀ o, wr.cell? { block := L, off := o } = (#[c0, c1, c2, c3, c4, c5, c6, c7, c8, c9, c10] : Array Value)[o]? := fun o => cell_of_row wr L o _ _ _ h
  exact ⟨(c 0).trans rfl, (c 1).trans rfl, (c 2).trans rfl, (c 3).trans rfl, (c 4).trans rfl, (c 5).trans rfl, (c 6).trans rfl, (c 7).trans rfl, (c 8).trans rfl, (c 9).trans rfl, (c 10).trans rfl⟩
theorem empty_int (W : World) : (W.alloc (.cells #[] 3)).drew.ownsRow W.heap.size 3 1 (.slice (some ⟨W.heap.size, 0, none⟩) 0 0) 0 [] :=
  ⟨rfl, .inr ⟨W.heap.size, 0, #[], rfl, Nat.le_refl _, heap_alloc_new W _, Nat.le_refl _, Nat.zero_le _, rfl, rfl⟩⟩

set_option maxHeartbeats 4000000 in
set_option maxRecDepth 100000 in
theorem walk {b : Box} {x : Int} {WA MA A : Option Addr} {wn wc_ mn mc n cp : Nat} {l : List Int} {w : World} (ht : Tab w)
    (h1 : StrsAt w w.heap.size WA wn b.words) (h2 : MsgsAt w w.heap.size MA mn b.msgs) (h3 : IntsAt w w.heap.size A n l) (hwc : wn ≤ wc_) (hmc : mn ≤ mc) (hcp : n ≤ cp) (z1 : b.id.size ≤ 140737488355328) :
    Calls Tryd.prog 7 #[.agg #[.string b.id, .int .i64 b.valid, .int .i64 b.next, .int .i64 b.high, .slice WA wn wc_, .slice MA mn mc], .slice A n cp, .int .i64 x] w fun e w' => e = .returned (.bool true) ∧ Below w.heap.size w w' := by
  have KH := fun o => heavy_any (bid := b.id) (bv := b.valid) (bn := b.next) (bh := b.high) (wc := wc_) (mc := mc) (StrsAt.below h1 ((Below.refl _ w).alloc (Nat.le_refl _) o) (Nat.le_refl _)) (MsgsAt.below h2 ((Below.refl _ w).alloc (Nat.le_refl _) o) (Nat.le_refl _)) (by simp) (by simp) z1
  have KM := fun (wr : World) (h : After w (.cells #[.string b.id, .int .i64 b.valid, .int .i64 b.next, .int .i64 b.high, .slice WA wn wc_, .slice MA mn mc] 25) wr) => ref_may (bid := b.id) (bv := b.valid) (bn := b.next) (bh := b.high) (wc := wc_) (mc := mc) (StrsAt.below h1 h.below (Nat.le_refl _)) (MsgsAt.below h2 h.below (Nat.le_refl _)) h.below.size hwc
  have HAW := Lib.hid (fun (wr : World) (h : Below w.heap.size w wr) => awake (ht.below h))
  have HS := Lib.hid (After.start w (.cells #[.string b.id, .int .i64 b.valid, .int .i64 b.next, .int .i64 b.high, .slice WA wn wc_, .slice MA mn mc] 25))
  have HX := Lib.hid h1
  have HM := Lib.hid h2
  have HL := Lib.hid h3
  have hn := h3.max
  have hln := h3.len
  clear h1 h2 h3 ht
  obtain ⟨hvv, hhv⟩ : ∃ hvv, hvv = hv b.id b.words b.msgs := ⟨_, rfl⟩
  have hv01 : hvv = 1 ∨ hvv = 0 := by rcases hv_or b.id b.words b.msgs with h | h; exact .inl (hhv.trans h); exact .inr (hhv.trans h.1)
  rw [← hhv] at KH
  clear hhv
  have K1 := Lib.hid KH
  clear KH
  rcases hv01 with rfl | rfl
  · go_enter Tryd.func7, Tryd.ntmps7
    go_wp2_with fail
    refine (K1.out _).mono ?_
    rintro e w1 ⟨rfl, hb1⟩
    have HB := Lib.hid (HS.out.go hb1).below
    clear hb1
    go_wp2_with (go_at_call 10; refine (HAW.out _ HB.out).mono ?_; rintro e w9 ⟨rfl, hb9⟩)
    go_ret
    exact ⟨rfl, HB.out.trans (hb9.mono HB.out.size)⟩
  go_enter Tryd.func7, Tryd.ntmps7
  go_wp2_with fail
  refine (K1.out _).mono ?_
  rintro e w1 ⟨rfl, hb1⟩
  have H1 := Lib.hid (HS.out.go hb1)
  clear hb1
  have K4 := Lib.hid (KM _ H1.out)
  obtain ⟨em, hem⟩ : ∃ em, em = mbE ⟨b.id, b.valid, b.next, b.high, b.words, b.msgs⟩ := ⟨_, rfl⟩
  rw [← hem] at K4
  clear KM K1
  obtain ⟨b0, b1, b2, b3, b4, b5⟩ := H1.out.box
  by_cases he : em = 0
  case neg =>
    have hne : (em != 0) = true := by simpa using he
    clear he hem
    go_wp2_with fail
    refine K4.out.mono ?_
    rintro e w3 ⟨rfl, hb3⟩
    have HB := Lib.hid (H1.out.go hb3).below
    clear hb3
    go_wp2_with (go_at_call 10; refine (HAW.out _ HB.out).mono ?_; rintro e w9 ⟨rfl, hb9⟩)
    go_ret
    exact ⟨rfl, HB.out.trans (hb9.mono HB.out.size)⟩
  subst he
  have HE := Lib.hid (show mbE b = 0 from hem.symm)
  clear hem
  go_wp2_with fail
  refine K4.out.mono ?_
  rintro e w3 ⟨rfl, hb3⟩
  have H3 := Lib.hid (H1.out.go hb3)
  clear hb3 K4 b0 b1 b2 b3 b4 b5 H1
  by_cases hn6 : 60 < n
  · have HB := Lib.hid H3.out.below
    have hn6' : 60 < (n : Int) := by omega
    go_wp2_with (go_at_call 10; refine (HAW.out _ HB.out).mono ?_; rintro e w9 ⟨rfl, hb9⟩)
    go_ret
    exact ⟨rfl, HB.out.trans (hb9.mono HB.out.size)⟩
  have hn6' : (n : Int) ≤ 60 := by omega
  obtain ⟨k, hkn, hkk⟩ := pick_n x (n := n) (by omega)
  have hu : IntKind.u64.wrap ((n : Int) + 1) = (n : Int) + 1 := by
    rw [show IntKind.u64.wrap ((n : Int) + 1) = ((n : Int) + 1) % 18446744073709551616 from rfl]; omega
  have hz : ((n : Int) + 1 == 0) = false := by rw [beq_eq_false_iff_ne]; omega
  clear hn6
  have HI := Lib.hid (show Sb w w3 w.heap.size b WA wn wc_ MA mn mc from Sb.first rfl H3.out HX.out HM.out hwc hmc)
  clear HS H3
  go_upto_region 4 with fail
  rw [hkk]
  clear hkk
  obtain ⟨b0, b1, b2, b3, b4, b5, _⟩ := six_at HI.out.blk
  have hcut := cut_any (n := n) (cp := cp) HI.out.ws HI.out.ms hwc hmc z1 (Nat.le_refl _) (IntsAt.more (IntsAt.below HL.out HI.out.bel (Nat.le_refl _)) HI.out.bel.size) hcp
  obtain ⟨ec, hec⟩ : ∃ ec, ec = cutE b l := ⟨_, rfl⟩
  rw [← hec] at hcut
  have HCUT := Lib.hid hcut
  have HEC := Lib.hid hec
  clear hcut hec
  go_wp2_with fail
  refine HCUT.out.mono ?_
  rintro e w4 ⟨A1, n1, c1, rfl, hc1, hr1, hb4⟩
  have HI4 := Lib.hid (HI.out.go hb4)
  have HR1 := Lib.hid hr1
  have hn1 := hr1.len
  clear hb4 hr1 HCUT HI b0 b1 b2 b3 b4 b5
  obtain ⟨b0, b1, b2, b3, b4, b5, _⟩ := six_at HI4.out.blk
  go_upto_region 5 with fail
  have hl2 := turn_perm l k
  obtain ⟨l2, hl2e⟩ : ∃ l2, l2 = l.drop k ++ l.take k := ⟨_, rfl⟩
  rw [← hl2e] at hl2
  obtain ⟨hce, hcc⟩ := cut_perm (b := b) hl2
  have X0 := Lib.hid (show Below w4.heap.size w4 (w4.alloc (.cells #[] 3)).drew from ((Below.refl _ _).alloc (Nat.le_refl _) _).drew)
  have HS := Lib.hid (fun (wr : World) (h : Below w4.heap.size w4 wr) => (six_at (HI4.out.go h).blk))
  have HE1 := Lib.hid (empty_int w4)
  have hd1 : IntsAt (w4.alloc (.cells #[] 3)).drew w.heap.size (if cp = k then A else Option.map (fun x => x.add k) A) (n - k) (l.drop k) := by
    have := RowAt.cut (IntsAt.below HL.out (HI4.out.bel.trans (X0.out.mono HI4.out.bel.size)) (Nat.le_refl _)) hkn hcp
    simpa only [Nat.mul_one] using this
  have HS1 := Lib.hid (ints_src hd1)
  have hbs : w4.heap.size ≤ (w4.alloc (.cells #[] 3)).drew.heap.size := X0.out.size
  have g1 : (k : Int) ≤ (n : Int) := by omega
  have g2 : (k : Int) ≤ (cp : Int) := by omega
  have g3 : k ≤ cp := by omega
  have HCE := Lib.hid hce
  have HCC := Lib.hid hcc
  have HL2 := Lib.hid hl2e
  have HPM := Lib.hid hl2
  clear hd1 hce hcc hl2 hl2e
  go_cut [10, 11] (fun s10 s11 wx => ∃ (A2 : Option Addr) (n2 c2 : Nat), s10 = .slice A2 n2 c2 ∧ s11 = .int .i64 ec ∧ n2 ≤ c2 ∧ Hid (Below w4.heap.size w4 wx) ∧ Hid (RowsAt wx wx.heap.size A2 n2 (cutP b l2)))
  case first =>
    go_region_held3 (fun wr => wr.cell? { block := w.heap.size, off := 0 } = some (.string b.id) ∧ wr.cell? { block := w.heap.size, off := 1 } = some (.int .i64 b.valid) ∧ wr.cell? { block := w.heap.size, off := 2 } = some (.int .i64 b.next) ∧ wr.cell? { block := w.heap.size, off := 3 } = some (.int .i64 b.high) ∧ wr.cell? { block := w.heap.size, off := 4 } = some (.slice WA wn wc_) ∧ wr.cell? { block := w.heap.size, off := 5 } = some (.slice MA mn mc)) (first | exact hS2 | exact hS3 | exact hS4 | go_keep) (first
      | (refine step_rows elI (c := cp - k) rfl (.tmp 48) (.tmp 51) rfl (by simp [Act.eval]) (by simp [Act.eval]) HE1.out HS1.out (by unfold maxLen; omega) (by omega) hbs ?_
         intro v1 w5 hown1 hg1 _
         have X1 := Lib.hid (show Below w4.heap.size w4 w5 from Below.grown X0.out hg1 hbs (fun g e => by
           have e2 : w4.heap.size = g := Option.some.inj e
           omega))
         have hq := HS.out _ X1.out
         have hS2 := And.intro hq.1 (And.intro hq.2.1 (And.intro hq.2.2.1 (And.intro hq.2.2.2.1 (And.intro hq.2.2.2.2.1 hq.2.2.2.2.2.1))))
         have HS2 := Lib.hid (ints_src (RowAt.take (IntsAt.below HL.out (HI4.out.bel.trans (X1.out.mono HI4.out.bel.size)) (Nat.le_refl _)) hkn))
         have hq2 := X1.out.size
         rw [Nat.zero_add, List.nil_append] at hown1
         have HO1 := Lib.hid hown1
         clear hown1 hg1 hq
         dsimp only)
      | (refine step_rows elI (c := cp) rfl (.tmp 52) (.tmp 55) rfl (by simp [Act.eval]) (by simp [Act.eval]) HO1.out HS2.out (by unfold maxLen; omega) (by omega) hq2 ?_
         intro v2 w6 hown2 hg2 _
         have X2 := Lib.hid (show Below w4.heap.size w4 w6 from Below.grown X1.out hg2 hq2 (fun g e => (HO1.out.lt g e).1))
         have hq := HS.out _ X2.out
         have hS3 := And.intro hq.1 (And.intro hq.2.1 (And.intro hq.2.2.1 (And.intro hq.2.2.2.1 (And.intro hq.2.2.2.2.1 hq.2.2.2.2.2.1))))
         rw [show n - k + k = n by omega, ← List.map_append, ← HL2.out] at hown2
         obtain ⟨A3, c3, rfl, hc3⟩ := own_slice hown2
         have HA3 := Lib.hid (intsAt_own hown2 hn)
         have HI6 := Lib.hid (HI4.out.go X2.out)
         have hcut := cut_any (n := n) (cp := c3) HI6.out.ws HI6.out.ms hwc hmc z1 (Nat.le_refl _) HA3.out hc3
         rw [← HCE.out, ← HEC.out] at hcut
         have HCUT := Lib.hid hcut
         clear hown2 hg2 hq hcut
         dsimp only)
      | (go_at_call 15
         refine HCUT.out.mono ?_
         rintro e w7 ⟨A2, n2, c2, rfl, hc2, hr2, hb7⟩
         have HI7 := Lib.hid (HI6.out.go hb7)
         have HR2 := Lib.hid hr2
         have hn2 := hr2.len
         have hq := six_at HI7.out.blk
         have hS4 := And.intro hq.1 (And.intro hq.2.1 (And.intro hq.2.2.1 (And.intro hq.2.2.2.1 (And.intro hq.2.2.2.2.1 hq.2.2.2.2.2.1))))
         have X7 := Lib.hid (show Below w4.heap.size w4 w7 from X2.out.trans (hb7.mono X2.out.size))
         clear hq hr2 hb7
         dsimp only))
    go_step
    go_step
    go_meet
    exact ⟨A2, n2, c2, rfl, rfl, hc2, X7, HR2⟩
  case rest =>
    obtain ⟨A2, n2, c2, rfl, rfl, hc2, X7, HR2⟩ := hcut
    have HI7 := Lib.hid (HI4.out.go X7.out)
    have hn2 := HR2.out.len
    obtain ⟨w7, hw7⟩ : ∃ w7, w7 = wc := ⟨_, rfl⟩
    subst hw7
    have hee : (ec != ec) = false := by simp
    by_cases he0 : ec = 0
    case neg =>
      have hne : (ec != 0) = true := by simpa using he0
      have hz1 : n1 = 0 := by
        unfold cutP RwW12.cutP at hn1
        rw [← HEC.out, if_neg he0] at hn1
        exact hn1.symm
      have hz2 : n2 = 0 := by
        unfold cutP RwW12.cutP at hn2
        rw [← HCE.out, ← HEC.out, if_neg he0] at hn2
        exact hn2.symm
      subst hz1 hz2
      have HB := Lib.hid HI7.out.bel
      clear he0
      go_wp2_with (go_at_call 10; refine (HAW.out _ HB.out).mono ?_; rintro e w9 ⟨rfl, hb9⟩)
      go_ret
      exact ⟨rfl, HB.out.trans (hb9.mono HB.out.size)⟩
    subst he0
    obtain ⟨hall, hlen⟩ := all_cut HEC.out.symm
    have hec2 : cutE b l2 = 0 := by rw [← HCE.out]; exact HEC.out.symm
    obtain ⟨hall2, _⟩ := all_cut hec2
    rw [← HCC.out] at hall2
    have hp1 : cutP b l = cutG b.high l   := by unfold cutP RwW12.cutP; rw [if_pos HEC.out.symm]
    have hnn : n1 = n := by rw [← hn1, hp1, cutG_length, hln]
    subst hnn
    obtain ⟨_, _, hhi⟩ := cutE_ok HEC.out.symm
    rw [hln] at hhi
    obtain ⟨_, _, _, p4, _⟩ := head_parts ((mb_iff b).1 HE.out).1
    generalize cutC b l = c at hall hall2 hlen
    have HALL := Lib.hid hall
    have HALL2 := Lib.hid hall2
    have HLEN := Lib.hid hlen
    have HP1 := Lib.hid hp1
    have HW47 := Lib.hid X7.out
    clear hall hall2 hlen hp1 hec2 X0 X7 HS HE1 HS1 b0 b1 b2 b3 b4 b5
    go_wp2_with fail
    go_loopw [78] (fun s78 wr => ∃ i : Nat, i ≤ n1 ∧ s78 = .int .i64 i ∧ Hid (Below w7.heap.size w7 wr)) (fun s78 _ => n1 - (intOf s78).toNat)
    case atStart => exact ⟨0, Nat.zero_le _, rfl, Below.refl _ _⟩
    case round =>
      obtain ⟨i, hi, rfl, HB7⟩ := hrel
      have HIr := Lib.hid (HI7.out.go HB7.out)
      obtain ⟨b0, b1, b2, b3, b4, b5, _⟩ := six_at HIr.out.blk
      have hw47 := HW47.out.size
      by_cases hlt : i < n1
      · obtain ⟨ad, kd, ru, rm, u, md, d, id, fl, ks, tx, t, K, kn, kc, rfl, _, e1, c0, c1, c2_, c3_, c4, c5, c6, c7, c8, c9, c10, _, _, _, _, _⟩ := RowsAt.sp HR1.out (HW47.out.trans (HB7.out.mono hw47)) (Nat.le_refl _) hlt
        obtain ⟨ad2, y, rfl, hy, hcy⟩ := IntsAt.at_ HL.out HIr.out.bel (Nat.le_refl _) hlt
        have hrow := cutG_at l b.high i y hy
        rw [← HP1.out, e1] at hrow
        injection hrow with hrow
        injection hrow with r1 r2 r3 r4 r5
        subst r1 r2 r3 r5
        clear r4
        go_upto_region 13 with fail
        have HN := Lib.hid (heap_alloc_new wr (.cells #[.int .i64 3, .int .i64 ru, .int .i64 (b.high + i + 1), .int .i64 u, .int .i64 md, .int .i64 d, .string id, .int .i64 fl, .slice K kn kc, .string tx, .string emT] 50))
        have HBN := Lib.hid (HB7.out.alloc HB7.out.size (.cells #[.int .i64 3, .int .i64 ru, .int .i64 (b.high + i + 1), .int .i64 u, .int .i64 md, .int .i64 d, .string id, .int .i64 fl, .slice K kn kc, .string tx, .string emT] 50))
        have hcy2 : (wr.alloc (.cells #[.int .i64 3, .int .i64 ru, .int .i64 (b.high + i + 1), .int .i64 u, .int .i64 md, .int .i64 d, .string id, .int .i64 fl, .slice K kn kc, .string tx, .string emT] 50)).cell? (ad2.add i) = some (.int .i64 ru) := by
          obtain ⟨ad3, y3, e3, hy3, hc3⟩ := IntsAt.at_ HL.out (HI7.out.bel.trans (HBN.out.mono HI7.out.bel.size)) (Nat.le_refl _) hlt
          injection e3 with e3
          subst e3
          rw [hy] at hy3
          injection hy3 with hy3
          subst hy3
          exact hc3
        have HIn := Lib.hid (HI7.out.go HBN.out)
        obtain ⟨R, hR⟩ : ∃ R, R = wr.heap.size := ⟨_, rfl⟩
        rw [← hR] at HN ⊢
        clear hR b0 b1 b2 b3 b4 b5 c0 c1 c2_ c3_ c4 c5 c6 c7 c8 c9 c10 hcy e1
        generalize (World.alloc wr _) = W at HN HBN hcy2 HIn ⊢
        obtain ⟨b0, b1, b2, b3, b4, b5, _⟩ := six_at HIn.out.blk
        obtain ⟨c0, c1, c2_, c3_, c4, c5, c6, c7, c8, c9, c10⟩ := eleven_at HN.out
        have s1 : IntKind.i64.wrap (b.high + (i : Int)) = b.high + (i : Int) := IntWalk.i64_in _ (by omega)
        have s2 : IntKind.i64.wrap (b.high + (i : Int) + 1) = b.high + (i : Int) + 1 := IntWalk.i64_in _ (by omega)
        have q1 : (b.high + (i : Int) + 1 != b.high + (i : Int) + 1) = false := by simp
        have q2 : (ru != ru) = false := by simp
        have q3 : (0 : Int) ≤ (i : Int) := by omega
        have q4 : (i : Int) < (n1 : Int) := by omega
        go_quiet (fail)
        have HBq := Lib.hid (fun q => below_drewN HBN.out q)
        go_wp2_with fail
        go_roundw
        case rel => exact ⟨i + 1, by omega, by go_num, HBq.out _⟩
        case measure => simp [intOf]; omega
      · obtain rfl : n1 = i := by omega
        have hall := all_any (n := n1) (cp := c1) HIr.out.ws HIr.out.ms hwc hmc z1 (Nat.le_refl _) (RowsAt.more (RowsAt.below HR1.out (HW47.out.trans (HB7.out.mono hw47)) (Nat.le_refl _)) (Nat.le_trans hw47 HB7.out.size)) hc1 cut_few
        rw [HALL.out] at hall
        have HA := Lib.hid hall
        clear hall
        go_wp2_with fail
        refine HA.out.mono ?_
        rintro e w8 ⟨WA2, wn2, wc2, MA2, mn2, mc2, rfl, hx1, hx2, hlie, hb8⟩
        go_upto_region 17 with fail
        have hwl7 : w7.heap.size ≤ w8.heap.size := Nat.le_trans HB7.out.size hb8.size
        have HI8 := Lib.hid ((HIr.out.go hb8).alloc (.cells #[.string c.id, .int .i64 c.valid, .int .i64 c.next, .int .i64 c.high, .slice WA2 wn2 wc2, .slice MA2 mn2 mc2] 25))
        have HC1 := Lib.hid (Sb.new (w1 := wr) (c := c) (HIr.out.go hb8).bel hb8.size hx1 hx2 hlie)
        have HB8 := Lib.hid (show Below w7.heap.size w7 (w8.alloc (.cells #[.string c.id, .int .i64 c.valid, .int .i64 c.next, .int .i64 c.high, .slice WA2 wn2 wc2, .slice MA2 mn2 mc2] 25)) from (HB7.out.trans (hb8.mono HB7.out.size)).alloc hwl7 _)
        obtain ⟨C1, hC1⟩ : ∃ C1, C1 = w8.heap.size := ⟨_, rfl⟩
        rw [← hC1] at HC1 ⊢
        clear hC1 hlie hb8 hwl7 HA b0 b1 b2 b3 b4 b5
        generalize (World.alloc w8 _) = W8 at HI8 HC1 HB8 ⊢
        obtain ⟨b0, b1, b2, b3, b4, b5, _⟩ := six_at HI8.out.blk
        have hall := all_any (n := n2) (cp := c2) HI8.out.ws HI8.out.ms hwc hmc z1 (Nat.le_refl _) (RowsAt.more (RowsAt.below HR2.out HB8.out (Nat.le_refl _)) HB8.out.size) hc2 cut_few
        rw [HALL2.out] at hall
        have HA := Lib.hid hall
        clear hall
        go_wp2_with fail
        refine HA.out.mono ?_
        rintro e w9 ⟨WA3, wn3, wc3, MA3, mn3, mc3, rfl, hx3, hx4, hlie, hb9⟩
        go_upto_region 18 with fail
        have HI9 := Lib.hid ((HI8.out.go hb9).alloc (.cells #[.string c.id, .int .i64 c.valid, .int .i64 c.next, .int .i64 c.high, .slice WA3 wn3 wc3, .slice MA3 mn3 mc3] 25))
        have HC19 := Lib.hid ((HC1.out.go hb9).alloc (.cells #[.string c.id, .int .i64 c.valid, .int .i64 c.next, .int .i64 c.high, .slice WA3 wn3 wc3, .slice MA3 mn3 mc3] 25))
        have HC2 := Lib.hid (Sb.new (w1 := W8) (c := c) (HI8.out.go hb9).bel hb9.size hx3 hx4 hlie)
        obtain ⟨C2, hC2⟩ : ∃ C2, C2 = w9.heap.size := ⟨_, rfl⟩
        rw [← hC2] at HC2 ⊢
        clear hC2 hlie hb9 HA b0 b1 b2 b3 b4 b5 HI8 HC1 HB8
        generalize (World.alloc w9 _) = W9 at HI9 HC19 HC2 ⊢
        have hm1 := HC19.out.ms.len
        have hm0 := HI9.out.ms.len
        have hll := HLEN.out
        have hml := HI9.out.ms.max
        have hsub : IntKind.i64.wrap ((mn : Int) - (n1 : Int)) = (mn2 : Int) := by
          rw [show (mn : Int) - (n1 : Int) = (mn2 : Int) by omega]
          exact IntWalk.i64_in _ (by omega)
        have hmm : ((mn2 : Int) == (mn2 : Int)) = true := by simp
        have kS := fun (wr : World) (h1 : Sb w wr C1 c WA2 wn2 wc2 MA2 mn2 mc2) (h2 : Sb w wr C2 c WA3 wn3 wc3 MA3 mn3 mc3) => refSame_any (bid := c.id) (bid' := c.id) (bv := c.valid) (bv' := c.valid) (bn := c.next) (bn' := c.next) (bh := c.high) (bh' := c.high) (wc := wc2) (wc' := wc3) (mc := mc2) (mc' := mc3) h1.ws h1.ms h2.ws h2.ms (Nat.le_refl _) (Nat.le_refl _) (Nat.le_refl _) (Nat.le_refl _)
        rw [eqX_eq (a := ⟨c.id, c.valid, c.next, c.high, c.words, c.msgs⟩) rfl] at kS
        have KS := Lib.hid kS
        clear kS hm1 hm0 hll
        obtain ⟨_, _, _, _, _, p5, _⟩ := six_at HI9.out.blk
        obtain ⟨d0, d1, d2, d3, d4, d5, _⟩ := six_at HC19.out.blk
        obtain ⟨e0, e1, e2, e3, e4, e5, _⟩ := six_at HC2.out.blk
        go_wp2_with fail
        refine (KS.out _ HC19.out HC2.out).mono ?_
        rintro e v1 ⟨rfl, hv1⟩
        have Y0 := Lib.hid (HI9.out.go hv1)
        have Y1 := Lib.hid (HC19.out.go hv1)
        have Y2 := Lib.hid (HC2.out.go hv1)
        clear hv1 p5 d0 d1 d2 d3 d4 d5 e0 e1 e2 e3 e4 e5
        obtain ⟨_, _, _, _, _, p5, _⟩ := six_at Y0.out.blk
        obtain ⟨d0, d1, d2, d3, d4, d5, _⟩ := six_at Y1.out.blk
        go_wp2_with (go_at_call 10; refine (HAW.out _ Y0.out.bel).mono ?_; rintro e v2 ⟨rfl, hv2⟩)
        go_ret
        exact ⟨rfl, Y0.out.bel.trans (hv2.mono Y0.out.bel.size)⟩
end Go.Proofs.YtmkbmdoglcimbaaDoor.RwOrder
