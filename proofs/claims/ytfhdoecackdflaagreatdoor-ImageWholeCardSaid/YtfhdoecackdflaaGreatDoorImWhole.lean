/-
  Whole of what is made is the box, in each form: the walk.
-/
import Derived.Test.YtfhdoecackdflaaGreatDoorImAw
import Derived.Test.YtfhdoecackdflaaGreatDoorBxH
import Derived.Deep.RegionHeld3
import Derived.Deep.DeepCutAuto
set_option linter.unusedVariables false
set_option linter.unusedSimpArgs false
namespace Go.Proofs.YtfhdoecackdflaaGreatDoor.ImWhole
open Go.RowKit Go.Proofs.YtfhdoecackdflaaGreatDoor.BxD Go.Proofs.YtfhdoecackdflaaGreatDoor.BxKit Go.Proofs.YtfhdoecackdflaaGreatDoor.BxR Go.Proofs.YtfhdoecackdflaaGreatDoor.BxC Go.Proofs.YtfhdoecackdflaaGreatDoor.BxB Go.Proofs.YtfhdoecackdflaaGreatDoor.BxH Go.Proofs.YtfhdoecackdflaaGreatDoor.BxS Go.Proofs.YtfhdoecackdflaaGreatDoor.BxX Go.Proofs.YtfhdoecackdflaaGreatDoor.OlD Go.Proofs.YtfhdoecackdflaaGreatDoor.PtK Go.Proofs.YtfhdoecackdflaaGreatDoor.RwD Go.Proofs.YtfhdoecackdflaaGreatDoor.RwKit Go.Proofs.YtfhdoecackdflaaGreatDoor.RwRo Go.Proofs.YtfhdoecackdflaaGreatDoor.ImD Go.Proofs.YtfhdoecackdflaaGreatDoor.ImK Go.Proofs.YtfhdoecackdflaaGreatDoor.ImA Go.Proofs.YtfhdoecackdflaaGreatDoor.ImB Go.Proofs.YtfhdoecackdflaaGreatDoor.ImP Go.Proofs.YtfhdoecackdflaaGreatDoor.ImN Go.Proofs.YtfhdoecackdflaaGreatDoor.ImL
open Go.Proofs.YtfhdoecackdflaaGreatDoor.PkKit (BytesAt)

theorem form_k (x : Int) : ∃ k : Nat, (k = 1 ∨ k = 2 ∨ k = 3) ∧ wrap64 (1 + wrap64 ((IntKind.u64.wrap x).tmod 3)) = (k : Int) := by
  have h0 := wrap_u64_nonneg x
  generalize IntKind.u64.wrap x = y at h0
  have h1 : 0 ≤ y % 3 := Int.emod_nonneg _ (by decide)
  have h2 : y % 3 < 3 := Int.emod_lt_of_pos _ (by decide)
  rw [Int.tmod_eq_emod_of_nonneg h0]
  refine ⟨(1 + y % 3).toNat, by omega, ?_⟩
  unfold wrap64
  omega
set_option maxHeartbeats 8000000 in
set_option maxRecDepth 100000 in
theorem walk {b : Box} {WA MA : Option Addr} {wn wcp mn mcp : Nat} {x : Int} {w : World} (ht : BxO.Tab w) (h1 : StrsAt w w.heap.size WA wn b.words) (h2 : MsgsAt w w.heap.size MA mn b.msgs) (hwc : wn ≤ wcp) (hmc : mn ≤ mcp) (z1 : b.id.size ≤ 140737488355328) :
    Calls Tryz.prog 3 #[.int .i64 x, .agg #[.string b.id, .int .i64 b.valid, .int .i64 b.next, .int .i64 b.high, .slice WA wn wcp, .slice MA mn mcp]] w fun e w' => e = .returned (.bool true) ∧ Below w.heap.size w w' := by
  have KH := fun o => heavy_any (bid := b.id) (bv := b.valid) (bn := b.next) (bh := b.high) (wc := wcp) (mc := mcp) (StrsAt.below h1 ((Below.refl _ w).alloc (Nat.le_refl _) o) (Nat.le_refl _)) (MsgsAt.below h2 ((Below.refl _ w).alloc (Nat.le_refl _) o) (Nat.le_refl _)) (by simp) (by simp) z1
  have KM := fun (wr : World) (h : After w (.cells #[.string b.id, .int .i64 b.valid, .int .i64 b.next, .int .i64 b.high, .slice WA wn wcp, .slice MA mn mcp] 25) wr) => ref_may (bid := b.id) (bv := b.valid) (bn := b.next) (bh := b.high) (wc := wcp) (mc := mcp) (StrsAt.below h1 h.below (Nat.le_refl _)) (MsgsAt.below h2 h.below (Nat.le_refl _)) h.below.size hwc
  have HAW := Lib.hid (fun (wr : World) (hb : Below w.heap.size w wr) => ImAw.awake (ht.below hb (Nat.le_refl _)))
  have HS := Lib.hid (After.start w (.cells #[.string b.id, .int .i64 b.valid, .int .i64 b.next, .int .i64 b.high, .slice WA wn wcp, .slice MA mn mcp] 25))
  have HX := Lib.hid h1
  have HM := Lib.hid h2
  have HT := Lib.hid ht
  have HWC := Lib.hid hwc
  have HMC := Lib.hid hmc
  clear h1 h2 ht hwc hmc
  rcases hv_or b.id b.words b.msgs with hh | ⟨hh, _, _, _⟩
  · simp only [hh] at KH
    have K1 := Lib.hid KH
    clear KH hh KM
    go_enter Tryz.func3, Tryz.ntmps3
    go_wp2_with fail
    refine (K1.out _).mono ?_
    rintro e w1 ⟨rfl, hb1⟩
    have HB := Lib.hid (HS.out.go hb1).below
    clear hb1
    go_wp2_with (go_at_call 9; refine (HAW.out _ HB.out).mono ?_; rintro e w9 ⟨rfl, hb9⟩)
    go_ret
    exact ⟨rfl, (HB.out).trans (hb9.mono (HB.out).size)⟩
  simp only [hh] at KH
  have K1 := Lib.hid KH
  clear KH hh
  obtain ⟨em, hem⟩ : ∃ em, em = mbE b := ⟨_, rfl⟩
  simp only [show mbE ⟨b.id, b.valid, b.next, b.high, b.words, b.msgs⟩ = mbE b from rfl, ← hem] at KM
  have K2 := Lib.hid KM
  clear KM
  by_cases he : em = 0
  case neg =>
    have hne : (em != 0) = true := by simpa using he
    clear he hem
    go_enter Tryz.func3, Tryz.ntmps3
    go_wp2_with fail
    refine (K1.out _).mono ?_
    rintro e w1 ⟨rfl, hb1⟩
    have HB := Lib.hid (HS.out.go hb1)
    obtain ⟨b0, b1, b2, b3, b4, b5⟩ := HB.out.box
    clear hb1
    go_wp2_with fail
    refine (K2.out _ HB.out).mono ?_
    rintro e w2 ⟨rfl, hb2⟩
    have HB2 := Lib.hid (HB.out.go hb2).below
    clear hb2
    go_wp2_with (go_at_call 9; refine (HAW.out _ HB2.out).mono ?_; rintro e w9 ⟨rfl, hb9⟩)
    go_ret
    exact ⟨rfl, (HB2.out).trans (hb9.mono (HB2.out).size)⟩
  subst he
  have HE := Lib.hid hem.symm
  clear hem
  go_enter Tryz.func3, Tryz.ntmps3
  go_wp2_with fail
  refine (K1.out _).mono ?_
  rintro e w1 ⟨rfl, hb1⟩
  have HB := Lib.hid (HS.out.go hb1)
  obtain ⟨b0, b1, b2, b3, b4, b5⟩ := HB.out.box
  clear hb1 K1 HS
  go_upto_region 3 with (go_at_call 8; go_loud (
     refine (K2.out _ HB.out).mono ?_
     rintro e w2 ⟨rfl, hb2⟩
     have HB2 := Lib.hid (HB.out.go hb2)
     clear hb2 b0 b1 b2 b3 b4 b5))
  obtain ⟨b0, b1, b2, b3, b4, b5⟩ := HB2.out.box
  clear K2 HB
  go_upto_region 4 with fail
  obtain ⟨k, hk3, hk⟩ := form_k x
  rw [hk]
  have hk1 : (k : Int) < 3 ∨ k = 3 := by omega
  have HK3 := Lib.hid hk3
  clear hk hk3
  have KM := Lib.hid (make_any HK3.out (b := b) (HT.out.below HB2.out.below (Nat.le_refl _)) (StrsAt.below HX.out HB2.out.below (Nat.le_refl _)) (MsgsAt.below HM.out HB2.out.below (Nat.le_refl _)) HB2.out.below.size HWC.out HMC.out HE.out)
  go_upto_region 7 with (go_at_call 10; go_loud (
     refine KM.out.mono ?_
     rintro e w3 ⟨A, n, c, A2, n2, c2, rfl, hnc, hnc2, hn2, hz, hr, hb3⟩
     have HB3 := Lib.hid (HB2.out.go hb3)
     have HZ := Lib.hid hz
     have HR := Lib.hid hr
     clear hz hr hb3 b0 b1 b2 b3 b4 b5))
  clear KM HB2
  obtain ⟨b0, b1, b2, b3, b4, b5⟩ := HB3.out.box
  have kw := whole_made HK3.out (b := b) (cp := c) (c2 := c2) (HT.out.below HB3.out.below (Nat.le_refl _)) HE.out HZ.out (Nat.le_refl _) hnc HR.out hnc2 (fun r hr => by have := re_keys HE.out r hr; omega)
  rw [whole_re (fmI_is k) HE.out] at kw
  have KW := Lib.hid kw
  clear kw
  go_upto_region 8 with (go_at_call 11; go_loud (
     refine KW.out.mono ?_
     rintro e w4 ⟨CA, cn, cc, NA, nn, nc, rfl, hcc, hnc3, hl4, hb4⟩
     have HBl4 := Lib.hid (HB3.out.below.trans (hb4.mono HB3.out.below.size))
     have hbx := hb4.alloc hb4.size (.cells #[.string b.id, .int .i64 b.valid, .int .i64 b.next, .int .i64 b.high, .slice CA cn cc, .slice NA nn nc] 25)
     have HB4 := Lib.hid (HB3.out.go hbx)
     have HZ4 := Lib.hid (HZ.out.below hbx (Nat.le_refl _))
     have hs4 := hb4.size
     have HQ4 := Lib.hid (heap_alloc_new w4 (.cells #[.string b.id, .int .i64 b.valid, .int .i64 b.next, .int .i64 b.high, .slice CA cn cc, .slice NA nn nc] 25))
     have HL4 := Lib.hid (hl4 (w4.alloc (.cells #[.string b.id, .int .i64 b.valid, .int .i64 b.next, .int .i64 b.high, .slice CA cn cc, .slice NA nn nc] 25)) (by simp) (fun k _ h2 => heap_alloc_old w4 _ h2))
     clear hl4 hb4 hbx b0 b1 b2 b3 b4 b5))
  clear KW
  have hs3 := HB3.out.below.size
  clear HB3
  obtain ⟨Q, hQ⟩ : ∃ Q, Q = w4.heap.size := ⟨_, rfl⟩
  rw [← hQ] at HQ4 HL4 ⊢
  have hsQ : (w4.alloc (.cells #[.string b.id, .int .i64 b.valid, .int .i64 b.next, .int .i64 b.high, .slice CA cn cc, .slice NA nn nc] 25)).heap.size = Q + 1 := by simp [hQ]
  have hQ2 : w3.heap.size ≤ Q := by omega
  clear hQ HBl4
  generalize (World.alloc w4 _) = w5 at HB4 HZ4 HQ4 HL4 hsQ ⊢
  obtain ⟨b0, b1, b2, b3, b4, b5⟩ := HB4.out.box
  obtain ⟨q0, q1, q2, q3, q4, q5, _⟩ := six_at HQ4.out
  have KS := Lib.hid (refSame_any (bid := b.id) (bv := b.valid) (bn := b.next) (bh := b.high) (wc := wcp) (mc := mcp) (bid' := b.id) (bv' := b.valid) (bn' := b.next) (bh' := b.high) (wc' := cc) (mc' := nc) (StrsAt.below HX.out HB4.out.below (Nat.le_refl _)) (MsgsAt.below HM.out HB4.out.below (Nat.le_refl _)) HL4.out.1 HL4.out.2 HB4.out.below.size HB4.out.below.size (show Q ≤ w5.heap.size by omega) (show Q ≤ w5.heap.size by omega))
  have KS := Lib.hid (show Calls Tryz.prog 12 #[.agg #[.string b.id, .int .i64 b.valid, .int .i64 b.next, .int .i64 b.high, .slice WA wn wcp, .slice MA mn mcp], .agg #[.string b.id, .int .i64 b.valid, .int .i64 b.next, .int .i64 b.high, .slice CA cn cc, .slice NA nn nc]] w5 (fun e w' => e = .returned (.bool true) ∧ Below w5.heap.size w5 w') from KS.out.mono (fun e w' h => ⟨by rw [h.1, eqX_eq rfl], h.2⟩))
  have kv := fun (wr : World) (hb : Below w5.heap.size w5 wr) => version_any (cp := c) (HZ4.out.below hb (show w3.heap.size ≤ w5.heap.size by omega)) (show w3.heap.size ≤ wr.heap.size by have := hb.size; omega) hnc (by have h1 := HZ4.out.1; have h2 := raw_len (k := k) HE.out; omega)
  simp only [raw_ver HK3.out] at kv
  have KV := Lib.hid kv
  clear kv
  have hkk : ((k : Int) == (k : Int)) = true := by simp
  rcases hk1 with hk1 | hk1
  · go_wp2_with (first
      | (go_at_call 12; go_loud (
         refine KS.out.mono ?_
         rintro e w6 ⟨rfl, hb6⟩
         have HB6 := Lib.hid (HB4.out.go hb6)
         have KV6 := Lib.hid (KV.out w6 hb6)
         clear hb6 b0 b1 b2 b3 b4 b5 q0 q1 q2 q3 q4 q5))
      | (go_at_call 13; go_loud (
         refine KV6.out.mono ?_
         rintro e w7 ⟨rfl, hb7⟩
         have HB7 := Lib.hid (HB6.out.go hb7).below
         clear hb7))
      | (go_at_call 9; go_loud (
         refine (HAW.out _ HB7.out).mono ?_
         rintro e w8 ⟨rfl, hb8⟩
         have HB8 := Lib.hid (HB7.out.trans (hb8.mono HB7.out.size))
         clear hb8)))
    go_ret
    exact ⟨rfl, HB8.out⟩
  · have hn0 : n2 = 0 := by
      have h := HR.out.len
      rw [hk1] at h
      rw [show re (fmI 3) b = [] from re_three HE.out] at h
      exact h.symm
    subst hn0
    subst hk1
    go_wp2_with (first
      | (go_at_call 12; go_loud (
         refine KS.out.mono ?_
         rintro e w6 ⟨rfl, hb6⟩
         have HB6 := Lib.hid (HB4.out.go hb6)
         have KV6 := Lib.hid (KV.out w6 hb6)
         clear hb6 b0 b1 b2 b3 b4 b5 q0 q1 q2 q3 q4 q5))
      | (go_at_call 13; go_loud (
         refine KV6.out.mono ?_
         rintro e w7 ⟨rfl, hb7⟩
         have HB7 := Lib.hid (HB6.out.go hb7).below
         clear hb7))
      | (go_at_call 9; go_loud (
         refine (HAW.out _ HB7.out).mono ?_
         rintro e w8 ⟨rfl, hb8⟩
         have HB8 := Lib.hid (HB7.out.trans (hb8.mono HB7.out.size))
         clear hb8)))
    go_ret
    exact ⟨rfl, HB8.out⟩
end Go.Proofs.YtfhdoecackdflaaGreatDoor.ImWhole
