/-
  RowRises: whatever rows are done, Next and High never fall; words only come; the box may be.
-/
import Derived.Test.YtmkbmdoglcimbaaDoorRwApi
import Derived.Test.YtmkbmdoglcimbaaDoorRwH
import Derived.Test.YtmkbmdoglcimbaaDoorBxB
import Derived.Test.YtmkbmdoglcimbaaDoorBxH
import Derived.Test.YtmkbmdoglcimbaaDoorBxV
import Derived.Deep.DeepCutAuto
import Derived.Deep.RegionHeld3
namespace Go.Proofs.YtmkbmdoglcimbaaDoor.RwRises
open Go.RowKit Go.Proofs.YtmkbmdoglcimbaaDoor.BxD Go.Proofs.YtmkbmdoglcimbaaDoor.BxKit Go.Proofs.YtmkbmdoglcimbaaDoor.BxA Go.Proofs.YtmkbmdoglcimbaaDoor.BxB Go.Proofs.YtmkbmdoglcimbaaDoor.BxR Go.Proofs.YtmkbmdoglcimbaaDoor.BxH Go.Proofs.YtmkbmdoglcimbaaDoor.BxOp Go.Proofs.YtmkbmdoglcimbaaDoor.RwD Go.Proofs.YtmkbmdoglcimbaaDoor.RwKit Go.Proofs.YtmkbmdoglcimbaaDoor.RwH Go.Proofs.YtmkbmdoglcimbaaDoor.RwApi

theorem eleven_at {wr : World} {L : Nat} {c0 c1 c2 c3 c4 c5 c6 c7 c8 c9 c10 : Value} {t : TypeId} (h : wr.heap[L]? = some (.cells #[c0, c1, c2, c3, c4, c5, c6, c7, c8, c9, c10] t (0, 0))) :
    wr.cell? { block := L, off := 0 } = some c0 ∧ wr.cell? { block := L, off := 1 } = some c1 ∧ wr.cell? { block := L, off := 2 } = some c2 ∧ wr.cell? { block := L, off := 3 } = some c3 ∧ wr.cell? { block := L, off := 4 } = some c4 ∧ wr.cell? { block := L, off := 5 } = some c5 ∧
      wr.cell? { block := L, off := 6 } = some c6 ∧ wr.cell? { block := L, off := 7 } = some c7 ∧ wr.cell? { block := L, off := 8 } = some c8 ∧ wr.cell? { block := L, off := 9 } = some c9 ∧ wr.cell? { block := L, off := 10 } = some c10 := by
  have c : ∀ o, wr.cell? { block := L, off := o } = (#[c0, c1, c2, c3, c4, c5, c6, c7, c8, c9, c10] : Array Value)[o]? := fun o => cell_of_row wr L o _ _ _ h
  exact ⟨(c 0).trans rfl, (c 1).trans rfl, (c 2).trans rfl, (c 3).trans rfl, (c 4).trans rfl, (c 5).trans rfl, (c 6).trans rfl, (c 7).trans rfl, (c 8).trans rfl, (c 9).trans rfl, (c 10).trans rfl⟩

set_option maxHeartbeats 4000000 in
set_option maxRecDepth 100000 in
theorem walk {bid : ByteArray} {bv bn bh : Int} {WA MA A : Option Addr} {wn wc mn mc n cp : Nat} {ws : List ByteArray} {ms : List Msg} {l : List Row} {w : World} (ht : Tab w)
    (h1 : StrsAt w w.heap.size WA wn ws) (h2 : MsgsAt w w.heap.size MA mn ms) (h3 : RowsAt w w.heap.size A n l) (hwc : wn ≤ wc) (hmc : mn ≤ mc) (z1 : bid.size ≤ 140737488355328) :
    Calls Tryd.prog 5 #[.agg #[.string bid, .int .i64 bv, .int .i64 bn, .int .i64 bh, .slice WA wn wc, .slice MA mn mc], .slice A n cp] w fun e w' => e = .returned (.bool true) ∧ Below w.heap.size w w' := by
  have KH := fun o => heavy_any (bid := bid) (bv := bv) (bn := bn) (bh := bh) (wc := wc) (mc := mc) (StrsAt.below h1 ((Below.refl _ w).alloc (Nat.le_refl _) o) (Nat.le_refl _)) (MsgsAt.below h2 ((Below.refl _ w).alloc (Nat.le_refl _) o) (Nat.le_refl _)) (by simp) (by simp) z1
  have KR := fun (wr : World) (h : Below w.heap.size w wr) => heavyRows_any (cp := cp) (RowsAt.below h3 h (Nat.le_refl _)) h.size
  have KM := fun (wr : World) (h : After w (.cells #[.string bid, .int .i64 bv, .int .i64 bn, .int .i64 bh, .slice WA wn wc, .slice MA mn mc] 25) wr) => ref_may (bid := bid) (bv := bv) (bn := bn) (bh := bh) (wc := wc) (mc := mc) (StrsAt.below h1 h.below (Nat.le_refl _)) (MsgsAt.below h2 h.below (Nat.le_refl _)) h.below.size hwc
  have HAW := Lib.hid (fun (wr : World) (h : Below w.heap.size w wr) => awake (ht.below h))
  have HS := Lib.hid (After.start w (.cells #[.string bid, .int .i64 bv, .int .i64 bn, .int .i64 bh, .slice WA wn wc, .slice MA mn mc] 25))
  have HX := Lib.hid h1
  have HM := Lib.hid h2
  have HR := Lib.hid h3
  have hn := h3.max
  clear h1 h2 h3 ht
  obtain ⟨hvv, hhv⟩ : ∃ hvv, hvv = hv bid ws ms := ⟨_, rfl⟩
  have hv01 : hvv = 1 ∨ hvv = 0 := by rcases hv_or bid ws ms with h | h; exact .inl (hhv.trans h); exact .inr (hhv.trans h.1)
  rw [← hhv] at KH
  clear hhv
  have K1 := Lib.hid KH
  have K2 := Lib.hid KR
  clear KH KR
  rcases hv01 with rfl | rfl
  · go_enter Tryd.func5, Tryd.ntmps5
    go_wp2_with fail
    refine (K1.out _).mono ?_
    rintro e w1 ⟨rfl, hb1⟩
    have HB := Lib.hid (HS.out.go hb1).below
    clear hb1
    go_wp2_with (go_at_call 10; refine (HAW.out _ HB.out).mono ?_; rintro e w2 ⟨rfl, hb2⟩)
    go_ret
    exact ⟨rfl, HB.out.trans (hb2.mono HB.out.size)⟩
  go_enter Tryd.func5, Tryd.ntmps5
  go_wp2_with fail
  refine (K1.out _).mono ?_
  rintro e w1 ⟨rfl, hb1⟩
  have H1 := Lib.hid (HS.out.go hb1)
  clear hb1
  have K3 := Lib.hid (K2.out _ H1.out.below)
  go_wp2_with fail
  refine K3.out.mono ?_
  rintro e w2 ⟨v, rfl, hfew, hb2⟩
  have HFW := Lib.hid hfew
  clear hfew
  have H2 := Lib.hid (H1.out.go hb2)
  clear hb2 K3 K1 K2 H1
  by_cases hv0 : 0 < v
  · have HB := Lib.hid H2.out.below
    go_wp2_with (go_at_call 10; refine (HAW.out _ HB.out).mono ?_; rintro e w9 ⟨rfl, hb9⟩)
    go_ret
    exact ⟨rfl, HB.out.trans (hb9.mono HB.out.size)⟩
  have hv0' : v ≤ 0 := by omega
  have HF := Lib.hid (HFW.out hv0')
  clear HFW
  clear hv0
  by_cases hn6 : 60 < n
  · have HB := Lib.hid H2.out.below
    have hn6' : 60 < (n : Int) := by omega
    go_wp2_with (go_at_call 10; refine (HAW.out _ HB.out).mono ?_; rintro e w9 ⟨rfl, hb9⟩)
    go_ret
    exact ⟨rfl, HB.out.trans (hb9.mono HB.out.size)⟩
  have hn6' : (n : Int) ≤ 60 := by omega
  clear hn6
  have K4 := Lib.hid (KM _ H2.out)
  obtain ⟨em, hem⟩ : ∃ em, em = mbE ⟨bid, bv, bn, bh, ws, ms⟩ := ⟨_, rfl⟩
  rw [← hem] at K4
  clear KM
  obtain ⟨b0, b1, b2, b3, b4, b5⟩ := H2.out.box
  by_cases he : em = 0
  case neg =>
    have hne : (em != 0) = true := by simpa using he
    clear he hem
    go_wp2_with fail
    refine K4.out.mono ?_
    rintro e w3 ⟨rfl, hb3⟩
    have HB := Lib.hid (H2.out.go hb3).below
    clear hb3
    go_wp2_with (go_at_call 10; refine (HAW.out _ HB.out).mono ?_; rintro e w9 ⟨rfl, hb9⟩)
    go_ret
    exact ⟨rfl, HB.out.trans (hb9.mono HB.out.size)⟩
  subst he
  have HE := Lib.hid hem.symm
  clear hem
  go_wp2_with fail
  refine K4.out.mono ?_
  rintro e w3 ⟨rfl, hb3⟩
  have H3 := Lib.hid (H2.out.go hb3)
  clear hb3 K4 b0 b1 b2 b3 b4 b5 H2
  have HI := Lib.hid (show Sb w w3 w.heap.size ⟨bid, bv, bn, bh, ws, ms⟩ WA wn wc MA mn mc from
    Sb.first rfl H3.out HX.out HM.out hwc hmc)
  have HG := Lib.hid (show (⟨bid, bv, bn, bh, ws, ms⟩ : Box).id.size ≤ 140737488355328 from z1)
  clear HS HX HM
  go_wp2_with fail
  go_loopw [32] (fun s32 wr => ∃ k : Nat, k ≤ n ∧ s32 = .int .i64 k ∧ Hid (∃ b WA wn wc MA mn mc, mbE b = 0 ∧ b.id.size ≤ 140737488355328 ∧ Sb w wr w.heap.size b WA wn wc MA mn mc)) (fun s32 _ => n - (intOf s32).toNat)
  case atStart => exact ⟨0, Nat.zero_le _, rfl, _, _, _, _, _, _, _, HE.out, HG.out, HI.out⟩
  case round =>
    clear HI HG HE H3 hwc hmc
    obtain ⟨k, hk, rfl, HQ⟩ := hrel
    obtain ⟨b, WA, wn, wc, MA, mn, mc, hbe, hbz, hsb⟩ := HQ.out
    have HI := Lib.hid hsb
    have HE := Lib.hid hbe
    have HZ := Lib.hid hbz
    clear hsb hbe hbz HQ
    by_cases hlt : k < n
    · obtain ⟨ad, kd, ru, rm, u, md, d, id, fl, ks, tx, t, K, kn, kc, rfl, _, hlx, c0, c1, c2, c3, c4, c5, c6, c7, c8, c9, c10, hkc, hks, y1, y2, y3⟩ := RowsAt.sp HR.out HI.out.bel (Nat.le_refl _) hlt
      have hkb1 : ks.length ≤ 90000 := HF.out _ (List.mem_of_getElem? hlx)
      have hkb2 := hks.len
      have HKB := Lib.hid (show kn ≤ 1000000 by omega)
      clear hkb1 hkb2 hlx
      obtain ⟨b0, b1, b2, b3, b4, b5, f0, f1, f2, f3, f4, f5⟩ := six_at HI.out.blk
      go_upto_region 6 with fail
      have HI1 := Lib.hid (HI.out.alloc (.cells #[.int .i64 kd, .int .i64 ru, .int .i64 rm, .int .i64 u, .int .i64 md, .int .i64 d, .string id, .int .i64 fl, .slice K kn kc, .string tx, .string t] 50))
      have HK := Lib.hid (IntsAt.more (IntsAt.below hks ((Below.refl _ _).alloc (Nat.le_refl _) (.cells #[.int .i64 kd, .int .i64 ru, .int .i64 rm, .int .i64 u, .int .i64 md, .int .i64 d, .string id, .int .i64 fl, .slice K kn kc, .string tx, .string t] 50)) HI.out.bel.size) (Nat.le_trans HI.out.bel.size (show wr.heap.size ≤ (wr.alloc (.cells #[.int .i64 kd, .int .i64 ru, .int .i64 rm, .int .i64 u, .int .i64 md, .int .i64 d, .string id, .int .i64 fl, .slice K kn kc, .string tx, .string t] 50)).heap.size by simp)))
      have HRW := Lib.hid (heap_alloc_new wr (.cells #[.int .i64 kd, .int .i64 ru, .int .i64 rm, .int .i64 u, .int .i64 md, .int .i64 d, .string id, .int .i64 fl, .slice K kn kc, .string tx, .string t] 50))
      clear hks c0 c1 c2 c3 c4 c5 c6 c7 c8 c9 c10 b0 b1 b2 b3 b4 b5 f0 f1 f2 f3 f4 f5
      obtain ⟨R, hR⟩ : ∃ R, R = wr.heap.size := ⟨_, rfl⟩
      rw [← hR] at HRW ⊢
      clear hR
      generalize (World.alloc wr _) = W at HI1 HK HRW ⊢
      clear HI
      obtain ⟨b0, b1, b2, b3, b4, b5, f0, f1, f2, f3, f4, f5⟩ := six_at HI1.out.blk
      obtain ⟨c0, c1, c2, c3, c4, c5, c6, c7, c8, c9, c10⟩ := eleven_at HRW.out
      have hap := apply_any (kd := kd) (ru := ru) (rm := rm) (u := u) (md := md) (d := d) (fl := fl) (id := id) (tx := tx) (t := t) HI1.out.ws HI1.out.ms HI1.out.hwc HI1.out.hmc HZ.out (Nat.le_refl _) HK.out hkc y3 y1 y2 HKB.out
      by_cases hq : apE b ⟨kd, ru, rm, ⟨u, md, d, id, fl, ks, tx⟩, t⟩ = 0
      case neg =>
        unfold ap at hap
        rw [if_neg hq] at hap
        have hqb : (apE b ⟨kd, ru, rm, ⟨u, md, d, id, fl, ks, tx⟩, t⟩ != 0) = true := by simpa using hq
        generalize apE b ⟨kd, ru, rm, ⟨u, md, d, id, fl, ks, tx⟩, t⟩ = er at hap hqb
        have HAP := Lib.hid hap
        clear hap hq
        go_wp2_with fail
        refine HAP.out.mono ?_
        rintro e w5 ⟨WA2, wn2, wc2, MA2, mn2, mc2, rfl, _, _, _, hb5⟩
        have HI5 := Lib.hid (fun o => (HI1.out.go hb5).alloc o)
        clear hb5 b0 b1 b2 b3 b4 b5 f0 f1 f2 f3 f4 f5 c0 c1 c2 c3 c4 c5 c6 c7 c8 c9 c10
        go_wp2_with fail
        go_roundw
        case rel => exact ⟨k + 1, by omega, by go_num, Lib.hid ⟨_, _, _, _, _, _, _, HE.out, HZ.out, HI5.out _⟩⟩
        case measure => simp [intOf]; omega
      obtain ⟨hmay, gid, gv, gn, gh, wl, hwl⟩ := ap_may hq
      unfold ap at hap
      rw [if_pos hq] at hap
      obtain ⟨⟨cid, cv, cn, ch, cw, cm⟩, hc⟩ : ∃ c, c = apB b ⟨kd, ru, rm, ⟨u, md, d, id, fl, ks, tx⟩, t⟩ := ⟨_, rfl⟩
      rw [← hc] at hap hmay gid gv gn gh hwl
      clear hc hq
      dsimp only at hap gid gv gn gh hwl
      subst gid gv
      have HAP := Lib.hid hap
      clear hap
      go_wp2_with fail
      refine HAP.out.mono ?_
      rintro e w5 ⟨WA2, wn2, wc2, MA2, mn2, mc2, rfl, hc1, hc2, hlie, hb5⟩
      dsimp only at hlie
      have HLIE := Lib.hid hlie
      have HI5 := Lib.hid (HI1.out.go hb5)
      have HC := Lib.hid (Sb.new (c := ⟨b.id, b.valid, cn, ch, cw, cm⟩) HI5.out.bel hb5.size hc1 hc2 hlie)
      have HI6 := Lib.hid (HI5.out.alloc (.cells #[.string b.id, .int .i64 b.valid, .int .i64 cn, .int .i64 ch, .slice WA2 wn2 wc2, .slice MA2 mn2 mc2] 25))
      have HWW := Lib.hid (show ∀ k, k < w5.heap.size → (w5.alloc (.cells #[.string b.id, .int .i64 b.valid, .int .i64 cn, .int .i64 ch, .slice WA2 wn2 wc2, .slice MA2 mn2 mc2] 25)).heap[k]? = w5.heap[k]? from fun k hk => Below.heap_alloc _ _ _ hk)
      have hsz : w5.heap.size ≤ (w5.alloc (.cells #[.string b.id, .int .i64 b.valid, .int .i64 cn, .int .i64 ch, .slice WA2 wn2 wc2, .slice MA2 mn2 mc2] 25)).heap.size := by simp
      have hPW := HI1.out.lt
      clear hlie hb5 b0 b1 b2 b3 b4 b5 f0 f1 f2 f3 f4 f5 c0 c1 c2 c3 c4 c5 c6 c7 c8 c9 c10 HI5 HI1 HK HRW HAP
      go_upto_region 7 with fail
      obtain ⟨C, hC⟩ : ∃ C, C = w5.heap.size := ⟨_, rfl⟩
      rw [← hC] at HC ⊢
      generalize (World.alloc w5 _) = W6 at HC HI6 HWW hsz ⊢
      clear hC
      obtain ⟨b0, b1, b2, b3, b4, b5, f0, f1, f2, f3, f4, f5⟩ := six_at HI6.out.blk
      obtain ⟨d0, d1, d2, d3, d4, d5, _⟩ := six_at HC.out.blk
      have hl1 := HI6.out.ws.len
      have hl2 := HC.out.ws.len
      dsimp only at hl2
      rw [hwl, List.length_append] at hl2
      have hle : (wn : Int) ≤ (wn2 : Int) := by omega
      have hkm := ref_may (bid := b.id) (bv := b.valid) (bn := cn) (bh := ch) (wc := wc2) (mc := mc2) HC.out.ws HC.out.ms (Nat.le_refl _) hc1
      dsimp only at hkm
      rw [hmay] at hkm
      have HKM := Lib.hid hkm
      have HMAY := Lib.hid hmay
      clear hkm hmay
      go_wp2_with fail
      refine HKM.out.mono ?_
      rintro e w7 ⟨rfl, hb7⟩
      have HI7 := Lib.hid (HI6.out.go hb7)
      have HC7 := Lib.hid (HC.out.go hb7)
      have HW7 := Lib.hid (show ∀ k, k < w5.heap.size → w7.heap[k]? = w5.heap[k]? from fun k hk => (hb7.block k (Nat.lt_of_lt_of_le hk hsz)).trans (HWW.out k hk))
      have hsz7 := Nat.le_trans hsz hb7.size
      clear hb7 HI6 HC HWW HKM b0 b1 b2 b3 b4 b5 f0 f1 f2 f3 f4 f5 d0 d1 d2 d3 d4 d5
      obtain ⟨b0, b1, b2, b3, b4, b5, f0, f1, f2, f3, f4, f5⟩ := six_at HI7.out.blk
      obtain ⟨d0, d1, d2, d3, d4, d5, _⟩ := six_at HC7.out.blk
      go_wp2_with fail
      go_loop [92] (fun s92 => ∃ i : Nat, i ≤ wn ∧ s92 = .int .i64 i) (fun s92 => wn - (intOf s92).toNat)
      case atStart => exact ⟨0, Nat.zero_le _, rfl⟩
      case round =>
        obtain ⟨i, hi, rfl⟩ := hrel
        have hwnm := HI7.out.ws.max
        have hl1 := HI7.out.ws.len
        have hl2 : cw.length = wn2 := HC7.out.ws.len
        rw [hwl, List.length_append] at hl2
        by_cases hlt2 : i < wn
        · obtain ⟨ad1, x1, rfl, e1, hc3⟩ := StrsAt.at_ HI7.out.ws (Below.refl w7.heap.size w7) (Nat.le_refl _) hlt2
          obtain ⟨ad2, x2, rfl, e2, hc4⟩ := StrsAt.at_ HC7.out.ws (Below.refl w7.heap.size w7) (Nat.le_refl _) (show i < wn2 by omega)
          have hxx : x2 = x1 := by
            dsimp only at e2
            rw [hwl, List.getElem?_append_left (by omega), e1] at e2
            exact (Option.some.inj e2).symm
          subst hxx
          have g1 : (0 : Int) ≤ (i : Int) := by omega
          have g2 : (i : Int) < (wn2 : Int) := by omega
          clear e1 e2
          go_wp2_with fail
          go_round
          case rel => exact ⟨i + 1, by omega, by go_num⟩
          case measure => simp [intOf]; omega
        · obtain rfl : wn = i := by omega
          have HN := Lib.hid (HI7.out.put (c := ⟨b.id, b.valid, cn, ch, cw, cm⟩) HLIE.out hc1 hc2 hPW hsz7 fun k _ hk => HW7.out k hk)
          have HCZ := Lib.hid (show (⟨b.id, b.valid, cn, ch, cw, cm⟩ : Box).id.size ≤ 140737488355328 from HZ.out)
          go_wp2_with fail
          go_roundw
          case rel => exact ⟨k + 1, by omega, by go_num, Lib.hid ⟨_, _, _, _, _, _, _, HMAY.out, HCZ.out, HN.out⟩⟩
          case measure => simp [intOf]; omega
    · obtain rfl : n = k := by omega
      have HB := Lib.hid HI.out.bel
      go_wp2_with (go_at_call 10; refine (HAW.out _ HB.out).mono ?_; rintro e w9 ⟨rfl, hb9⟩)
      go_ret
      exact ⟨rfl, HB.out.trans (hb9.mono HB.out.size)⟩
end Go.Proofs.YtmkbmdoglcimbaaDoor.RwRises
