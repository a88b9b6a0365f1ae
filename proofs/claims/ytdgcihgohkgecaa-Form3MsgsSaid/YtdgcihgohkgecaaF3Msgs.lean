/-
  Form3Msgs: a box is its head and its messages, one behind the other, each by the one ahead.
-/
import Derived.Test.YtdgcihgohkgecaaF3Aw
import Derived.Test.YtdgcihgohkgecaaBxH
import Derived.Deep.CutBlock
import Derived.Deep.RegionHeld3
namespace Go.Proofs.Ytdgcihgohkgecaa.F3Msgs
open Go.RowKit Go.Proofs.Ytdgcihgohkgecaa.BxD Go.Proofs.Ytdgcihgohkgecaa.BxKit Go.Proofs.Ytdgcihgohkgecaa.BxB Go.Proofs.Ytdgcihgohkgecaa.BxH Go.Proofs.Ytdgcihgohkgecaa.OlD Go.Proofs.Ytdgcihgohkgecaa.PtK Go.Proofs.Ytdgcihgohkgecaa.PtD Go.Proofs.Ytdgcihgohkgecaa.F3D
open Go.Proofs.Ytdgcihgohkgecaa.PkKit (BytesAt)

set_option maxHeartbeats 4000000 in
set_option maxRecDepth 100000 in
theorem walk {b : Box} {WA MA : Option Addr} {wn wcp mn mcp : Nat} {w : World} (h1 : StrsAt w w.heap.size WA wn b.words) (h2 : MsgsAt w w.heap.size MA mn b.msgs) (hwc : wn ≤ wcp) (hmc : mn ≤ mcp) (z1 : b.id.size ≤ 140737488355328) :
    Calls Try.prog 5 #[.agg #[.string b.id, .int .i64 b.valid, .int .i64 b.next, .int .i64 b.high, .slice WA wn wcp, .slice MA mn mcp]] w fun e w' => e = .returned (.bool true) ∧ Below w.heap.size w w' := by
  have KH := fun o => heavy_any (bid := b.id) (bv := b.valid) (bn := b.next) (bh := b.high) (wc := wcp) (mc := mcp) (StrsAt.below h1 ((Below.refl _ w).alloc (Nat.le_refl _) o) (Nat.le_refl _)) (MsgsAt.below h2 ((Below.refl _ w).alloc (Nat.le_refl _) o) (Nat.le_refl _)) (by simp) (by simp) z1
  have KM := fun (wr : World) (h : After w (.cells #[.string b.id, .int .i64 b.valid, .int .i64 b.next, .int .i64 b.high, .slice WA wn wcp, .slice MA mn mcp] 25) wr) => ref_may (bid := b.id) (bv := b.valid) (bn := b.next) (bh := b.high) (wc := wcp) (mc := mcp) (StrsAt.below h1 h.below (Nat.le_refl _)) (MsgsAt.below h2 h.below (Nat.le_refl _)) h.below.size hwc
  have HAW := Lib.hid (fun (wr : World) => F3Aw.awake wr)
  have HS := Lib.hid (After.start w (.cells #[.string b.id, .int .i64 b.valid, .int .i64 b.next, .int .i64 b.high, .slice WA wn wcp, .slice MA mn mcp] 25))
  have HX := Lib.hid h1
  have HM := Lib.hid h2
  have HWC := Lib.hid hwc
  have HMC := Lib.hid hmc
  clear h1 h2 hwc hmc
  rcases hv_or b.id b.words b.msgs with hh | ⟨hh, _, _, _⟩
  · simp only [hh] at KH
    have K1 := Lib.hid KH
    clear KH hh KM
    go_enter Try.func5, Try.ntmps5
    go_wp2_with fail
    refine (K1.out _).mono ?_
    rintro e w1 ⟨rfl, hb1⟩
    have HB := Lib.hid (HS.out.go hb1).below
    clear hb1
    go_wp2_with (go_at_call 9; refine (HAW.out _).mono ?_; rintro e w2 ⟨rfl, hb2⟩)
    go_ret
    exact ⟨rfl, HB.out.trans (hb2.mono HB.out.size)⟩
  simp only [hh] at KH
  have K1 := Lib.hid KH
  clear KH hh
  obtain ⟨em, hem⟩ : ∃ em, em = mbE b := ⟨_, rfl⟩
  simp only [show mbE ⟨b.id, b.valid, b.next, b.high, b.words, b.msgs⟩ = mbE b from rfl, ← hem] at KM
  have K2 := Lib.hid KM
  clear KM
  by_cases he : em = 0
  case neg =>
    have hne : (em != 0) = true := by simpa using he
    clear he hem
    go_enter Try.func5, Try.ntmps5
    go_wp2_with fail
    refine (K1.out _).mono ?_
    rintro e w1 ⟨rfl, hb1⟩
    have HB := Lib.hid (HS.out.go hb1)
    obtain ⟨b0, b1, b2, b3, b4, b5⟩ := HB.out.box
    clear hb1
    go_wp2_with fail
    refine (K2.out _ HB.out).mono ?_
    rintro e w2 ⟨rfl, hb2⟩
    have HB2 := Lib.hid (HB.out.go hb2).below
    clear hb2
    go_wp2_with (go_at_call 9; refine (HAW.out _).mono ?_; rintro e w2 ⟨rfl, hb2⟩)
    go_ret
    exact ⟨rfl, HB2.out.trans (hb2.mono HB2.out.size)⟩
  subst he
  have HE := Lib.hid hem.symm
  clear hem
  go_enter Try.func5, Try.ntmps5
  go_wp2_with fail
  refine (K1.out _).mono ?_
  rintro e w1 ⟨rfl, hb1⟩
  have HB := Lib.hid (HS.out.go hb1)
  obtain ⟨b0, b1, b2, b3, b4, b5⟩ := HB.out.box
  clear hb1 K1 HS
  go_upto_region 3 with (go_at_call 8; go_loud (
     refine (K2.out _ HB.out).mono ?_
     rintro e w2 ⟨rfl, hb2⟩
     have HB2 := Lib.hid (HB.out.go hb2)
     clear hb2 b0 b1 b2 b3 b4 b5))
  obtain ⟨b0, b1, b2, b3, b4, b5⟩ := HB2.out.box
  have KB := Lib.hid (F3C.bytes_ok (b := b) (StrsAt.below HX.out HB2.out.below (Nat.le_refl _)) (MsgsAt.below HM.out HB2.out.below (Nat.le_refl _)) HWC.out HMC.out HB2.out.below.size HE.out)
  clear K2 HB
  go_upto_region 4 with (go_at_call 10; go_loud (
     refine KB.out.mono ?_
     rintro e w3 ⟨A, n, c, rfl, hc, hx, hb3⟩
     have HB3 := Lib.hid (HB2.out.go hb3)
     have HX3 := Lib.hid hx
     clear hb3 hx b0 b1 b2 b3 b4 b5))
  have HG := Lib.hid (good_of HE.out)
  have HM3 := Lib.hid (MsgsAt.below HM.out HB3.out.below (Nat.le_refl _))
  have hw3 := HB3.out.below.size
  have hmn : mn ≤ 60 := by rw [← HM3.out.len]; exact HG.out.ml
  have HBX := Lib.hid (fun (wr : World) (hb : Below w3.heap.size w3 wr) => (HB3.out.go hb).box)
  obtain ⟨b0, b1, b2, b3, b4, b5⟩ := HBX.out w3 (Below.refl _ _)
  go_wp2_with fail
  go_loopw [5, 6, 27] (fun s5 s6 s27 wr => ∃ (T : Option Addr) (k i t : Nat) (a : Int), s5 = .slice T t k ∧ i ≤ mn ∧ s27 = .int .i64 i ∧ s6 = .int .i64 a ∧ (-1 ≤ a ∧ a ≤ 1000000) ∧ t ≤ 800 * i ∧ t ≤ k ∧ Hid (a = lst 0 ((b.msgs.take i).map Msg.uid)) ∧ Hid (BytesAt wr wr.heap.size T t (ms3 0 (b.msgs.take i))) ∧ Hid (Below w3.heap.size w3 wr)) (fun _ _ s27 _ => mn - (intOf s27).toNat)
  case atStart => exact ⟨none, 0, 0, 0, 0, rfl, Nat.zero_le _, rfl, rfl, by omega, Nat.zero_le _, Nat.le_refl _, rfl, nil_bytes _ _, Below.refl _ _⟩
  case round =>
    clear b0 b1 b2 b3 b4 b5
    obtain ⟨T, k, i, t, a, rfl, hi, rfl, rfl, ha, ht, htk, HA, HT, HW⟩ := hrel
    have hsr := HW.out.size
    by_cases hlt : i < mn
    · obtain ⟨ad, u, md, d, id, fl, ks, tx', K, kn, kc, rfl, hab, e1, m0, m1, m2, m3', m4, m5, m6, hkc, hks, y1, y2⟩ := MsgsAt.sp HM3.out HW.out (by omega) hlt
      have hmm := (HG.out.ms _ (List.mem_of_getElem? e1)).1
      obtain ⟨p1, p2, p3, p4, p5, p6, p7⟩ := mm_parts hmm
      dsimp only at p1 p4 p6 p7
      have hsn := F3C.ms3_take 0 e1
      rw [← HA.out] at hsn
      have HSN := Lib.hid hsn
      have hel : (m3 a ⟨u, md, d, id, fl, ks, tx'⟩).length ≤ 800 := F3C.m3_len hmm HG.out.wl
      obtain ⟨E, hE⟩ : ∃ E, E = (m3 a ⟨u, md, d, id, fl, ks, tx'⟩).length := ⟨_, rfl⟩
      have hkr := (OlD.keysB_rise p6).2
      have hkl := keys_len p6
      have hwl := HG.out.wl
      have hkn2 : kn ≤ 64 := by rw [← hks.len]; omega
      have hba := (Below.refl wr.heap.size wr).alloc (Nat.le_refl _) (.cells #[.int .i64 u, .int .i64 md, .int .i64 d, .string id, .int .i64 fl, .slice K kn kc, .string tx'] 39)
      have HC := Lib.hid (heap_alloc_new wr (.cells #[.int .i64 u, .int .i64 md, .int .i64 d, .string id, .int .i64 fl, .slice K kn kc, .string tx'] 39))
      have km := F3B.msg_any (cp := k) (kn := kn) (kc := kc) (u := u) (md := md) (d := d) (fl := fl) (id := id) (last := a) (HT.out.below hba (Nat.le_refl _)) (RowAt.map (B' := wr.heap.size) (BxKit.IntsAt.below hks hba (by omega)) (by omega) (fun _ _ _ h => h)) (by simp) (by omega) (fun k hk => by have := hkr k hk; omega) (by omega) ha (by have := (atB_size p4).2; omega) p7 (by omega)
      rw [← hE] at km hel
      have KM := Lib.hid km
      have HBA := Lib.hid hba
      have hu2 : -1 ≤ u ∧ u ≤ 1000000 := by omega
      clear e1 hks p1 p2 p3 p4 p5 p6 p7 hE km hsn hmm hkr hkl hkn2 hba
      go_wp2_with (go_at_call 13; go_loud (
         refine KM.out.mono ?_
         rintro e w7 ⟨v7, rfl, g7⟩
         obtain ⟨T7, k7, rfl, hk7⟩ := g7.own.slice
         have HT7 := Lib.hid (show BytesAt w7 w7.heap.size T7 (t + E) (ms3 0 (b.msgs.take (i + 1))) by rw [HSN.out.1]; exact g7.own.bytes)
         have HW7 := Lib.hid (HW.out.trans (HBA.out.mono hsr |>.trans (g7.bel.mono (by have := HBA.out.size; omega))))
         have x0 : w7.cell? { block := wr.heap.size, off := 0 } = some (.int .i64 u) := (cell_of_row w7 wr.heap.size 0 _ _ _ ((g7.bel.block wr.heap.size (by simp)).trans HC.out)).trans rfl
         clear g7 m0 m1 m2 m3' m4 m5 m6))
      go_roundw
      case rel => exact ⟨T7, k7, i + 1, t + E, u, rfl, by omega, by go_num, rfl, hu2, by omega, hk7, HSN.out.2.symm, HT7, HW7⟩
      case measure => simp [intOf]; omega
    · obtain rfl : mn = i := by omega
      have htt := HT.out
      rw [List.take_of_length_le (by rw [HM3.out.len]; exact Nat.le_refl _)] at htt
      have hx9 := HX3.out.below HW.out (Nat.le_refl _)
      have hsp : e3 b = (mk3 ++ hd3 b) ++ ms3 0 b.msgs := by unfold e3 e3R; rw [List.append_assoc]
      have hhd := F3C.hd3_len HE.out
      obtain ⟨q, hq⟩ : ∃ q, q = (mk3 ++ hd3 b).length := ⟨_, rfl⟩
      have hq4 : 3 < q := by
        rw [hq, List.length_append]
        have e : mk3.length = 3 := rfl
        omega
      have hqb : q ≤ 3000 := by
        rw [hq, List.length_append]
        have e : mk3.length = 3 := rfl
        omega
      have hnq : n = q + t := by
        have h1 := hx9.1
        rw [hsp, List.length_append, ← hq, htt.1] at h1
        exact h1.symm
      have hdr : (e3 b).drop q = ms3 0 b.msgs := by rw [hsp, hq]; exact List.drop_left' rfl
      have hq4i : (3 : Int) < (q : Int) := by omega
      have hwq : IntKind.i64.wrap ((n : Int) - (t : Int)) = (q : Int) := by rw [IntKind.wrap_i64]; omega
      have hwq2 : ((n : Int) - (t : Int)) = (q : Int) := by omega
      have gq1 : (q : Int) ≤ (n : Int) := by omega
      have gq2 : (q : Int) ≤ (c : Int) := by omega
      have gq3 : (n : Int) ≤ (c : Int) := by omega
      have gq4 : q ≤ n := by omega
      have gq5 : q ≤ c := by omega
      have gq0 : (0 : Int) ≤ (q : Int) := by omega
      have hcut := hx9.cut (k := q) (cp := c) (by omega) hc
      rw [hdr] at hcut
      obtain ⟨S, hS⟩ : ∃ S : ByteArray, S = ⟨(ms3 0 b.msgs).toArray⟩ := ⟨_, rfl⟩
      have q3 : (S.toList == S.toList) = true := by simp
      have HW9 := Lib.hid (HB3.out.below.trans (HW.out.mono HB3.out.below.size))
      have HTT := Lib.hid htt
      clear hsp hhd hq hdr htt hx9 HT hnq hwq2
      go_upto_region 13 with fail
      by_cases hcq : c = q
      · rw [if_pos hcq] at hcut
        obtain rfl := hcq
        rw [show n - c = 0 by omega] at hcut
        have HC := Lib.hid hcut
        clear hcut
        have FB := Lib.hid (fun (wq : World) (hb : Below wr.heap.size wr wq) => show (convert 30 9 (.slice A 0 0)).run Try.prog wq = .ok (.string S) wq ∧ (convert 30 9 (.slice T t k)).run Try.prog wq = .ok (.string S) wq from by
          rw [hS]
          exact ⟨(HC.out.below hb (by omega)).conv _, (HTT.out.below hb (Nat.le_refl _)).conv k⟩)
        clear hS
        have hF0 := FB.out wr.drew (Below.drew (Below.refl _ _))
        go_region_held3 (fun wq => (convert 30 9 (.slice A 0 0)).run Try.prog wq = .ok (.string S) wq ∧ (convert 30 9 (.slice T t k)).run Try.prog wq = .ok (.string S) wq) (with_reducible first | exact hF0 | exact hF1 | go_keep) (
          (go_at_call 9
           go_loud (
           refine (HAW.out _).mono ?_
           rintro e w11 ⟨rfl, hb11⟩
           have Z11 := Lib.hid (show Below wr.heap.size wr w11 from by first | exact (Below.drew (Below.refl _ _)).trans hb11 | exact (BxKit.below_drewN (Below.refl _ _) _).trans hb11)
           have hF1 := FB.out w11 Z11.out
           clear hb11
           dsimp only)))
        all_goals
          go_wp2_with fail
          go_ret
          exact ⟨rfl, HW9.out.trans (Z11.out.mono HW9.out.size)⟩
      · rw [if_neg hcq] at hcut
        have HC := Lib.hid hcut
        clear hcut
        have FB := Lib.hid (fun (wq : World) (hb : Below wr.heap.size wr wq) => show (convert 30 9 (.slice (A.map (·.add q)) (n - q) (c - q))).run Try.prog wq = .ok (.string S) wq ∧ (convert 30 9 (.slice T t k)).run Try.prog wq = .ok (.string S) wq from by
          rw [hS]
          exact ⟨(HC.out.below hb (by omega)).conv _, (HTT.out.below hb (Nat.le_refl _)).conv k⟩)
        clear hS
        have hF0 := FB.out wr.drew (Below.drew (Below.refl _ _))
        go_region_held3 (fun wq => (convert 30 9 (.slice (A.map (·.add q)) (n - q) (c - q))).run Try.prog wq = .ok (.string S) wq ∧ (convert 30 9 (.slice T t k)).run Try.prog wq = .ok (.string S) wq) (with_reducible first | exact hF0 | exact hF1 | go_keep) (
          (go_at_call 9
           go_loud (
           refine (HAW.out _).mono ?_
           rintro e w11 ⟨rfl, hb11⟩
           have Z11 := Lib.hid (show Below wr.heap.size wr w11 from by first | exact (Below.drew (Below.refl _ _)).trans hb11 | exact (BxKit.below_drewN (Below.refl _ _) _).trans hb11)
           have hF1 := FB.out w11 Z11.out
           clear hb11
           dsimp only)))
        all_goals
          go_wp2_with fail
          go_ret
          exact ⟨rfl, HW9.out.trans (Z11.out.mono HW9.out.size)⟩
end Go.Proofs.Ytdgcihgohkgecaa.F3Msgs
