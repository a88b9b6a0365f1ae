/-
  RowDone from its region 1: whether the box may be.
-/
import Derived.Test.YtchlbbndfhibgaaGreatDoorRdG
import Derived.Deep.RegionHeld3
import Derived.Deep.DeepCutAuto
set_option linter.unusedVariables false
set_option linter.unusedSimpArgs false
namespace Go.Proofs.YtchlbbndfhibgaaGreatDoor.RdP
open Go.RowKit Go.Proofs.YtchlbbndfhibgaaGreatDoor.BxD Go.Proofs.YtchlbbndfhibgaaGreatDoor.BxKit Go.Proofs.YtchlbbndfhibgaaGreatDoor.BxA Go.Proofs.YtchlbbndfhibgaaGreatDoor.BxB Go.Proofs.YtchlbbndfhibgaaGreatDoor.BxR Go.Proofs.YtchlbbndfhibgaaGreatDoor.BxH Go.Proofs.YtchlbbndfhibgaaGreatDoor.BxF Go.Proofs.YtchlbbndfhibgaaGreatDoor.BxV Go.Proofs.YtchlbbndfhibgaaGreatDoor.RwD Go.Proofs.YtchlbbndfhibgaaGreatDoor.RwM Go.Proofs.YtchlbbndfhibgaaGreatDoor.RwF Go.Proofs.YtchlbbndfhibgaaGreatDoor.RwKit Go.Proofs.YtchlbbndfhibgaaGreatDoor.RdF Go.Proofs.YtchlbbndfhibgaaGreatDoor.RdD Go.Proofs.YtchlbbndfhibgaaGreatDoor.RpD Go.Proofs.YtchlbbndfhibgaaGreatDoor.RdS

noncomputable def from1 : Code := tl (Tryz.f3.body.getD .skip)
set_option maxHeartbeats 8000000 in
set_option maxRecDepth 1000000 in
theorem part {b : Box} {u md d fl k how : Int} {id tx : ByteArray} {WA MA KA A : Option Addr} {wn wcp mn mcp kn kc n cp : Nat} {ks : List Int} {words : List ByteArray} {w : World} (ht : RwW15.Tab w) (h1 : StrsAt w w.heap.size WA wn b.words) (h2 : MsgsAt w w.heap.size MA mn b.msgs) (h3 : IntsAt w w.heap.size KA kn ks) (h4 : StrsAt w w.heap.size A n words)
    (hwc : wn ≤ wcp) (hmc : mn ≤ mcp) (hkc : kn ≤ kc) (hcp : n ≤ cp) (hn : n ≤ 8796093022208) (z1 : b.id.size ≤ 140737488355328) (z2 : id.size ≤ 140737488355328) (z3 : tx.size ≤ 140737488355328) {w0 : World} (hs : St w w0 #[.string b.id, .int .i64 b.valid, .int .i64 b.next, .int .i64 b.high, .slice WA wn wcp, .slice MA mn mcp] #[.int .i64 u, .int .i64 md, .int .i64 d, .string id, .int .i64 fl, .slice KA kn kc, .string tx]) {c10 : Value} :
    Code.wp Tryz.prog from1 (bodyPost Tryz.prog Tryz.f3 fun e w' => e = .returned (.bool true) ∧ Below w.heap.size w w') ⟨#[.agg #[.string b.id, .int .i64 b.valid, .int .i64 b.next, .int .i64 b.high, .slice WA wn wcp, .slice MA mn mcp], .agg #[.int .i64 u, .int .i64 md, .int .i64 d, .string id, .int .i64 fl, .slice KA kn kc, .string tx], .slice A n cp, .int .i64 k, .int .i64 how, .pointer (some { block := w.heap.size, off := 0 }), .pointer (some { block := w.heap.size + 1, off := 0 }), undef, undef, undef, c10, undef, undef, undef, undef, undef, undef, undef, undef, undef, undef, undef, undef, undef, undef, undef, undef, undef, undef, undef, undef, undef, undef, undef, undef, undef, undef, undef, undef, undef, undef, undef, undef, undef, undef, undef, undef, undef, undef, undef, undef, undef, undef, undef, undef, undef, undef, undef, undef, undef, undef, undef, undef, undef, undef, undef, undef, undef, undef, undef, undef, undef, undef, undef, undef, undef, undef, undef, undef, undef, undef, undef, undef, undef, undef, undef, undef, undef, undef, undef, undef, undef, undef, undef, undef, undef, undef, undef, undef, undef, undef, undef, undef, undef, undef, undef, undef, undef, undef, undef, undef, undef, undef, undef, undef, undef, undef, undef, undef, undef, undef, undef, undef, undef, undef, undef, undef, undef, undef, undef, undef, undef, undef, undef, undef, undef, undef, undef, undef, undef, undef, undef, undef, undef, undef, undef, undef, undef, undef, undef, undef, undef, undef, undef, undef, undef, undef, undef, undef, undef, undef, undef, undef, undef, undef, undef, undef, undef, undef, undef, undef, undef, undef, undef, undef, undef, undef, undef, undef, undef, undef, undef, undef, undef, undef, undef, undef, undef, undef, undef, undef, undef, undef, undef, undef, undef, undef, undef, undef, undef, undef, undef, undef, undef, undef, undef, undef, undef, undef, undef, undef, undef, undef, undef, undef, undef, undef, undef, undef, undef, undef, undef, undef, undef, undef, undef, undef, undef, undef, undef, undef, undef, undef, undef, undef, undef, undef, undef, undef, undef, undef, undef, undef, undef, undef, undef, undef, undef, undef, undef, undef, undef, undef, undef, undef, undef, undef, undef, undef, undef, undef, undef, undef, undef, undef, undef, undef, undef, undef, undef, undef, undef, undef, undef, undef, undef, undef, undef, undef, undef, undef, undef, undef, undef, undef, undef, undef, undef, undef, undef, undef, undef, undef, undef, undef, undef, undef, undef, undef, undef, undef, undef, undef, undef, undef, undef, undef, undef, undef, undef, undef, undef, undef, undef, undef, undef, undef, undef, undef, undef, undef, undef, undef, undef, undef, undef, undef, undef, undef, undef, undef, undef, undef, undef, undef, undef, undef, undef, undef, undef, undef, undef, undef, undef, undef, undef, undef, undef, undef, undef, undef], []⟩ w0 := by
  have HS := Lib.hid hs
  clear hs
  conv => arg 2; whnf
  conv => arg 4; dsimp only
  have HX := Lib.hid h1
  have HM := Lib.hid h2
  have HK := Lib.hid h3
  have HZ := Lib.hid h4
  have HT := Lib.hid ht
  have HWC := Lib.hid hwc
  have HMC := Lib.hid hmc
  have HAW := Lib.hid (fun (wr : World) (hb : Below w.heap.size w wr) => RwAw.awake (ht.below hb (Nat.le_refl _)))
  have hA := hv_or b.id b.words b.msgs
  have hC := hv_or ⟨#[]⟩ [] [(⟨u, md, d, id, fl, ks, tx⟩ : Msg)]
  obtain ⟨nA, hnA⟩ : ∃ nA, nA = hv b.id b.words b.msgs := ⟨_, rfl⟩
  obtain ⟨nC, hnC⟩ : ∃ nC, nC = hv ⟨#[]⟩ [] [(⟨u, md, d, id, fl, ks, tx⟩ : Msg)] := ⟨_, rfl⟩
  rw [← hnA] at hA
  rw [← hnC] at hC
  have hA1 : nA = 1 ∨ nA = 0 := by rcases hA with h | h; exact .inl h; exact .inr h.1
  have hC1 : nC = 1 ∨ nC = 0 := by rcases hC with h | h; exact .inl h; exact .inr h.1
  obtain ⟨em, hem⟩ : ∃ em, em = mbE b := ⟨_, rfl⟩
  have HEM := Lib.hid hem
  have HNA := Lib.hid hnA
  have HNC := Lib.hid hnC
  clear hA hC ht h1 h2 h3 h4 hwc hmc hem hnA hnC
  go_step
  go_step
  go_upto_region 1 with fail
  have CB := Lib.hid (fun (wr : World) (g : Below w0.heap.size w0 wr) => show wr.cell? { block := w.heap.size, off := 0 } = some (.string b.id) ∧ wr.cell? { block := w.heap.size, off := 1 } = some (.int .i64 b.valid) ∧ wr.cell? { block := w.heap.size, off := 2 } = some (.int .i64 b.next) ∧ wr.cell? { block := w.heap.size, off := 3 } = some (.int .i64 b.high) ∧ wr.cell? { block := w.heap.size, off := 4 } = some (.slice WA wn wcp) ∧ wr.cell? { block := w.heap.size, off := 5 } = some (.slice MA mn mcp) ∧ wr.cell? { block := w.heap.size + 1, off := 0 } = some (.int .i64 u) ∧ wr.cell? { block := w.heap.size + 1, off := 1 } = some (.int .i64 md) ∧ wr.cell? { block := w.heap.size + 1, off := 2 } = some (.int .i64 d) ∧ wr.cell? { block := w.heap.size + 1, off := 3 } = some (.string id) ∧ wr.cell? { block := w.heap.size + 1, off := 4 } = some (.int .i64 fl) ∧ wr.cell? { block := w.heap.size + 1, off := 5 } = some (.slice KA kn kc) ∧ wr.cell? { block := w.heap.size + 1, off := 6 } = some (.string tx) from by
    have s := HS.out.go g
    obtain ⟨b0, b1, b2, b3, b4, b5, _⟩ := six_at s.bb
    obtain ⟨m0, m1, m2, m3, m4, m5, m6⟩ := seven_at s.mm
    exact ⟨b0, b1, b2, b3, b4, b5, m0, m1, m2, m3, m4, m5, m6⟩)
  have K1 := Lib.hid (fun (wr : World) (g : Below w0.heap.size w0 wr) => heavy_any (bid := b.id) (bv := b.valid) (bn := b.next) (bh := b.high) (wc := wcp) (mc := mcp) (StrsAt.below HX.out (HS.out.go g).bel (Nat.le_refl _)) (MsgsAt.below HM.out (HS.out.go g).bel (Nat.le_refl _)) (HS.out.go g).bel.size (HS.out.go g).bel.size z1)
  have K2 := Lib.hid (fun (wr : World) (X : Nat) (h : wr.heap[X]? = some (.cells #[.int .i64 u, .int .i64 md, .int .i64 d, .string id, .int .i64 fl, .slice KA kn kc, .string tx] 28 (0, 0))) (g : Below w0.heap.size w0 wr) => heavy_any (bid := ⟨#[]⟩) (bv := 0) (bn := 0) (bh := 0) (wc := 0) (mc := 1) (RowAt.nil strC 1 wr wr.heap.size none) (msg_one h (IntsAt.below HK.out (HS.out.go g).bel (Nat.le_refl _)) (HS.out.go g).bel.size hkc z2 z3) (Nat.le_refl _) (Nat.le_refl _) (by decide))
  have K3 := Lib.hid (fun (wr : World) (g : Below w0.heap.size w0 wr) => few_any (cp := cp) (StrsAt.below HZ.out (HS.out.go g).bel (Nat.le_refl _)) hn)
  have K4 := Lib.hid (fun (wr : World) (g : Below w0.heap.size w0 wr) => may_box (bid := b.id) (bv := b.valid) (bn := b.next) (bh := b.high) (wc := wcp) (mc := mcp) (StrsAt.below HX.out (HS.out.go g).bel (Nat.le_refl _)) (MsgsAt.below HM.out (HS.out.go g).bel (Nat.le_refl _)) (HS.out.go g).bel.size HWC.out)
  have K5 := Lib.hid (fun (wr : World) (g : Below w0.heap.size w0 wr) => ref_may (bid := b.id) (bv := b.valid) (bn := b.next) (bh := b.high) (wc := wcp) (mc := mcp) (StrsAt.below HX.out (HS.out.go g).bel (Nat.le_refl _)) (MsgsAt.below HM.out (HS.out.go g).bel (Nat.le_refl _)) (HS.out.go g).bel.size HWC.out)
  simp only [← HNA.out] at K1
  simp only [← HNC.out] at K2
  simp only [show mbE ⟨b.id, b.valid, b.next, b.high, b.words, b.msgs⟩ = mbE b from rfl, ← HEM.out] at K4 K5
  obtain ⟨b0, b1, b2, b3, b4, b5, m0, m1, m2, m3, m4, m5, m6⟩ := CB.out w0 (Below.refl _ _)
  go_cut [47] (fun s47 wx => ∃ bb : Bool, s47 = .bool bb ∧ (bb = false → em = 0 ∧ Hid (Fw n words)) ∧ Hid (St w wx #[.string b.id, .int .i64 b.valid, .int .i64 b.next, .int .i64 b.high, .slice WA wn wcp, .slice MA mn mcp] #[.int .i64 u, .int .i64 md, .int .i64 d, .string id, .int .i64 fl, .slice KA kn kc, .string tx]))
  case first =>
    refine wp_region_noPanic ?_
    refine wp_region_held_drew (S := fun wr => wr.cell? { block := w.heap.size, off := 0 } = some (.string b.id) ∧ wr.cell? { block := w.heap.size, off := 1 } = some (.int .i64 b.valid) ∧ wr.cell? { block := w.heap.size, off := 2 } = some (.int .i64 b.next) ∧ wr.cell? { block := w.heap.size, off := 3 } = some (.int .i64 b.high) ∧ wr.cell? { block := w.heap.size, off := 4 } = some (.slice WA wn wcp) ∧ wr.cell? { block := w.heap.size, off := 5 } = some (.slice MA mn mcp) ∧ wr.cell? { block := w.heap.size + 1, off := 0 } = some (.int .i64 u) ∧ wr.cell? { block := w.heap.size + 1, off := 1 } = some (.int .i64 md) ∧ wr.cell? { block := w.heap.size + 1, off := 2 } = some (.int .i64 d) ∧ wr.cell? { block := w.heap.size + 1, off := 3 } = some (.string id) ∧ wr.cell? { block := w.heap.size + 1, off := 4 } = some (.int .i64 fl) ∧ wr.cell? { block := w.heap.size + 1, off := 5 } = some (.slice KA kn kc) ∧ wr.cell? { block := w.heap.size + 1, off := 6 } = some (.string tx)) (by kernel_rfl) ?_ (fun hHeld => ?_)
    · exact CB.out _ (Below.refl _ _).drew
    refine wpAnyH_take (i := 0) (v := ?_) rfl (by kernel_rfl) (by kernel_rfl) (by kernel_rfl) (fun _ _ _ h => h) (Or.inl ⟨by rfl, ?_⟩) hHeld ?_
    rotate_left
    · intro wq hSq; (try dsimp only at hSq); go_simp; try with_reducible rfl
    try simp only [Act.put, List.setIfInBounds_toArray, List.set_cons_zero, List.set_cons_succ, List.getElem_toArray, List.getElem_cons_zero, List.getElem_cons_succ]
    refine wpAnyH_take (i := 2) (v := ?_) rfl (by kernel_rfl) (by kernel_rfl) (by kernel_rfl) (fun _ _ _ h => h) (Or.inl ⟨by rfl, ?_⟩) hHeld ?_
    rotate_left
    · intro wq hSq; (try dsimp only at hSq); go_simp; try with_reducible rfl
    try simp only [Act.put, List.setIfInBounds_toArray, List.set_cons_zero, List.set_cons_succ, List.getElem_toArray, List.getElem_cons_zero, List.getElem_cons_succ]
    refine wpAnyH_take (i := 7) (v := ?_) rfl (by kernel_rfl) (by kernel_rfl) (by kernel_rfl) (fun _ _ _ h => h) (Or.inl ⟨by rfl, ?_⟩) hHeld ?_
    rotate_left
    · intro wq hSq; (try dsimp only at hSq); go_simp; try with_reducible rfl
    try simp only [Act.put, List.setIfInBounds_toArray, List.set_cons_zero, List.set_cons_succ, List.getElem_toArray, List.getElem_cons_zero, List.getElem_cons_succ]
    refine wpAnyH_ready (rs := [1, 3]) (by kernel_rfl) (by simp) ?_
    refine AllReadyH.cons rfl (fun K hK => ?_) (AllReadyH.cons rfl (fun K hK => ?_) AllReadyH.nil)
    · go_simp; try with_reducible rfl
      go_at_call 8
      refine (K1.out _ (by (repeat (with_reducible first | exact Below.refl _ _ | refine Below.drew ?_ | refine Below.alloc ?_ (by first | exact Nat.le_refl _ | omega | (simp; done) | (simp; omega)) _)); first | done | fail)).mono ?_
      rintro e w1 ⟨rfl, hb1⟩
      have X1 := Lib.hid (Below.trans (show Below w0.heap.size w0 _ from (by (repeat (with_reducible first | exact Below.refl _ _ | refine Below.drew ?_ | refine Below.alloc ?_ (by first | exact Nat.le_refl _ | omega | (simp; done) | (simp; omega)) _)); first | done | fail)) (hb1.mono (by first | exact Nat.le_refl _ | omega | (simp; done) | (simp; omega))))
      have hzX1 := X1.out.size
      clear hb1
      dsimp only
      refine hK.out _ _ ?_ (fun hHeld => ?_)
      · exact CB.out _ (X1.out)
      clear hK K
      try simp only [Act.put, List.setIfInBounds_toArray, List.set_cons_zero, List.set_cons_succ, List.getElem_toArray, List.getElem_cons_zero, List.getElem_cons_succ]
      refine wpAnyH_ready (rs := [3]) (by kernel_rfl) (by simp) ?_
      refine AllReadyH.cons rfl (fun K hK => ?_) AllReadyH.nil
      go_simp; try with_reducible rfl
      refine hK.out _ _ ?_ (fun hHeld => ?_)
      · exact CB.out _ ((by (repeat (with_reducible first | exact Below.refl _ _ | exact X1.out | refine Below.drew ?_ | refine Below.alloc ?_ (by first | exact Nat.le_refl _ | omega | (simp; done) | (simp; omega)) _)); first | done | fail))
      clear hK K
      try simp only [Act.put, List.setIfInBounds_toArray, List.set_cons_zero, List.set_cons_succ, List.getElem_toArray, List.getElem_cons_zero, List.getElem_cons_succ]
      refine wpAnyH_take (i := 4) (v := ?_) rfl (by kernel_rfl) (by kernel_rfl) (by kernel_rfl) (fun _ _ _ h => h) (Or.inl ⟨by rfl, ?_⟩) hHeld ?_
      rotate_left
      · intro wq hSq; (try dsimp only at hSq); go_simp; try with_reducible rfl
      try simp only [Act.put, List.setIfInBounds_toArray, List.set_cons_zero, List.set_cons_succ, List.getElem_toArray, List.getElem_cons_zero, List.getElem_cons_succ]
      refine wpAnyH_ready (rs := [5]) (by kernel_rfl) (by simp) ?_
      refine AllReadyH.cons rfl (fun K hK => ?_) AllReadyH.nil
      go_simp; try with_reducible rfl
      go_at_call 8
      refine (K2.out _ _ (by (repeat (with_reducible first | exact nw (by first | rfl | (simp; done) | (simp; omega)) | refine dr ?_ | refine od ?_)); first | done | fail) (by (repeat (with_reducible first | exact Below.refl _ _ | exact X1.out | refine Below.drew ?_ | refine Below.alloc ?_ (by first | exact Nat.le_refl _ | omega | (simp; done) | (simp; omega)) _)); first | done | fail)).mono ?_
      rintro e w2 ⟨rfl, hb2⟩
      have X2 := Lib.hid (Below.trans (show Below w0.heap.size w0 _ from (by (repeat (with_reducible first | exact Below.refl _ _ | exact X1.out | refine Below.drew ?_ | refine Below.alloc ?_ (by first | exact Nat.le_refl _ | omega | (simp; done) | (simp; omega)) _)); first | done | fail)) (hb2.mono (by first | exact Nat.le_refl _ | omega | (simp; done) | (simp; omega))))
      have hzX2 := X2.out.size
      clear hb2
      dsimp only
      refine hK.out _ _ ?_ (fun hHeld => ?_)
      · exact CB.out _ (X2.out)
      clear hK K
      try simp only [Act.put, List.setIfInBounds_toArray, List.set_cons_zero, List.set_cons_succ, List.getElem_toArray, List.getElem_cons_zero, List.getElem_cons_succ]
      refine wpAnyH_take (i := 6) (v := ?_) rfl (by kernel_rfl) (by kernel_rfl) (by kernel_rfl) (fun _ _ _ h => h) (Or.inl ⟨by rfl, ?_⟩) hHeld ?_
      rotate_left
      · intro wq hSq; (try dsimp only at hSq); go_simp; try with_reducible rfl
      try simp only [Act.put, List.setIfInBounds_toArray, List.set_cons_zero, List.set_cons_succ, List.getElem_toArray, List.getElem_cons_zero, List.getElem_cons_succ]
      refine wpAnyH_ready (rs := [8]) (by kernel_rfl) (by simp) ?_
      refine AllReadyH.cons rfl (fun K hK => ?_) AllReadyH.nil
      go_simp; try with_reducible rfl
      go_at_call 9
      refine (K3.out _ X2.out).mono ?_
      rintro e w3 ⟨r, rfl, rfl, hr⟩
      refine hK.out _ _ ?_ (fun hHeld => ?_)
      · exact CB.out _ (X2.out)
      clear hK K
      try simp only [Act.put, List.setIfInBounds_toArray, List.set_cons_zero, List.set_cons_succ, List.getElem_toArray, List.getElem_cons_zero, List.getElem_cons_succ]
      refine wpAnyH_take (i := 9) (v := ?_) rfl (by kernel_rfl) (by kernel_rfl) (by kernel_rfl) (fun _ _ _ h => h) (Or.inl ⟨by rfl, ?_⟩) hHeld ?_
      rotate_left
      · intro wq hSq; (try dsimp only at hSq); go_simp; try with_reducible rfl
      try simp only [Act.put, List.setIfInBounds_toArray, List.set_cons_zero, List.set_cons_succ, List.getElem_toArray, List.getElem_cons_zero, List.getElem_cons_succ]
      first | generalize hs2 : IntKind.i64.wrap (IntKind.i64.wrap (nA + nC) + r) = s2 | generalize hs2 : wrap64 (wrap64 (nA + nC) + r) = s2
      have HS2 := Lib.hid (show IntKind.i64.wrap (IntKind.i64.wrap (nA + nC) + r) = s2 from hs2)
      clear hs2
      refine wpAnyH_take (i := 10) (v := ?_) rfl (by kernel_rfl) (by kernel_rfl) (by kernel_rfl) (fun _ _ _ h => h) (Or.inl ⟨by rfl, ?_⟩) hHeld ?_
      rotate_left
      · intro wq hSq; (try dsimp only at hSq); go_simp; try with_reducible rfl
      try simp only [Act.put, List.setIfInBounds_toArray, List.set_cons_zero, List.set_cons_succ, List.getElem_toArray, List.getElem_cons_zero, List.getElem_cons_succ]
      refine wpAnyH_take (i := 11) (v := ?_) rfl (by kernel_rfl) (by kernel_rfl) (by kernel_rfl) (fun _ _ _ h => h) (Or.inl ⟨by rfl, ?_⟩) hHeld ?_
      rotate_left
      · intro wq hSq; (try dsimp only at hSq); go_simp; try with_reducible rfl
      try simp only [Act.put, List.setIfInBounds_toArray, List.set_cons_zero, List.set_cons_succ, List.getElem_toArray, List.getElem_cons_zero, List.getElem_cons_succ]
      by_cases hp : 0 < s2
      · have hp' : decide (0 < s2) = true := decide_eq_true hp
        try simp only [hp']
        refine wpAnyH_take (i := 12) (v := undef) rfl (by kernel_rfl) (by kernel_rfl) (by kernel_rfl) (fun _ _ _ h => h) (Or.inr ⟨by rfl, rfl⟩) hHeld ?_
        try simp only [Act.put, List.setIfInBounds_toArray, List.set_cons_zero, List.set_cons_succ, List.getElem_toArray, List.getElem_cons_zero, List.getElem_cons_succ]
        refine wpAnyH_take (i := 13) (v := undef) rfl (by kernel_rfl) (by kernel_rfl) (by kernel_rfl) (fun _ _ _ h => h) (Or.inr ⟨by rfl, rfl⟩) hHeld ?_
        try simp only [Act.put, List.setIfInBounds_toArray, List.set_cons_zero, List.set_cons_succ, List.getElem_toArray, List.getElem_cons_zero, List.getElem_cons_succ]
        refine wpAnyH_take (i := 14) (v := undef) rfl (by kernel_rfl) (by kernel_rfl) (by kernel_rfl) (fun _ _ _ h => h) (Or.inr ⟨by rfl, rfl⟩) hHeld ?_
        try simp only [Act.put, List.setIfInBounds_toArray, List.set_cons_zero, List.set_cons_succ, List.getElem_toArray, List.getElem_cons_zero, List.getElem_cons_succ]
        refine wpAnyH_take (i := 15) (v := ?_) rfl (by kernel_rfl) (by kernel_rfl) (by kernel_rfl) (fun _ _ _ h => h) (Or.inl ⟨by rfl, ?_⟩) hHeld ?_
        rotate_left
        · intro wq hSq; (try dsimp only at hSq); go_simp; try with_reducible rfl
        try simp only [Act.put, List.setIfInBounds_toArray, List.set_cons_zero, List.set_cons_succ, List.getElem_toArray, List.getElem_cons_zero, List.getElem_cons_succ]
        refine wpAnyH_take (i := 16) (v := ?_) rfl (by kernel_rfl) (by kernel_rfl) (by kernel_rfl) (fun _ _ _ h => h) (Or.inl ⟨by rfl, ?_⟩) hHeld ?_
        rotate_left
        · intro wq hSq; (try dsimp only at hSq); go_simp; try with_reducible rfl
        try simp only [Act.put, List.setIfInBounds_toArray, List.set_cons_zero, List.set_cons_succ, List.getElem_toArray, List.getElem_cons_zero, List.getElem_cons_succ]
        refine wpAnyH_take (i := 17) (v := undef) rfl (by kernel_rfl) (by kernel_rfl) (by kernel_rfl) (fun _ _ _ h => h) (Or.inr ⟨by rfl, rfl⟩) hHeld ?_
        try simp only [Act.put, List.setIfInBounds_toArray, List.set_cons_zero, List.set_cons_succ, List.getElem_toArray, List.getElem_cons_zero, List.getElem_cons_succ]
        refine wpAnyH_take (i := 18) (v := undef) rfl (by kernel_rfl) (by kernel_rfl) (by kernel_rfl) (fun _ _ _ h => h) (Or.inr ⟨by rfl, rfl⟩) hHeld ?_
        try simp only [Act.put, List.setIfInBounds_toArray, List.set_cons_zero, List.set_cons_succ, List.getElem_toArray, List.getElem_cons_zero, List.getElem_cons_succ]
        refine wpAnyH_take (i := 19) (v := undef) rfl (by kernel_rfl) (by kernel_rfl) (by kernel_rfl) (fun _ _ _ h => h) (Or.inr ⟨by rfl, rfl⟩) hHeld ?_
        try simp only [Act.put, List.setIfInBounds_toArray, List.set_cons_zero, List.set_cons_succ, List.getElem_toArray, List.getElem_cons_zero, List.getElem_cons_succ]
        refine wpAnyH_take (i := 20) (v := ?_) rfl (by kernel_rfl) (by kernel_rfl) (by kernel_rfl) (fun _ _ _ h => h) (Or.inl ⟨by rfl, ?_⟩) hHeld ?_
        rotate_left
        · intro wq hSq; (try dsimp only at hSq); go_simp; try with_reducible rfl
        try simp only [Act.put, List.setIfInBounds_toArray, List.set_cons_zero, List.set_cons_succ, List.getElem_toArray, List.getElem_cons_zero, List.getElem_cons_succ]
        refine wpAnyH_done (by kernel_rfl) ?_ _
        refine NoPanic.normal ?_
        go_wp2_with fail
        go_meet
        exact ⟨true, rfl, (fun h => by cases h), HS.out.go X2.out⟩
      · have hp' : decide (0 < s2) = false := decide_eq_false hp
        try simp only [hp']
        have HFW := Lib.hid (show Fw n words from hr.resolve_right (fun h => hp (by rw [← HS2.out, show IntKind.i64.wrap (nA + nC) = nA + nC from IntWalk.i64_in _ (by omega), IntWalk.i64_in _ (by omega)]; omega)))
        refine wpAnyH_take (i := 12) (v := ?_) rfl (by kernel_rfl) (by kernel_rfl) (by kernel_rfl) (fun _ _ _ h => h) (Or.inl ⟨by rfl, ?_⟩) hHeld ?_
        rotate_left
        · intro wq hSq; (try dsimp only at hSq); go_simp; try with_reducible rfl
        try simp only [Act.put, List.setIfInBounds_toArray, List.set_cons_zero, List.set_cons_succ, List.getElem_toArray, List.getElem_cons_zero, List.getElem_cons_succ]
        refine wpAnyH_ready (rs := [13]) (by kernel_rfl) (by simp) ?_
        refine AllReadyH.cons rfl (fun K hK => ?_) AllReadyH.nil
        go_simp; try with_reducible rfl
        go_at_call 10
        refine (K4.out _ (by (repeat (with_reducible first | exact Below.refl _ _ | exact X2.out | refine Below.drew ?_ | refine Below.alloc ?_ (by first | exact Nat.le_refl _ | omega | (simp; done) | (simp; omega)) _)); first | done | fail)).mono ?_
        rintro e w4 ⟨rfl, hb4⟩
        have X4 := Lib.hid (Below.trans (show Below w0.heap.size w0 _ from (by (repeat (with_reducible first | exact Below.refl _ _ | exact X2.out | refine Below.drew ?_ | refine Below.alloc ?_ (by first | exact Nat.le_refl _ | omega | (simp; done) | (simp; omega)) _)); first | done | fail)) (hb4.mono (by first | exact Nat.le_refl _ | omega | (simp; done) | (simp; omega))))
        have hzX4 := X4.out.size
        clear hb4
        dsimp only
        refine hK.out _ _ ?_ (fun hHeld => ?_)
        · exact CB.out _ (X4.out)
        clear hK K
        try simp only [Act.put, List.setIfInBounds_toArray, List.set_cons_zero, List.set_cons_succ, List.getElem_toArray, List.getElem_cons_zero, List.getElem_cons_succ]
        by_cases he : em = 0
        · subst he
          refine wpAnyH_take (i := 14) (v := ?_) rfl (by kernel_rfl) (by kernel_rfl) (by kernel_rfl) (fun _ _ _ h => h) (Or.inl ⟨by rfl, ?_⟩) hHeld ?_
          rotate_left
          · intro wq hSq; (try dsimp only at hSq); go_simp; try with_reducible rfl
          try simp only [Act.put, List.setIfInBounds_toArray, List.set_cons_zero, List.set_cons_succ, List.getElem_toArray, List.getElem_cons_zero, List.getElem_cons_succ]
          refine wpAnyH_take (i := 15) (v := ?_) rfl (by kernel_rfl) (by kernel_rfl) (by kernel_rfl) (fun _ _ _ h => h) (Or.inl ⟨by rfl, ?_⟩) hHeld ?_
          rotate_left
          · intro wq hSq; (try dsimp only at hSq); go_simp; try with_reducible rfl
          try simp only [Act.put, List.setIfInBounds_toArray, List.set_cons_zero, List.set_cons_succ, List.getElem_toArray, List.getElem_cons_zero, List.getElem_cons_succ]
          refine wpAnyH_take (i := 16) (v := ?_) rfl (by kernel_rfl) (by kernel_rfl) (by kernel_rfl) (fun _ _ _ h => h) (Or.inl ⟨by rfl, ?_⟩) hHeld ?_
          rotate_left
          · intro wq hSq; (try dsimp only at hSq); go_simp; try with_reducible rfl
          try simp only [Act.put, List.setIfInBounds_toArray, List.set_cons_zero, List.set_cons_succ, List.getElem_toArray, List.getElem_cons_zero, List.getElem_cons_succ]
          refine wpAnyH_take (i := 17) (v := ?_) rfl (by kernel_rfl) (by kernel_rfl) (by kernel_rfl) (fun _ _ _ h => h) (Or.inl ⟨by rfl, ?_⟩) hHeld ?_
          rotate_left
          · intro wq hSq; (try dsimp only at hSq); go_simp; try with_reducible rfl
          try simp only [Act.put, List.setIfInBounds_toArray, List.set_cons_zero, List.set_cons_succ, List.getElem_toArray, List.getElem_cons_zero, List.getElem_cons_succ]
          refine wpAnyH_ready (rs := [18]) (by kernel_rfl) (by simp) ?_
          refine AllReadyH.cons rfl (fun K hK => ?_) AllReadyH.nil
          go_simp; try with_reducible rfl
          go_at_call 11
          refine (K5.out _ (by (repeat (with_reducible first | exact Below.refl _ _ | exact X4.out | refine Below.drew ?_ | refine Below.alloc ?_ (by first | exact Nat.le_refl _ | omega | (simp; done) | (simp; omega)) _)); first | done | fail)).mono ?_
          rintro e w5 ⟨rfl, hb5⟩
          have X5 := Lib.hid (Below.trans (show Below w0.heap.size w0 _ from (by (repeat (with_reducible first | exact Below.refl _ _ | exact X4.out | refine Below.drew ?_ | refine Below.alloc ?_ (by first | exact Nat.le_refl _ | omega | (simp; done) | (simp; omega)) _)); first | done | fail)) (hb5.mono (by first | exact Nat.le_refl _ | omega | (simp; done) | (simp; omega))))
          have hzX5 := X5.out.size
          clear hb5
          dsimp only
          refine hK.out _ _ ?_ (fun hHeld => ?_)
          · exact CB.out _ (X5.out)
          clear hK K
          try simp only [Act.put, List.setIfInBounds_toArray, List.set_cons_zero, List.set_cons_succ, List.getElem_toArray, List.getElem_cons_zero, List.getElem_cons_succ]
          refine wpAnyH_take (i := 19) (v := ?_) rfl (by kernel_rfl) (by kernel_rfl) (by kernel_rfl) (fun _ _ _ h => h) (Or.inl ⟨by rfl, ?_⟩) hHeld ?_
          rotate_left
          · intro wq hSq; (try dsimp only at hSq); go_simp; try with_reducible rfl
          try simp only [Act.put, List.setIfInBounds_toArray, List.set_cons_zero, List.set_cons_succ, List.getElem_toArray, List.getElem_cons_zero, List.getElem_cons_succ]
          refine wpAnyH_take (i := 20) (v := ?_) rfl (by kernel_rfl) (by kernel_rfl) (by kernel_rfl) (fun _ _ _ h => h) (Or.inl ⟨by rfl, ?_⟩) hHeld ?_
          rotate_left
          · intro wq hSq; (try dsimp only at hSq); go_simp; try with_reducible rfl
          try simp only [Act.put, List.setIfInBounds_toArray, List.set_cons_zero, List.set_cons_succ, List.getElem_toArray, List.getElem_cons_zero, List.getElem_cons_succ]
          refine wpAnyH_done (by kernel_rfl) ?_ _
          refine NoPanic.normal ?_
          go_wp2_with fail
          go_meet
          exact ⟨false, rfl, fun _ => ⟨rfl, HFW⟩, HS.out.go X5.out⟩
        · have hne : (em != 0) = true := by simpa using he
          refine wpAnyH_take (i := 14) (v := ?_) rfl (by kernel_rfl) (by kernel_rfl) (by kernel_rfl) (fun _ _ _ h => h) (Or.inl ⟨by rfl, ?_⟩) hHeld ?_
          rotate_left
          · intro wq hSq; (try dsimp only at hSq); go_simp; try with_reducible rfl
          try simp only [Act.put, List.setIfInBounds_toArray, List.set_cons_zero, List.set_cons_succ, List.getElem_toArray, List.getElem_cons_zero, List.getElem_cons_succ]
          refine wpAnyH_take (i := 15) (v := ?_) rfl (by kernel_rfl) (by kernel_rfl) (by kernel_rfl) (fun _ _ _ h => h) (Or.inl ⟨by rfl, ?_⟩) hHeld ?_
          rotate_left
          · intro wq hSq; (try dsimp only at hSq); go_simp; try with_reducible rfl
          try simp only [Act.put, List.setIfInBounds_toArray, List.set_cons_zero, List.set_cons_succ, List.getElem_toArray, List.getElem_cons_zero, List.getElem_cons_succ]
          refine wpAnyH_take (i := 16) (v := ?_) rfl (by kernel_rfl) (by kernel_rfl) (by kernel_rfl) (fun _ _ _ h => h) (Or.inl ⟨by rfl, ?_⟩) hHeld ?_
          rotate_left
          · intro wq hSq; (try dsimp only at hSq); go_simp; try with_reducible rfl
          try simp only [Act.put, List.setIfInBounds_toArray, List.set_cons_zero, List.set_cons_succ, List.getElem_toArray, List.getElem_cons_zero, List.getElem_cons_succ]
          refine wpAnyH_take (i := 17) (v := undef) rfl (by kernel_rfl) (by kernel_rfl) (by kernel_rfl) (fun _ _ _ h => h) (Or.inr ⟨by rfl, rfl⟩) hHeld ?_
          try simp only [Act.put, List.setIfInBounds_toArray, List.set_cons_zero, List.set_cons_succ, List.getElem_toArray, List.getElem_cons_zero, List.getElem_cons_succ]
          refine wpAnyH_take (i := 18) (v := undef) rfl (by kernel_rfl) (by kernel_rfl) (by kernel_rfl) (fun _ _ _ h => h) (Or.inr ⟨by rfl, rfl⟩) hHeld ?_
          try simp only [Act.put, List.setIfInBounds_toArray, List.set_cons_zero, List.set_cons_succ, List.getElem_toArray, List.getElem_cons_zero, List.getElem_cons_succ]
          refine wpAnyH_take (i := 19) (v := undef) rfl (by kernel_rfl) (by kernel_rfl) (by kernel_rfl) (fun _ _ _ h => h) (Or.inr ⟨by rfl, rfl⟩) hHeld ?_
          try simp only [Act.put, List.setIfInBounds_toArray, List.set_cons_zero, List.set_cons_succ, List.getElem_toArray, List.getElem_cons_zero, List.getElem_cons_succ]
          refine wpAnyH_take (i := 20) (v := ?_) rfl (by kernel_rfl) (by kernel_rfl) (by kernel_rfl) (fun _ _ _ h => h) (Or.inl ⟨by rfl, ?_⟩) hHeld ?_
          rotate_left
          · intro wq hSq; (try dsimp only at hSq); go_simp; try with_reducible rfl
          try simp only [Act.put, List.setIfInBounds_toArray, List.set_cons_zero, List.set_cons_succ, List.getElem_toArray, List.getElem_cons_zero, List.getElem_cons_succ]
          refine wpAnyH_done (by kernel_rfl) ?_ _
          refine NoPanic.normal ?_
          go_wp2_with fail
          go_meet
          exact ⟨true, rfl, (fun h => by cases h), HS.out.go X4.out⟩
    · go_simp; try with_reducible rfl
      refine hK.out _ _ ?_ (fun hHeld => ?_)
      · exact CB.out _ ((by (repeat (with_reducible first | exact Below.refl _ _ | refine Below.drew ?_ | refine Below.alloc ?_ (by first | exact Nat.le_refl _ | omega | (simp; done) | (simp; omega)) _)); first | done | fail))
      clear hK K
      try simp only [Act.put, List.setIfInBounds_toArray, List.set_cons_zero, List.set_cons_succ, List.getElem_toArray, List.getElem_cons_zero, List.getElem_cons_succ]
      refine wpAnyH_take (i := 4) (v := ?_) rfl (by kernel_rfl) (by kernel_rfl) (by kernel_rfl) (fun _ _ _ h => h) (Or.inl ⟨by rfl, ?_⟩) hHeld ?_
      rotate_left
      · intro wq hSq; (try dsimp only at hSq); go_simp; try with_reducible rfl
      try simp only [Act.put, List.setIfInBounds_toArray, List.set_cons_zero, List.set_cons_succ, List.getElem_toArray, List.getElem_cons_zero, List.getElem_cons_succ]
      refine wpAnyH_ready (rs := [1]) (by kernel_rfl) (by simp) ?_
      refine AllReadyH.cons rfl (fun K hK => ?_) AllReadyH.nil
      go_simp; try with_reducible rfl
      go_at_call 8
      refine (K1.out _ (by (repeat (with_reducible first | exact Below.refl _ _ | refine Below.drew ?_ | refine Below.alloc ?_ (by first | exact Nat.le_refl _ | omega | (simp; done) | (simp; omega)) _)); first | done | fail)).mono ?_
      rintro e w1 ⟨rfl, hb1⟩
      have hsz := hb1.size
      have HM1 := Lib.hid (show w1.heap[w0.heap.size]? = some (.cells #[.int .i64 u, .int .i64 md, .int .i64 d, .string id, .int .i64 fl, .slice KA kn kc, .string tx] 28 (0, 0)) from (hb1.block w0.heap.size (by first | (simp; done) | (simp; omega))).trans (by (repeat (with_reducible first | exact nw (by first | rfl | (simp; done) | (simp; omega)) | refine dr ?_ | refine od ?_)); first | done | fail))
      have X1 := Lib.hid (Below.trans (show Below w0.heap.size w0 _ from (by (repeat (with_reducible first | exact Below.refl _ _ | refine Below.drew ?_ | refine Below.alloc ?_ (by first | exact Nat.le_refl _ | omega | (simp; done) | (simp; omega)) _)); first | done | fail)) (hb1.mono (by first | exact Nat.le_refl _ | omega | (simp; done) | (simp; omega))))
      have hzX1 := X1.out.size
      clear hb1
      dsimp only
      refine hK.out _ _ ?_ (fun hHeld => ?_)
      · exact CB.out _ (X1.out)
      clear hK K
      try simp only [Act.put, List.setIfInBounds_toArray, List.set_cons_zero, List.set_cons_succ, List.getElem_toArray, List.getElem_cons_zero, List.getElem_cons_succ]
      refine wpAnyH_ready (rs := [5]) (by kernel_rfl) (by simp) ?_
      refine AllReadyH.cons rfl (fun K hK => ?_) AllReadyH.nil
      go_simp; try with_reducible rfl
      go_at_call 8
      refine (K2.out _ _ (by (repeat (with_reducible first | exact HM1.out | exact nw (by first | rfl | (simp; done) | (simp; omega)) | refine dr ?_ | refine od ?_)); first | done | fail) (by (repeat (with_reducible first | exact Below.refl _ _ | exact X1.out | refine Below.drew ?_ | refine Below.alloc ?_ (by first | exact Nat.le_refl _ | omega | (simp; done) | (simp; omega)) _)); first | done | fail)).mono ?_
      rintro e w2 ⟨rfl, hb2⟩
      have X2 := Lib.hid (Below.trans (show Below w0.heap.size w0 _ from (by (repeat (with_reducible first | exact Below.refl _ _ | exact X1.out | refine Below.drew ?_ | refine Below.alloc ?_ (by first | exact Nat.le_refl _ | omega | (simp; done) | (simp; omega)) _)); first | done | fail)) (hb2.mono (by first | exact Nat.le_refl _ | omega | (simp; done) | (simp; omega))))
      have hzX2 := X2.out.size
      clear hb2
      dsimp only
      refine hK.out _ _ ?_ (fun hHeld => ?_)
      · exact CB.out _ (X2.out)
      clear hK K
      try simp only [Act.put, List.setIfInBounds_toArray, List.set_cons_zero, List.set_cons_succ, List.getElem_toArray, List.getElem_cons_zero, List.getElem_cons_succ]
      refine wpAnyH_take (i := 6) (v := ?_) rfl (by kernel_rfl) (by kernel_rfl) (by kernel_rfl) (fun _ _ _ h => h) (Or.inl ⟨by rfl, ?_⟩) hHeld ?_
      rotate_left
      · intro wq hSq; (try dsimp only at hSq); go_simp; try with_reducible rfl
      try simp only [Act.put, List.setIfInBounds_toArray, List.set_cons_zero, List.set_cons_succ, List.getElem_toArray, List.getElem_cons_zero, List.getElem_cons_succ]
      refine wpAnyH_ready (rs := [8]) (by kernel_rfl) (by simp) ?_
      refine AllReadyH.cons rfl (fun K hK => ?_) AllReadyH.nil
      go_simp; try with_reducible rfl
      go_at_call 9
      refine (K3.out _ X2.out).mono ?_
      rintro e w3 ⟨r, rfl, rfl, hr⟩
      refine hK.out _ _ ?_ (fun hHeld => ?_)
      · exact CB.out _ (X2.out)
      clear hK K
      try simp only [Act.put, List.setIfInBounds_toArray, List.set_cons_zero, List.set_cons_succ, List.getElem_toArray, List.getElem_cons_zero, List.getElem_cons_succ]
      refine wpAnyH_take (i := 9) (v := ?_) rfl (by kernel_rfl) (by kernel_rfl) (by kernel_rfl) (fun _ _ _ h => h) (Or.inl ⟨by rfl, ?_⟩) hHeld ?_
      rotate_left
      · intro wq hSq; (try dsimp only at hSq); go_simp; try with_reducible rfl
      try simp only [Act.put, List.setIfInBounds_toArray, List.set_cons_zero, List.set_cons_succ, List.getElem_toArray, List.getElem_cons_zero, List.getElem_cons_succ]
      first | generalize hs2 : IntKind.i64.wrap (IntKind.i64.wrap (nA + nC) + r) = s2 | generalize hs2 : wrap64 (wrap64 (nA + nC) + r) = s2
      have HS2 := Lib.hid (show IntKind.i64.wrap (IntKind.i64.wrap (nA + nC) + r) = s2 from hs2)
      clear hs2
      refine wpAnyH_take (i := 10) (v := ?_) rfl (by kernel_rfl) (by kernel_rfl) (by kernel_rfl) (fun _ _ _ h => h) (Or.inl ⟨by rfl, ?_⟩) hHeld ?_
      rotate_left
      · intro wq hSq; (try dsimp only at hSq); go_simp; try with_reducible rfl
      try simp only [Act.put, List.setIfInBounds_toArray, List.set_cons_zero, List.set_cons_succ, List.getElem_toArray, List.getElem_cons_zero, List.getElem_cons_succ]
      refine wpAnyH_take (i := 11) (v := ?_) rfl (by kernel_rfl) (by kernel_rfl) (by kernel_rfl) (fun _ _ _ h => h) (Or.inl ⟨by rfl, ?_⟩) hHeld ?_
      rotate_left
      · intro wq hSq; (try dsimp only at hSq); go_simp; try with_reducible rfl
      try simp only [Act.put, List.setIfInBounds_toArray, List.set_cons_zero, List.set_cons_succ, List.getElem_toArray, List.getElem_cons_zero, List.getElem_cons_succ]
      by_cases hp : 0 < s2
      · have hp' : decide (0 < s2) = true := decide_eq_true hp
        try simp only [hp']
        refine wpAnyH_take (i := 12) (v := undef) rfl (by kernel_rfl) (by kernel_rfl) (by kernel_rfl) (fun _ _ _ h => h) (Or.inr ⟨by rfl, rfl⟩) hHeld ?_
        try simp only [Act.put, List.setIfInBounds_toArray, List.set_cons_zero, List.set_cons_succ, List.getElem_toArray, List.getElem_cons_zero, List.getElem_cons_succ]
        refine wpAnyH_take (i := 13) (v := undef) rfl (by kernel_rfl) (by kernel_rfl) (by kernel_rfl) (fun _ _ _ h => h) (Or.inr ⟨by rfl, rfl⟩) hHeld ?_
        try simp only [Act.put, List.setIfInBounds_toArray, List.set_cons_zero, List.set_cons_succ, List.getElem_toArray, List.getElem_cons_zero, List.getElem_cons_succ]
        refine wpAnyH_take (i := 14) (v := undef) rfl (by kernel_rfl) (by kernel_rfl) (by kernel_rfl) (fun _ _ _ h => h) (Or.inr ⟨by rfl, rfl⟩) hHeld ?_
        try simp only [Act.put, List.setIfInBounds_toArray, List.set_cons_zero, List.set_cons_succ, List.getElem_toArray, List.getElem_cons_zero, List.getElem_cons_succ]
        refine wpAnyH_take (i := 15) (v := ?_) rfl (by kernel_rfl) (by kernel_rfl) (by kernel_rfl) (fun _ _ _ h => h) (Or.inl ⟨by rfl, ?_⟩) hHeld ?_
        rotate_left
        · intro wq hSq; (try dsimp only at hSq); go_simp; try with_reducible rfl
        try simp only [Act.put, List.setIfInBounds_toArray, List.set_cons_zero, List.set_cons_succ, List.getElem_toArray, List.getElem_cons_zero, List.getElem_cons_succ]
        refine wpAnyH_take (i := 16) (v := ?_) rfl (by kernel_rfl) (by kernel_rfl) (by kernel_rfl) (fun _ _ _ h => h) (Or.inl ⟨by rfl, ?_⟩) hHeld ?_
        rotate_left
        · intro wq hSq; (try dsimp only at hSq); go_simp; try with_reducible rfl
        try simp only [Act.put, List.setIfInBounds_toArray, List.set_cons_zero, List.set_cons_succ, List.getElem_toArray, List.getElem_cons_zero, List.getElem_cons_succ]
        refine wpAnyH_take (i := 17) (v := undef) rfl (by kernel_rfl) (by kernel_rfl) (by kernel_rfl) (fun _ _ _ h => h) (Or.inr ⟨by rfl, rfl⟩) hHeld ?_
        try simp only [Act.put, List.setIfInBounds_toArray, List.set_cons_zero, List.set_cons_succ, List.getElem_toArray, List.getElem_cons_zero, List.getElem_cons_succ]
        refine wpAnyH_take (i := 18) (v := undef) rfl (by kernel_rfl) (by kernel_rfl) (by kernel_rfl) (fun _ _ _ h => h) (Or.inr ⟨by rfl, rfl⟩) hHeld ?_
        try simp only [Act.put, List.setIfInBounds_toArray, List.set_cons_zero, List.set_cons_succ, List.getElem_toArray, List.getElem_cons_zero, List.getElem_cons_succ]
        refine wpAnyH_take (i := 19) (v := undef) rfl (by kernel_rfl) (by kernel_rfl) (by kernel_rfl) (fun _ _ _ h => h) (Or.inr ⟨by rfl, rfl⟩) hHeld ?_
        try simp only [Act.put, List.setIfInBounds_toArray, List.set_cons_zero, List.set_cons_succ, List.getElem_toArray, List.getElem_cons_zero, List.getElem_cons_succ]
        refine wpAnyH_take (i := 20) (v := ?_) rfl (by kernel_rfl) (by kernel_rfl) (by kernel_rfl) (fun _ _ _ h => h) (Or.inl ⟨by rfl, ?_⟩) hHeld ?_
        rotate_left
        · intro wq hSq; (try dsimp only at hSq); go_simp; try with_reducible rfl
        try simp only [Act.put, List.setIfInBounds_toArray, List.set_cons_zero, List.set_cons_succ, List.getElem_toArray, List.getElem_cons_zero, List.getElem_cons_succ]
        refine wpAnyH_done (by kernel_rfl) ?_ _
        refine NoPanic.normal ?_
        go_wp2_with fail
        go_meet
        exact ⟨true, rfl, (fun h => by cases h), HS.out.go X2.out⟩
      · have hp' : decide (0 < s2) = false := decide_eq_false hp
        try simp only [hp']
        have HFW := Lib.hid (show Fw n words from hr.resolve_right (fun h => hp (by rw [← HS2.out, show IntKind.i64.wrap (nA + nC) = nA + nC from IntWalk.i64_in _ (by omega), IntWalk.i64_in _ (by omega)]; omega)))
        refine wpAnyH_take (i := 12) (v := ?_) rfl (by kernel_rfl) (by kernel_rfl) (by kernel_rfl) (fun _ _ _ h => h) (Or.inl ⟨by rfl, ?_⟩) hHeld ?_
        rotate_left
        · intro wq hSq; (try dsimp only at hSq); go_simp; try with_reducible rfl
        try simp only [Act.put, List.setIfInBounds_toArray, List.set_cons_zero, List.set_cons_succ, List.getElem_toArray, List.getElem_cons_zero, List.getElem_cons_succ]
        refine wpAnyH_ready (rs := [13]) (by kernel_rfl) (by simp) ?_
        refine AllReadyH.cons rfl (fun K hK => ?_) AllReadyH.nil
        go_simp; try with_reducible rfl
        go_at_call 10
        refine (K4.out _ (by (repeat (with_reducible first | exact Below.refl _ _ | exact X2.out | refine Below.drew ?_ | refine Below.alloc ?_ (by first | exact Nat.le_refl _ | omega | (simp; done) | (simp; omega)) _)); first | done | fail)).mono ?_
        rintro e w4 ⟨rfl, hb4⟩
        have X4 := Lib.hid (Below.trans (show Below w0.heap.size w0 _ from (by (repeat (with_reducible first | exact Below.refl _ _ | exact X2.out | refine Below.drew ?_ | refine Below.alloc ?_ (by first | exact Nat.le_refl _ | omega | (simp; done) | (simp; omega)) _)); first | done | fail)) (hb4.mono (by first | exact Nat.le_refl _ | omega | (simp; done) | (simp; omega))))
        have hzX4 := X4.out.size
        clear hb4
        dsimp only
        refine hK.out _ _ ?_ (fun hHeld => ?_)
        · exact CB.out _ (X4.out)
        clear hK K
        try simp only [Act.put, List.setIfInBounds_toArray, List.set_cons_zero, List.set_cons_succ, List.getElem_toArray, List.getElem_cons_zero, List.getElem_cons_succ]
        by_cases he : em = 0
        · subst he
          refine wpAnyH_take (i := 14) (v := ?_) rfl (by kernel_rfl) (by kernel_rfl) (by kernel_rfl) (fun _ _ _ h => h) (Or.inl ⟨by rfl, ?_⟩) hHeld ?_
          rotate_left
          · intro wq hSq; (try dsimp only at hSq); go_simp; try with_reducible rfl
          try simp only [Act.put, List.setIfInBounds_toArray, List.set_cons_zero, List.set_cons_succ, List.getElem_toArray, List.getElem_cons_zero, List.getElem_cons_succ]
          refine wpAnyH_take (i := 15) (v := ?_) rfl (by kernel_rfl) (by kernel_rfl) (by kernel_rfl) (fun _ _ _ h => h) (Or.inl ⟨by rfl, ?_⟩) hHeld ?_
          rotate_left
          · intro wq hSq; (try dsimp only at hSq); go_simp; try with_reducible rfl
          try simp only [Act.put, List.setIfInBounds_toArray, List.set_cons_zero, List.set_cons_succ, List.getElem_toArray, List.getElem_cons_zero, List.getElem_cons_succ]
          refine wpAnyH_take (i := 16) (v := ?_) rfl (by kernel_rfl) (by kernel_rfl) (by kernel_rfl) (fun _ _ _ h => h) (Or.inl ⟨by rfl, ?_⟩) hHeld ?_
          rotate_left
          · intro wq hSq; (try dsimp only at hSq); go_simp; try with_reducible rfl
          try simp only [Act.put, List.setIfInBounds_toArray, List.set_cons_zero, List.set_cons_succ, List.getElem_toArray, List.getElem_cons_zero, List.getElem_cons_succ]
          refine wpAnyH_take (i := 17) (v := ?_) rfl (by kernel_rfl) (by kernel_rfl) (by kernel_rfl) (fun _ _ _ h => h) (Or.inl ⟨by rfl, ?_⟩) hHeld ?_
          rotate_left
          · intro wq hSq; (try dsimp only at hSq); go_simp; try with_reducible rfl
          try simp only [Act.put, List.setIfInBounds_toArray, List.set_cons_zero, List.set_cons_succ, List.getElem_toArray, List.getElem_cons_zero, List.getElem_cons_succ]
          refine wpAnyH_ready (rs := [18]) (by kernel_rfl) (by simp) ?_
          refine AllReadyH.cons rfl (fun K hK => ?_) AllReadyH.nil
          go_simp; try with_reducible rfl
          go_at_call 11
          refine (K5.out _ (by (repeat (with_reducible first | exact Below.refl _ _ | exact X4.out | refine Below.drew ?_ | refine Below.alloc ?_ (by first | exact Nat.le_refl _ | omega | (simp; done) | (simp; omega)) _)); first | done | fail)).mono ?_
          rintro e w5 ⟨rfl, hb5⟩
          have X5 := Lib.hid (Below.trans (show Below w0.heap.size w0 _ from (by (repeat (with_reducible first | exact Below.refl _ _ | exact X4.out | refine Below.drew ?_ | refine Below.alloc ?_ (by first | exact Nat.le_refl _ | omega | (simp; done) | (simp; omega)) _)); first | done | fail)) (hb5.mono (by first | exact Nat.le_refl _ | omega | (simp; done) | (simp; omega))))
          have hzX5 := X5.out.size
          clear hb5
          dsimp only
          refine hK.out _ _ ?_ (fun hHeld => ?_)
          · exact CB.out _ (X5.out)
          clear hK K
          try simp only [Act.put, List.setIfInBounds_toArray, List.set_cons_zero, List.set_cons_succ, List.getElem_toArray, List.getElem_cons_zero, List.getElem_cons_succ]
          refine wpAnyH_take (i := 19) (v := ?_) rfl (by kernel_rfl) (by kernel_rfl) (by kernel_rfl) (fun _ _ _ h => h) (Or.inl ⟨by rfl, ?_⟩) hHeld ?_
          rotate_left
          · intro wq hSq; (try dsimp only at hSq); go_simp; try with_reducible rfl
          try simp only [Act.put, List.setIfInBounds_toArray, List.set_cons_zero, List.set_cons_succ, List.getElem_toArray, List.getElem_cons_zero, List.getElem_cons_succ]
          refine wpAnyH_take (i := 20) (v := ?_) rfl (by kernel_rfl) (by kernel_rfl) (by kernel_rfl) (fun _ _ _ h => h) (Or.inl ⟨by rfl, ?_⟩) hHeld ?_
          rotate_left
          · intro wq hSq; (try dsimp only at hSq); go_simp; try with_reducible rfl
          try simp only [Act.put, List.setIfInBounds_toArray, List.set_cons_zero, List.set_cons_succ, List.getElem_toArray, List.getElem_cons_zero, List.getElem_cons_succ]
          refine wpAnyH_done (by kernel_rfl) ?_ _
          refine NoPanic.normal ?_
          go_wp2_with fail
          go_meet
          exact ⟨false, rfl, fun _ => ⟨rfl, HFW⟩, HS.out.go X5.out⟩
        · have hne : (em != 0) = true := by simpa using he
          refine wpAnyH_take (i := 14) (v := ?_) rfl (by kernel_rfl) (by kernel_rfl) (by kernel_rfl) (fun _ _ _ h => h) (Or.inl ⟨by rfl, ?_⟩) hHeld ?_
          rotate_left
          · intro wq hSq; (try dsimp only at hSq); go_simp; try with_reducible rfl
          try simp only [Act.put, List.setIfInBounds_toArray, List.set_cons_zero, List.set_cons_succ, List.getElem_toArray, List.getElem_cons_zero, List.getElem_cons_succ]
          refine wpAnyH_take (i := 15) (v := ?_) rfl (by kernel_rfl) (by kernel_rfl) (by kernel_rfl) (fun _ _ _ h => h) (Or.inl ⟨by rfl, ?_⟩) hHeld ?_
          rotate_left
          · intro wq hSq; (try dsimp only at hSq); go_simp; try with_reducible rfl
          try simp only [Act.put, List.setIfInBounds_toArray, List.set_cons_zero, List.set_cons_succ, List.getElem_toArray, List.getElem_cons_zero, List.getElem_cons_succ]
          refine wpAnyH_take (i := 16) (v := ?_) rfl (by kernel_rfl) (by kernel_rfl) (by kernel_rfl) (fun _ _ _ h => h) (Or.inl ⟨by rfl, ?_⟩) hHeld ?_
          rotate_left
          · intro wq hSq; (try dsimp only at hSq); go_simp; try with_reducible rfl
          try simp only [Act.put, List.setIfInBounds_toArray, List.set_cons_zero, List.set_cons_succ, List.getElem_toArray, List.getElem_cons_zero, List.getElem_cons_succ]
          refine wpAnyH_take (i := 17) (v := undef) rfl (by kernel_rfl) (by kernel_rfl) (by kernel_rfl) (fun _ _ _ h => h) (Or.inr ⟨by rfl, rfl⟩) hHeld ?_
          try simp only [Act.put, List.setIfInBounds_toArray, List.set_cons_zero, List.set_cons_succ, List.getElem_toArray, List.getElem_cons_zero, List.getElem_cons_succ]
          refine wpAnyH_take (i := 18) (v := undef) rfl (by kernel_rfl) (by kernel_rfl) (by kernel_rfl) (fun _ _ _ h => h) (Or.inr ⟨by rfl, rfl⟩) hHeld ?_
          try simp only [Act.put, List.setIfInBounds_toArray, List.set_cons_zero, List.set_cons_succ, List.getElem_toArray, List.getElem_cons_zero, List.getElem_cons_succ]
          refine wpAnyH_take (i := 19) (v := undef) rfl (by kernel_rfl) (by kernel_rfl) (by kernel_rfl) (fun _ _ _ h => h) (Or.inr ⟨by rfl, rfl⟩) hHeld ?_
          try simp only [Act.put, List.setIfInBounds_toArray, List.set_cons_zero, List.set_cons_succ, List.getElem_toArray, List.getElem_cons_zero, List.getElem_cons_succ]
          refine wpAnyH_take (i := 20) (v := ?_) rfl (by kernel_rfl) (by kernel_rfl) (by kernel_rfl) (fun _ _ _ h => h) (Or.inl ⟨by rfl, ?_⟩) hHeld ?_
          rotate_left
          · intro wq hSq; (try dsimp only at hSq); go_simp; try with_reducible rfl
          try simp only [Act.put, List.setIfInBounds_toArray, List.set_cons_zero, List.set_cons_succ, List.getElem_toArray, List.getElem_cons_zero, List.getElem_cons_succ]
          refine wpAnyH_done (by kernel_rfl) ?_ _
          refine NoPanic.normal ?_
          go_wp2_with fail
          go_meet
          exact ⟨true, rfl, (fun h => by cases h), HS.out.go X4.out⟩
  case rest =>
    clear K1 K2 K3 K4 K5 CB
    obtain ⟨bb, rfl, hbb, HS1⟩ := hcut
    obtain ⟨w1, hw1⟩ : ∃ w1, w1 = wc := ⟨_, rfl⟩
    subst hw1
    obtain ⟨b0, b1, b2, b3, b4, b5, _⟩ := six_at HS1.out.bb
    cases bb with
    | true =>
      have HBl := Lib.hid HS1.out.bel
      go_wp2_with (go_at_call 12; go_loud (refine (HAW.out _ HBl.out).mono ?_; rintro e w9 ⟨rfl, hb9⟩; have HB9 := Lib.hid (HBl.out.trans (hb9.mono HBl.out.size)); clear hb9))
      go_ret
      exact ⟨rfl, HB9.out⟩
    | false =>
      obtain ⟨he, HFW⟩ := hbb rfl
      go_step
      go_step
      go_step
      apply_assumption
      exact RdG.part HT.out HX.out HM.out HZ.out HWC.out HMC.out hcp hn z2 z3 (HEM.out.symm.trans he) HFW.out HS1.out
end Go.Proofs.YtchlbbndfhibgaaGreatDoor.RdP
