/-
  Form3Back: what is written is read as it was; there is one form of each box.
-/
import Derived.Test.YtdgcihgohkgecaaF3Aw
import Derived.Test.YtdgcihgohkgecaaF3Y
import Derived.Test.YtdgcihgohkgecaaBxX
import Derived.Test.YtdgcihgohkgecaaBxH
import Derived.Deep.CutBlock
import Derived.Deep.DeepCutAuto
import Derived.Deep.RegionHeld3
namespace Go.Proofs.Ytdgcihgohkgecaa.F3Back
open Go.RowKit Go.Proofs.Ytdgcihgohkgecaa.BxD Go.Proofs.Ytdgcihgohkgecaa.BxKit Go.Proofs.Ytdgcihgohkgecaa.BxB Go.Proofs.Ytdgcihgohkgecaa.BxH Go.Proofs.Ytdgcihgohkgecaa.BxS Go.Proofs.Ytdgcihgohkgecaa.OlD Go.Proofs.Ytdgcihgohkgecaa.PtK Go.Proofs.Ytdgcihgohkgecaa.F3D
open Go.Proofs.Ytdgcihgohkgecaa.PkKit (BytesAt)

/-- Two boxes, each in its block. -/
structure Two (w : World) (oa ob : Obj) (wr : World) : Prop where
  low : Below w.heap.size w wr
  a : wr.heap[w.heap.size]? = some oa
  b : wr.heap[w.heap.size + 1]? = some ob
section
variable {w wr w2 : World} {oa ob : Obj} {a0 a1 a2 a3 a4 a5 b0 b1 b2 b3 b4 b5 : Value} {t t' : TypeId}
theorem Two.size (h : Two w oa ob wr) : w.heap.size + 2 ≤ wr.heap.size := (Array.getElem?_eq_some_iff.1 h.b).1
theorem Two.go (h : Two w oa ob wr) (hb : Below wr.heap.size wr w2) : Two w oa ob w2 := by
  have := h.size
  exact ⟨h.low.trans (hb.mono h.low.size), (hb.block _ (by omega)).trans h.a, (hb.block _ (by omega)).trans h.b⟩
theorem Two.drew (h : Two w oa ob wr) : Two w oa ob wr.drew := h.go (Below.drew (Below.refl _ _))
theorem Two.alloc (h : Two w oa ob wr) (o : Obj) : Two w oa ob (wr.alloc o) := h.go ((Below.refl _ _).alloc (Nat.le_refl _) o)
theorem Two.start (w : World) (oa ob : Obj) : Two w oa ob ((w.alloc oa).alloc ob) := by
  refine ⟨((Below.refl _ _).alloc (Nat.le_refl _) _).alloc (by simp) _, (heap_alloc_old _ _ (by simp)).trans (heap_alloc_new w _), ?_⟩
  have := heap_alloc_new (w.alloc oa) ob
  simpa using this
theorem Two.facts (h : Two w (.cells #[a0, a1, a2, a3, a4, a5] t) (.cells #[b0, b1, b2, b3, b4, b5] t') wr) :
    wr.cell? { block := w.heap.size, off := 0 } = some a0 ∧ wr.cell? { block := w.heap.size, off := 1 } = some a1 ∧ wr.cell? { block := w.heap.size, off := 2 } = some a2 ∧ wr.cell? { block := w.heap.size, off := 3 } = some a3 ∧ wr.cell? { block := w.heap.size, off := 4 } = some a4 ∧ wr.cell? { block := w.heap.size, off := 5 } = some a5 ∧
    wr.cell? { block := w.heap.size + 1, off := 0 } = some b0 ∧ wr.cell? { block := w.heap.size + 1, off := 1 } = some b1 ∧ wr.cell? { block := w.heap.size + 1, off := 2 } = some b2 ∧ wr.cell? { block := w.heap.size + 1, off := 3 } = some b3 ∧ wr.cell? { block := w.heap.size + 1, off := 4 } = some b4 ∧ wr.cell? { block := w.heap.size + 1, off := 5 } = some b5 := by
  have c := fun o => cell_of_row wr _ o _ _ _ h.a
  have d := fun o => cell_of_row wr _ o _ _ _ h.b
  exact ⟨(c 0).trans rfl, (c 1).trans rfl, (c 2).trans rfl, (c 3).trans rfl, (c 4).trans rfl, (c 5).trans rfl, (d 0).trans rfl, (d 1).trans rfl, (d 2).trans rfl, (d 3).trans rfl, (d 4).trans rfl, (d 5).trans rfl⟩
end
theorem id_eq (x y : ByteArray) : (x.toList == y.toList) = decide (x = y) := by
  rw [← beq_toListBytes, Bool.eq_iff_iff]
  simp
theorem back_eq {a b : Box} (ha : mbE a = 0) (hb : mbE b = 0) {X Y : ByteArray} (hX : X = ⟨(e3 a).toArray⟩) (hY : Y = ⟨(e3 b).toArray⟩) : ((X.toList == Y.toList) == eqX a b) = true := by
  have h1 : (X.toList == Y.toList) = decide (e3 a = e3 b) := by rw [← beq_toListBytes, hX, hY]; exact text_eq
  have h2 : eqX a b = decide (e3 a = e3 b) := by
    unfold eqX
    exact decide_eq_decide.2 (e3_inj ha hb).symm
  rw [h1, h2]
  simp
set_option maxHeartbeats 4000000 in
set_option maxRecDepth 100000 in
theorem walk {a b : Box} {WA MA WB MB : Option Addr} {wn wcp mn mcp vn vcp un ucp : Nat} {w : World} (h1 : StrsAt w w.heap.size WA wn a.words) (h2 : MsgsAt w w.heap.size MA mn a.msgs) (h3 : StrsAt w w.heap.size WB vn b.words) (h4 : MsgsAt w w.heap.size MB un b.msgs)
    (hwa : wn ≤ wcp) (hma : mn ≤ mcp) (hwb : vn ≤ vcp) (hmb : un ≤ ucp) (z1 : a.id.size ≤ 140737488355328) (z2 : b.id.size ≤ 140737488355328) :
    Calls Try.prog 3 #[.agg #[.string a.id, .int .i64 a.valid, .int .i64 a.next, .int .i64 a.high, .slice WA wn wcp, .slice MA mn mcp], .agg #[.string b.id, .int .i64 b.valid, .int .i64 b.next, .int .i64 b.high, .slice WB vn vcp, .slice MB un ucp]] w fun e w' => e = .returned (.bool true) ∧ Below w.heap.size w w' := by
  have KHA := Lib.hid (fun (wr : World) (h : Two w (.cells #[.string a.id, .int .i64 a.valid, .int .i64 a.next, .int .i64 a.high, .slice WA wn wcp, .slice MA mn mcp] 25) (.cells #[.string b.id, .int .i64 b.valid, .int .i64 b.next, .int .i64 b.high, .slice WB vn vcp, .slice MB un ucp] 25) wr) => heavy_any (bid := a.id) (bv := a.valid) (bn := a.next) (bh := a.high) (wc := wcp) (mc := mcp) (StrsAt.below h1 h.low (Nat.le_refl _)) (MsgsAt.below h2 h.low (Nat.le_refl _)) h.low.size h.low.size z1)
  have KHB := Lib.hid (fun (wr : World) (h : Two w (.cells #[.string a.id, .int .i64 a.valid, .int .i64 a.next, .int .i64 a.high, .slice WA wn wcp, .slice MA mn mcp] 25) (.cells #[.string b.id, .int .i64 b.valid, .int .i64 b.next, .int .i64 b.high, .slice WB vn vcp, .slice MB un ucp] 25) wr) => heavy_any (bid := b.id) (bv := b.valid) (bn := b.next) (bh := b.high) (wc := vcp) (mc := ucp) (StrsAt.below h3 h.low (Nat.le_refl _)) (MsgsAt.below h4 h.low (Nat.le_refl _)) h.low.size h.low.size z2)
  have KMA := Lib.hid (fun (wr : World) (h : Two w (.cells #[.string a.id, .int .i64 a.valid, .int .i64 a.next, .int .i64 a.high, .slice WA wn wcp, .slice MA mn mcp] 25) (.cells #[.string b.id, .int .i64 b.valid, .int .i64 b.next, .int .i64 b.high, .slice WB vn vcp, .slice MB un ucp] 25) wr) => show Calls Try.prog 8 #[.agg #[.string a.id, .int .i64 a.valid, .int .i64 a.next, .int .i64 a.high, .slice WA wn wcp, .slice MA mn mcp]] wr fun e w' => e = .returned (.int .i64 (mbE a)) ∧ Below wr.heap.size wr w' from ref_may (bid := a.id) (bv := a.valid) (bn := a.next) (bh := a.high) (wc := wcp) (mc := mcp) (StrsAt.below h1 h.low (Nat.le_refl _)) (MsgsAt.below h2 h.low (Nat.le_refl _)) h.low.size hwa)
  have KMB := Lib.hid (fun (wr : World) (h : Two w (.cells #[.string a.id, .int .i64 a.valid, .int .i64 a.next, .int .i64 a.high, .slice WA wn wcp, .slice MA mn mcp] 25) (.cells #[.string b.id, .int .i64 b.valid, .int .i64 b.next, .int .i64 b.high, .slice WB vn vcp, .slice MB un ucp] 25) wr) => show Calls Try.prog 8 #[.agg #[.string b.id, .int .i64 b.valid, .int .i64 b.next, .int .i64 b.high, .slice WB vn vcp, .slice MB un ucp]] wr fun e w' => e = .returned (.int .i64 (mbE b)) ∧ Below wr.heap.size wr w' from ref_may (bid := b.id) (bv := b.valid) (bn := b.next) (bh := b.high) (wc := vcp) (mc := ucp) (StrsAt.below h3 h.low (Nat.le_refl _)) (MsgsAt.below h4 h.low (Nat.le_refl _)) h.low.size hwb)
  have HAW := Lib.hid (fun (wr : World) => F3Aw.awake wr)
  have T0 := Lib.hid (Two.start w (.cells #[.string a.id, .int .i64 a.valid, .int .i64 a.next, .int .i64 a.high, .slice WA wn wcp, .slice MA mn mcp] 25) (.cells #[.string b.id, .int .i64 b.valid, .int .i64 b.next, .int .i64 b.high, .slice WB vn vcp, .slice MB un ucp] 25))
  have H1 := Lib.hid h1
  have H2 := Lib.hid h2
  have H3 := Lib.hid h3
  have H4 := Lib.hid h4
  have HWA := Lib.hid hwa
  have HMA := Lib.hid hma
  have HWB := Lib.hid hwb
  have HMB := Lib.hid hmb
  have hA := hv_or a.id a.words a.msgs
  have hB := hv_or b.id b.words b.msgs
  have hA1 : hv a.id a.words a.msgs = 1 ∨ hv a.id a.words a.msgs = 0 := by rcases hA with h | h; exact .inl h; exact .inr h.1
  have hB1 : hv b.id b.words b.msgs = 1 ∨ hv b.id b.words b.msgs = 0 := by rcases hB with h | h; exact .inl h; exact .inr h.1
  obtain ⟨nA, hnA⟩ : ∃ nA, nA = hv a.id a.words a.msgs := ⟨_, rfl⟩
  obtain ⟨nB, hnB⟩ : ∃ nB, nB = hv b.id b.words b.msgs := ⟨_, rfl⟩
  obtain ⟨ea, hea⟩ : ∃ ea, ea = mbE a := ⟨_, rfl⟩
  obtain ⟨eb_, heb⟩ : ∃ eb_, eb_ = mbE b := ⟨_, rfl⟩
  simp only [← hnA] at KHA hA1
  simp only [← hnB] at KHB hB1
  simp only [← hea] at KMA
  simp only [← heb] at KMB
  obtain ⟨s1, hs1⟩ : ∃ s1, IntKind.i64.wrap (nA + nB) = s1 := ⟨_, rfl⟩
  have HS1 := Lib.hid (show s1 = nA + nB from by rw [← hs1]; exact IntWalk.i64_in _ (by omega))
  have HEA := Lib.hid hea
  have HEB := Lib.hid heb
  obtain ⟨bb, hbb⟩ : ∃ bb, bb = (decide (0 < s1) || (decide (ea ≠ 0) || decide (eb_ ≠ 0))) := ⟨_, rfl⟩
  have HBB := Lib.hid hbb
  clear h1 h2 h3 h4 hwa hma hwb hmb hA hB hA1 hB1 hnA hnB hea heb hbb
  go_enter Try.func3, Try.ntmps3
  go_upto_region 1 with fail
  generalize (World.alloc (World.alloc w _) _) = w0 at T0 ⊢
  go_cut [26] (fun s26 wx => s26 = .bool bb ∧ Hid (Two w (.cells #[.string a.id, .int .i64 a.valid, .int .i64 a.next, .int .i64 a.high, .slice WA wn wcp, .slice MA mn mcp] 25) (.cells #[.string b.id, .int .i64 b.valid, .int .i64 b.next, .int .i64 b.high, .slice WB vn vcp, .slice MB un ucp] 25) wx))
  case first =>
    have hST0 := T0.out.facts
    obtain ⟨a0, a1, a2, a3, a4, a5, b0, b1, b2, b3, b4, b5⟩ := T0.out.facts
    cases hg : decide (0 < s1) with
    | true =>
      have HZ := Lib.hid hg
      refine wp_region_noPanic ?_
      refine wp_region_held_drew (S := fun wr => wr.cell? { block := w.heap.size, off := 0 } = some (.string a.id) ∧ wr.cell? { block := w.heap.size, off := 1 } = some (.int .i64 a.valid) ∧ wr.cell? { block := w.heap.size, off := 2 } = some (.int .i64 a.next) ∧ wr.cell? { block := w.heap.size, off := 3 } = some (.int .i64 a.high) ∧ wr.cell? { block := w.heap.size, off := 4 } = some (.slice WA wn wcp) ∧ wr.cell? { block := w.heap.size, off := 5 } = some (.slice MA mn mcp) ∧ wr.cell? { block := w.heap.size + 1, off := 0 } = some (.string b.id) ∧ wr.cell? { block := w.heap.size + 1, off := 1 } = some (.int .i64 b.valid) ∧ wr.cell? { block := w.heap.size + 1, off := 2 } = some (.int .i64 b.next) ∧ wr.cell? { block := w.heap.size + 1, off := 3 } = some (.int .i64 b.high) ∧ wr.cell? { block := w.heap.size + 1, off := 4 } = some (.slice WB vn vcp) ∧ wr.cell? { block := w.heap.size + 1, off := 5 } = some (.slice MB un ucp)) (by kernel_rfl) ?_ (fun hHeld => ?_)
      · exact T0.out.drew.facts
      refine wpAnyH_take (i := 0) (v := ?_) rfl (by kernel_rfl) (by kernel_rfl) (by kernel_rfl) (fun _ _ _ h => h) (Or.inl ⟨by rfl, ?_⟩) hHeld ?_
      rotate_left
      · intro wq hSq; (try dsimp only at hSq); go_simp; try with_reducible rfl
      try simp only [Act.put, List.setIfInBounds_toArray, List.set_cons_zero, List.set_cons_succ, List.getElem_toArray, List.getElem_cons_zero, List.getElem_cons_succ]
      refine wpAnyH_take (i := 2) (v := ?_) rfl (by kernel_rfl) (by kernel_rfl) (by kernel_rfl) (fun _ _ _ h => h) (Or.inl ⟨by rfl, ?_⟩) hHeld ?_
      rotate_left
      · intro wq hSq; (try dsimp only at hSq); go_simp; try with_reducible rfl
      try simp only [Act.put, List.setIfInBounds_toArray, List.set_cons_zero, List.set_cons_succ, List.getElem_toArray, List.getElem_cons_zero, List.getElem_cons_succ]
      refine wpAnyH_ready (rs := [1]) (by kernel_rfl) (by simp) ?_
      refine AllReadyH.cons rfl (fun K hK => ?_) AllReadyH.nil
      go_simp; try with_reducible rfl
      go_at_call 7
      (refine (KHA.out _ T0.out.drew).mono ?_
       rintro e t1w ⟨rfl, hbT1⟩
       have T1 := Lib.hid (T0.out.drew.go hbT1)
       clear hbT1
       dsimp only)
      refine hK.out _ _ ?_ (fun hHeld => ?_)
      · exact T1.out.facts
      clear hK K
      try simp only [Act.put, List.setIfInBounds_toArray, List.set_cons_zero, List.set_cons_succ, List.getElem_toArray, List.getElem_cons_zero, List.getElem_cons_succ]
      refine wpAnyH_ready (rs := [3]) (by kernel_rfl) (by simp) ?_
      refine AllReadyH.cons rfl (fun K hK => ?_) AllReadyH.nil
      go_simp; try with_reducible rfl
      go_at_call 7
      (refine (KHB.out _ T1.out).mono ?_
       rintro e t2w ⟨rfl, hbT2⟩
       have T2 := Lib.hid (T1.out.go hbT2)
       clear hbT2
       dsimp only)
      refine hK.out _ _ ?_ (fun hHeld => ?_)
      · exact T2.out.facts
      clear hK K
      try simp only [Act.put, List.setIfInBounds_toArray, List.set_cons_zero, List.set_cons_succ, List.getElem_toArray, List.getElem_cons_zero, List.getElem_cons_succ]
      refine wpAnyH_take (i := 4) (v := ?_) rfl (by kernel_rfl) (by kernel_rfl) (by kernel_rfl) (fun _ _ _ h => h) (Or.inl ⟨by rfl, ?_⟩) hHeld ?_
      rotate_left
      · intro wq hSq; (try dsimp only at hSq); go_simp; try with_reducible rfl
      try simp only [Act.put, List.setIfInBounds_toArray, List.set_cons_zero, List.set_cons_succ, List.getElem_toArray, List.getElem_cons_zero, List.getElem_cons_succ]
      refine wpAnyH_take (i := 5) (v := ?_) rfl (by kernel_rfl) (by kernel_rfl) (by kernel_rfl) (fun _ _ _ h => h) (Or.inl ⟨by rfl, ?_⟩) hHeld ?_
      rotate_left
      · intro wq hSq; (try dsimp only at hSq); go_simp; try with_reducible rfl
      try simp only [Act.put, List.setIfInBounds_toArray, List.set_cons_zero, List.set_cons_succ, List.getElem_toArray, List.getElem_cons_zero, List.getElem_cons_succ]
      refine wpAnyH_take (i := 6) (v := ?_) rfl (by kernel_rfl) (by kernel_rfl) (by kernel_rfl) (fun _ _ _ h => h) (Or.inl ⟨by rfl, ?_⟩) hHeld ?_
      rotate_left
      · intro wq hSq; (try dsimp only at hSq); go_simp; try with_reducible rfl
      try simp only [Act.put, List.setIfInBounds_toArray, List.set_cons_zero, List.set_cons_succ, List.getElem_toArray, List.getElem_cons_zero, List.getElem_cons_succ]
      refine wpAnyH_take (i := 7) (v := undef) rfl (by kernel_rfl) (by kernel_rfl) (by kernel_rfl) (fun _ _ _ h => h) (Or.inr ⟨by rfl, rfl⟩) hHeld ?_
      try simp only [Act.put, List.setIfInBounds_toArray, List.set_cons_zero, List.set_cons_succ, List.getElem_toArray, List.getElem_cons_zero, List.getElem_cons_succ]
      refine wpAnyH_ready (rs := [8]) (by kernel_rfl) (by simp) ?_
      refine AllReadyH.cons rfl (fun K hK => ?_) AllReadyH.nil
      go_simp; try with_reducible rfl
      refine hK.out _ _ ?_ (fun hHeld => ?_)
      · exact T2.out.facts
      clear hK K
      try simp only [Act.put, List.setIfInBounds_toArray, List.set_cons_zero, List.set_cons_succ, List.getElem_toArray, List.getElem_cons_zero, List.getElem_cons_succ]
      refine wpAnyH_take (i := 9) (v := undef) rfl (by kernel_rfl) (by kernel_rfl) (by kernel_rfl) (fun _ _ _ h => h) (Or.inr ⟨by rfl, rfl⟩) hHeld ?_
      try simp only [Act.put, List.setIfInBounds_toArray, List.set_cons_zero, List.set_cons_succ, List.getElem_toArray, List.getElem_cons_zero, List.getElem_cons_succ]
      refine wpAnyH_take (i := 10) (v := ?_) rfl (by kernel_rfl) (by kernel_rfl) (by kernel_rfl) (fun _ _ _ h => h) (Or.inl ⟨by rfl, ?_⟩) hHeld ?_
      rotate_left
      · intro wq hSq; (try dsimp only at hSq); go_simp; try with_reducible rfl
      try simp only [Act.put, List.setIfInBounds_toArray, List.set_cons_zero, List.set_cons_succ, List.getElem_toArray, List.getElem_cons_zero, List.getElem_cons_succ]
      refine wpAnyH_take (i := 11) (v := ?_) rfl (by kernel_rfl) (by kernel_rfl) (by kernel_rfl) (fun _ _ _ h => h) (Or.inl ⟨by rfl, ?_⟩) hHeld ?_
      rotate_left
      · intro wq hSq; (try dsimp only at hSq); go_simp; try with_reducible rfl
      try simp only [Act.put, List.setIfInBounds_toArray, List.set_cons_zero, List.set_cons_succ, List.getElem_toArray, List.getElem_cons_zero, List.getElem_cons_succ]
      refine wpAnyH_take (i := 12) (v := undef) rfl (by kernel_rfl) (by kernel_rfl) (by kernel_rfl) (fun _ _ _ h => h) (Or.inr ⟨by rfl, rfl⟩) hHeld ?_
      try simp only [Act.put, List.setIfInBounds_toArray, List.set_cons_zero, List.set_cons_succ, List.getElem_toArray, List.getElem_cons_zero, List.getElem_cons_succ]
      refine wpAnyH_ready (rs := [13]) (by kernel_rfl) (by simp) ?_
      refine AllReadyH.cons rfl (fun K hK => ?_) AllReadyH.nil
      go_simp; try with_reducible rfl
      refine hK.out _ _ ?_ (fun hHeld => ?_)
      · exact T2.out.facts
      clear hK K
      try simp only [Act.put, List.setIfInBounds_toArray, List.set_cons_zero, List.set_cons_succ, List.getElem_toArray, List.getElem_cons_zero, List.getElem_cons_succ]
      refine wpAnyH_take (i := 14) (v := undef) rfl (by kernel_rfl) (by kernel_rfl) (by kernel_rfl) (fun _ _ _ h => h) (Or.inr ⟨by rfl, rfl⟩) hHeld ?_
      try simp only [Act.put, List.setIfInBounds_toArray, List.set_cons_zero, List.set_cons_succ, List.getElem_toArray, List.getElem_cons_zero, List.getElem_cons_succ]
      refine wpAnyH_take (i := 15) (v := ?_) rfl (by kernel_rfl) (by kernel_rfl) (by kernel_rfl) (fun _ _ _ h => h) (Or.inl ⟨by rfl, ?_⟩) hHeld ?_
      rotate_left
      · intro wq hSq; (try dsimp only at hSq); go_simp; try with_reducible rfl
      try simp only [Act.put, List.setIfInBounds_toArray, List.set_cons_zero, List.set_cons_succ, List.getElem_toArray, List.getElem_cons_zero, List.getElem_cons_succ]
      refine wpAnyH_done (by kernel_rfl) ?_ _
      refine NoPanic.normal ?_
      all_goals (go_wp2_with fail; go_meet; exact ⟨by rw [HBB.out]; rw [HZ.out]; rfl, T2.out⟩)
    | false =>
      have HZ := Lib.hid hg
      by_cases he1 : ea = 0
      case neg =>
        have hne1 : (ea != 0) = true := by simpa using he1
        have HE1 := Lib.hid he1
        clear he1
        refine wp_region_noPanic ?_
        refine wp_region_held_drew (S := fun wr => wr.cell? { block := w.heap.size, off := 0 } = some (.string a.id) ∧ wr.cell? { block := w.heap.size, off := 1 } = some (.int .i64 a.valid) ∧ wr.cell? { block := w.heap.size, off := 2 } = some (.int .i64 a.next) ∧ wr.cell? { block := w.heap.size, off := 3 } = some (.int .i64 a.high) ∧ wr.cell? { block := w.heap.size, off := 4 } = some (.slice WA wn wcp) ∧ wr.cell? { block := w.heap.size, off := 5 } = some (.slice MA mn mcp) ∧ wr.cell? { block := w.heap.size + 1, off := 0 } = some (.string b.id) ∧ wr.cell? { block := w.heap.size + 1, off := 1 } = some (.int .i64 b.valid) ∧ wr.cell? { block := w.heap.size + 1, off := 2 } = some (.int .i64 b.next) ∧ wr.cell? { block := w.heap.size + 1, off := 3 } = some (.int .i64 b.high) ∧ wr.cell? { block := w.heap.size + 1, off := 4 } = some (.slice WB vn vcp) ∧ wr.cell? { block := w.heap.size + 1, off := 5 } = some (.slice MB un ucp)) (by kernel_rfl) ?_ (fun hHeld => ?_)
        · exact T0.out.drew.facts
        refine wpAnyH_take (i := 0) (v := ?_) rfl (by kernel_rfl) (by kernel_rfl) (by kernel_rfl) (fun _ _ _ h => h) (Or.inl ⟨by rfl, ?_⟩) hHeld ?_
        rotate_left
        · intro wq hSq; (try dsimp only at hSq); go_simp; try with_reducible rfl
        try simp only [Act.put, List.setIfInBounds_toArray, List.set_cons_zero, List.set_cons_succ, List.getElem_toArray, List.getElem_cons_zero, List.getElem_cons_succ]
        refine wpAnyH_take (i := 2) (v := ?_) rfl (by kernel_rfl) (by kernel_rfl) (by kernel_rfl) (fun _ _ _ h => h) (Or.inl ⟨by rfl, ?_⟩) hHeld ?_
        rotate_left
        · intro wq hSq; (try dsimp only at hSq); go_simp; try with_reducible rfl
        try simp only [Act.put, List.setIfInBounds_toArray, List.set_cons_zero, List.set_cons_succ, List.getElem_toArray, List.getElem_cons_zero, List.getElem_cons_succ]
        refine wpAnyH_ready (rs := [1]) (by kernel_rfl) (by simp) ?_
        refine AllReadyH.cons rfl (fun K hK => ?_) AllReadyH.nil
        go_simp; try with_reducible rfl
        go_at_call 7
        (refine (KHA.out _ T0.out.drew).mono ?_
         rintro e t1w ⟨rfl, hbT1⟩
         have T1 := Lib.hid (T0.out.drew.go hbT1)
         clear hbT1
         dsimp only)
        refine hK.out _ _ ?_ (fun hHeld => ?_)
        · exact T1.out.facts
        clear hK K
        try simp only [Act.put, List.setIfInBounds_toArray, List.set_cons_zero, List.set_cons_succ, List.getElem_toArray, List.getElem_cons_zero, List.getElem_cons_succ]
        refine wpAnyH_ready (rs := [3]) (by kernel_rfl) (by simp) ?_
        refine AllReadyH.cons rfl (fun K hK => ?_) AllReadyH.nil
        go_simp; try with_reducible rfl
        go_at_call 7
        (refine (KHB.out _ T1.out).mono ?_
         rintro e t2w ⟨rfl, hbT2⟩
         have T2 := Lib.hid (T1.out.go hbT2)
         clear hbT2
         dsimp only)
        refine hK.out _ _ ?_ (fun hHeld => ?_)
        · exact T2.out.facts
        clear hK K
        try simp only [Act.put, List.setIfInBounds_toArray, List.set_cons_zero, List.set_cons_succ, List.getElem_toArray, List.getElem_cons_zero, List.getElem_cons_succ]
        refine wpAnyH_take (i := 4) (v := ?_) rfl (by kernel_rfl) (by kernel_rfl) (by kernel_rfl) (fun _ _ _ h => h) (Or.inl ⟨by rfl, ?_⟩) hHeld ?_
        rotate_left
        · intro wq hSq; (try dsimp only at hSq); go_simp; try with_reducible rfl
        try simp only [Act.put, List.setIfInBounds_toArray, List.set_cons_zero, List.set_cons_succ, List.getElem_toArray, List.getElem_cons_zero, List.getElem_cons_succ]
        refine wpAnyH_take (i := 5) (v := ?_) rfl (by kernel_rfl) (by kernel_rfl) (by kernel_rfl) (fun _ _ _ h => h) (Or.inl ⟨by rfl, ?_⟩) hHeld ?_
        rotate_left
        · intro wq hSq; (try dsimp only at hSq); go_simp; try with_reducible rfl
        try simp only [Act.put, List.setIfInBounds_toArray, List.set_cons_zero, List.set_cons_succ, List.getElem_toArray, List.getElem_cons_zero, List.getElem_cons_succ]
        refine wpAnyH_take (i := 6) (v := ?_) rfl (by kernel_rfl) (by kernel_rfl) (by kernel_rfl) (fun _ _ _ h => h) (Or.inl ⟨by rfl, ?_⟩) hHeld ?_
        rotate_left
        · intro wq hSq; (try dsimp only at hSq); go_simp; try with_reducible rfl
        try simp only [Act.put, List.setIfInBounds_toArray, List.set_cons_zero, List.set_cons_succ, List.getElem_toArray, List.getElem_cons_zero, List.getElem_cons_succ]
        refine wpAnyH_take (i := 7) (v := ?_) rfl (by kernel_rfl) (by kernel_rfl) (by kernel_rfl) (fun _ _ _ h => h) (Or.inl ⟨by rfl, ?_⟩) hHeld ?_
        rotate_left
        · intro wq hSq; (try dsimp only at hSq); go_simp; try with_reducible rfl
        try simp only [Act.put, List.setIfInBounds_toArray, List.set_cons_zero, List.set_cons_succ, List.getElem_toArray, List.getElem_cons_zero, List.getElem_cons_succ]
        refine wpAnyH_ready (rs := [8]) (by kernel_rfl) (by simp) ?_
        refine AllReadyH.cons rfl (fun K hK => ?_) AllReadyH.nil
        go_simp; try with_reducible rfl
        go_at_call 8
        (refine (KMA.out _ T2.out).mono ?_
         rintro e t3w ⟨rfl, hbT3⟩
         have T3 := Lib.hid (T2.out.go hbT3)
         clear hbT3
         dsimp only)
        refine hK.out _ _ ?_ (fun hHeld => ?_)
        · exact T3.out.facts
        clear hK K
        try simp only [Act.put, List.setIfInBounds_toArray, List.set_cons_zero, List.set_cons_succ, List.getElem_toArray, List.getElem_cons_zero, List.getElem_cons_succ]
        refine wpAnyH_take (i := 9) (v := ?_) rfl (by kernel_rfl) (by kernel_rfl) (by kernel_rfl) (fun _ _ _ h => h) (Or.inl ⟨by rfl, ?_⟩) hHeld ?_
        rotate_left
        · intro wq hSq; (try dsimp only at hSq); go_simp; try with_reducible rfl
        try simp only [Act.put, List.setIfInBounds_toArray, List.set_cons_zero, List.set_cons_succ, List.getElem_toArray, List.getElem_cons_zero, List.getElem_cons_succ]
        refine wpAnyH_take (i := 10) (v := ?_) rfl (by kernel_rfl) (by kernel_rfl) (by kernel_rfl) (fun _ _ _ h => h) (Or.inl ⟨by rfl, ?_⟩) hHeld ?_
        rotate_left
        · intro wq hSq; (try dsimp only at hSq); go_simp; try with_reducible rfl
        try simp only [Act.put, List.setIfInBounds_toArray, List.set_cons_zero, List.set_cons_succ, List.getElem_toArray, List.getElem_cons_zero, List.getElem_cons_succ]
        refine wpAnyH_take (i := 11) (v := ?_) rfl (by kernel_rfl) (by kernel_rfl) (by kernel_rfl) (fun _ _ _ h => h) (Or.inl ⟨by rfl, ?_⟩) hHeld ?_
        rotate_left
        · intro wq hSq; (try dsimp only at hSq); go_simp; try with_reducible rfl
        try simp only [Act.put, List.setIfInBounds_toArray, List.set_cons_zero, List.set_cons_succ, List.getElem_toArray, List.getElem_cons_zero, List.getElem_cons_succ]
        refine wpAnyH_take (i := 12) (v := undef) rfl (by kernel_rfl) (by kernel_rfl) (by kernel_rfl) (fun _ _ _ h => h) (Or.inr ⟨by rfl, rfl⟩) hHeld ?_
        try simp only [Act.put, List.setIfInBounds_toArray, List.set_cons_zero, List.set_cons_succ, List.getElem_toArray, List.getElem_cons_zero, List.getElem_cons_succ]
        refine wpAnyH_ready (rs := [13]) (by kernel_rfl) (by simp) ?_
        refine AllReadyH.cons rfl (fun K hK => ?_) AllReadyH.nil
        go_simp; try with_reducible rfl
        refine hK.out _ _ ?_ (fun hHeld => ?_)
        · exact T3.out.facts
        clear hK K
        try simp only [Act.put, List.setIfInBounds_toArray, List.set_cons_zero, List.set_cons_succ, List.getElem_toArray, List.getElem_cons_zero, List.getElem_cons_succ]
        refine wpAnyH_take (i := 14) (v := undef) rfl (by kernel_rfl) (by kernel_rfl) (by kernel_rfl) (fun _ _ _ h => h) (Or.inr ⟨by rfl, rfl⟩) hHeld ?_
        try simp only [Act.put, List.setIfInBounds_toArray, List.set_cons_zero, List.set_cons_succ, List.getElem_toArray, List.getElem_cons_zero, List.getElem_cons_succ]
        refine wpAnyH_take (i := 15) (v := ?_) rfl (by kernel_rfl) (by kernel_rfl) (by kernel_rfl) (fun _ _ _ h => h) (Or.inl ⟨by rfl, ?_⟩) hHeld ?_
        rotate_left
        · intro wq hSq; (try dsimp only at hSq); go_simp; try with_reducible rfl
        try simp only [Act.put, List.setIfInBounds_toArray, List.set_cons_zero, List.set_cons_succ, List.getElem_toArray, List.getElem_cons_zero, List.getElem_cons_succ]
        refine wpAnyH_done (by kernel_rfl) ?_ _
        refine NoPanic.normal ?_
        all_goals (go_wp2_with fail; go_meet; exact ⟨by rw [HBB.out]; rw [HZ.out, decide_eq_true HE1.out]; rfl, T3.out⟩)
      case pos =>
        subst he1
        by_cases he2 : eb_ = 0
        case neg =>
          have hne2 : (eb_ != 0) = true := by simpa using he2
          have HE2 := Lib.hid he2
          clear he2
          refine wp_region_noPanic ?_
          refine wp_region_held_drew (S := fun wr => wr.cell? { block := w.heap.size, off := 0 } = some (.string a.id) ∧ wr.cell? { block := w.heap.size, off := 1 } = some (.int .i64 a.valid) ∧ wr.cell? { block := w.heap.size, off := 2 } = some (.int .i64 a.next) ∧ wr.cell? { block := w.heap.size, off := 3 } = some (.int .i64 a.high) ∧ wr.cell? { block := w.heap.size, off := 4 } = some (.slice WA wn wcp) ∧ wr.cell? { block := w.heap.size, off := 5 } = some (.slice MA mn mcp) ∧ wr.cell? { block := w.heap.size + 1, off := 0 } = some (.string b.id) ∧ wr.cell? { block := w.heap.size + 1, off := 1 } = some (.int .i64 b.valid) ∧ wr.cell? { block := w.heap.size + 1, off := 2 } = some (.int .i64 b.next) ∧ wr.cell? { block := w.heap.size + 1, off := 3 } = some (.int .i64 b.high) ∧ wr.cell? { block := w.heap.size + 1, off := 4 } = some (.slice WB vn vcp) ∧ wr.cell? { block := w.heap.size + 1, off := 5 } = some (.slice MB un ucp)) (by kernel_rfl) ?_ (fun hHeld => ?_)
          · exact T0.out.drew.facts
          refine wpAnyH_take (i := 0) (v := ?_) rfl (by kernel_rfl) (by kernel_rfl) (by kernel_rfl) (fun _ _ _ h => h) (Or.inl ⟨by rfl, ?_⟩) hHeld ?_
          rotate_left
          · intro wq hSq; (try dsimp only at hSq); go_simp; try with_reducible rfl
          try simp only [Act.put, List.setIfInBounds_toArray, List.set_cons_zero, List.set_cons_succ, List.getElem_toArray, List.getElem_cons_zero, List.getElem_cons_succ]
          refine wpAnyH_take (i := 2) (v := ?_) rfl (by kernel_rfl) (by kernel_rfl) (by kernel_rfl) (fun _ _ _ h => h) (Or.inl ⟨by rfl, ?_⟩) hHeld ?_
          rotate_left
          · intro wq hSq; (try dsimp only at hSq); go_simp; try with_reducible rfl
          try simp only [Act.put, List.setIfInBounds_toArray, List.set_cons_zero, List.set_cons_succ, List.getElem_toArray, List.getElem_cons_zero, List.getElem_cons_succ]
          refine wpAnyH_ready (rs := [1]) (by kernel_rfl) (by simp) ?_
          refine AllReadyH.cons rfl (fun K hK => ?_) AllReadyH.nil
          go_simp; try with_reducible rfl
          go_at_call 7
          (refine (KHA.out _ T0.out.drew).mono ?_
           rintro e t1w ⟨rfl, hbT1⟩
           have T1 := Lib.hid (T0.out.drew.go hbT1)
           clear hbT1
           dsimp only)
          refine hK.out _ _ ?_ (fun hHeld => ?_)
          · exact T1.out.facts
          clear hK K
          try simp only [Act.put, List.setIfInBounds_toArray, List.set_cons_zero, List.set_cons_succ, List.getElem_toArray, List.getElem_cons_zero, List.getElem_cons_succ]
          refine wpAnyH_ready (rs := [3]) (by kernel_rfl) (by simp) ?_
          refine AllReadyH.cons rfl (fun K hK => ?_) AllReadyH.nil
          go_simp; try with_reducible rfl
          go_at_call 7
          (refine (KHB.out _ T1.out).mono ?_
           rintro e t2w ⟨rfl, hbT2⟩
           have T2 := Lib.hid (T1.out.go hbT2)
           clear hbT2
           dsimp only)
          refine hK.out _ _ ?_ (fun hHeld => ?_)
          · exact T2.out.facts
          clear hK K
          try simp only [Act.put, List.setIfInBounds_toArray, List.set_cons_zero, List.set_cons_succ, List.getElem_toArray, List.getElem_cons_zero, List.getElem_cons_succ]
          refine wpAnyH_take (i := 4) (v := ?_) rfl (by kernel_rfl) (by kernel_rfl) (by kernel_rfl) (fun _ _ _ h => h) (Or.inl ⟨by rfl, ?_⟩) hHeld ?_
          rotate_left
          · intro wq hSq; (try dsimp only at hSq); go_simp; try with_reducible rfl
          try simp only [Act.put, List.setIfInBounds_toArray, List.set_cons_zero, List.set_cons_succ, List.getElem_toArray, List.getElem_cons_zero, List.getElem_cons_succ]
          refine wpAnyH_take (i := 5) (v := ?_) rfl (by kernel_rfl) (by kernel_rfl) (by kernel_rfl) (fun _ _ _ h => h) (Or.inl ⟨by rfl, ?_⟩) hHeld ?_
          rotate_left
          · intro wq hSq; (try dsimp only at hSq); go_simp; try with_reducible rfl
          try simp only [Act.put, List.setIfInBounds_toArray, List.set_cons_zero, List.set_cons_succ, List.getElem_toArray, List.getElem_cons_zero, List.getElem_cons_succ]
          refine wpAnyH_take (i := 6) (v := ?_) rfl (by kernel_rfl) (by kernel_rfl) (by kernel_rfl) (fun _ _ _ h => h) (Or.inl ⟨by rfl, ?_⟩) hHeld ?_
          rotate_left
          · intro wq hSq; (try dsimp only at hSq); go_simp; try with_reducible rfl
          try simp only [Act.put, List.setIfInBounds_toArray, List.set_cons_zero, List.set_cons_succ, List.getElem_toArray, List.getElem_cons_zero, List.getElem_cons_succ]
          refine wpAnyH_take (i := 7) (v := ?_) rfl (by kernel_rfl) (by kernel_rfl) (by kernel_rfl) (fun _ _ _ h => h) (Or.inl ⟨by rfl, ?_⟩) hHeld ?_
          rotate_left
          · intro wq hSq; (try dsimp only at hSq); go_simp; try with_reducible rfl
          try simp only [Act.put, List.setIfInBounds_toArray, List.set_cons_zero, List.set_cons_succ, List.getElem_toArray, List.getElem_cons_zero, List.getElem_cons_succ]
          refine wpAnyH_ready (rs := [8]) (by kernel_rfl) (by simp) ?_
          refine AllReadyH.cons rfl (fun K hK => ?_) AllReadyH.nil
          go_simp; try with_reducible rfl
          go_at_call 8
          (refine (KMA.out _ T2.out).mono ?_
           rintro e t3w ⟨rfl, hbT3⟩
           have T3 := Lib.hid (T2.out.go hbT3)
           clear hbT3
           dsimp only)
          refine hK.out _ _ ?_ (fun hHeld => ?_)
          · exact T3.out.facts
          clear hK K
          try simp only [Act.put, List.setIfInBounds_toArray, List.set_cons_zero, List.set_cons_succ, List.getElem_toArray, List.getElem_cons_zero, List.getElem_cons_succ]
          refine wpAnyH_take (i := 9) (v := ?_) rfl (by kernel_rfl) (by kernel_rfl) (by kernel_rfl) (fun _ _ _ h => h) (Or.inl ⟨by rfl, ?_⟩) hHeld ?_
          rotate_left
          · intro wq hSq; (try dsimp only at hSq); go_simp; try with_reducible rfl
          try simp only [Act.put, List.setIfInBounds_toArray, List.set_cons_zero, List.set_cons_succ, List.getElem_toArray, List.getElem_cons_zero, List.getElem_cons_succ]
          refine wpAnyH_take (i := 10) (v := ?_) rfl (by kernel_rfl) (by kernel_rfl) (by kernel_rfl) (fun _ _ _ h => h) (Or.inl ⟨by rfl, ?_⟩) hHeld ?_
          rotate_left
          · intro wq hSq; (try dsimp only at hSq); go_simp; try with_reducible rfl
          try simp only [Act.put, List.setIfInBounds_toArray, List.set_cons_zero, List.set_cons_succ, List.getElem_toArray, List.getElem_cons_zero, List.getElem_cons_succ]
          refine wpAnyH_take (i := 11) (v := ?_) rfl (by kernel_rfl) (by kernel_rfl) (by kernel_rfl) (fun _ _ _ h => h) (Or.inl ⟨by rfl, ?_⟩) hHeld ?_
          rotate_left
          · intro wq hSq; (try dsimp only at hSq); go_simp; try with_reducible rfl
          try simp only [Act.put, List.setIfInBounds_toArray, List.set_cons_zero, List.set_cons_succ, List.getElem_toArray, List.getElem_cons_zero, List.getElem_cons_succ]
          refine wpAnyH_take (i := 12) (v := ?_) rfl (by kernel_rfl) (by kernel_rfl) (by kernel_rfl) (fun _ _ _ h => h) (Or.inl ⟨by rfl, ?_⟩) hHeld ?_
          rotate_left
          · intro wq hSq; (try dsimp only at hSq); go_simp; try with_reducible rfl
          try simp only [Act.put, List.setIfInBounds_toArray, List.set_cons_zero, List.set_cons_succ, List.getElem_toArray, List.getElem_cons_zero, List.getElem_cons_succ]
          refine wpAnyH_ready (rs := [13]) (by kernel_rfl) (by simp) ?_
          refine AllReadyH.cons rfl (fun K hK => ?_) AllReadyH.nil
          go_simp; try with_reducible rfl
          go_at_call 8
          (refine (KMB.out _ T3.out).mono ?_
           rintro e t4w ⟨rfl, hbT4⟩
           have T4 := Lib.hid (T3.out.go hbT4)
           clear hbT4
           dsimp only)
          refine hK.out _ _ ?_ (fun hHeld => ?_)
          · exact T4.out.facts
          clear hK K
          try simp only [Act.put, List.setIfInBounds_toArray, List.set_cons_zero, List.set_cons_succ, List.getElem_toArray, List.getElem_cons_zero, List.getElem_cons_succ]
          refine wpAnyH_take (i := 14) (v := ?_) rfl (by kernel_rfl) (by kernel_rfl) (by kernel_rfl) (fun _ _ _ h => h) (Or.inl ⟨by rfl, ?_⟩) hHeld ?_
          rotate_left
          · intro wq hSq; (try dsimp only at hSq); go_simp; try with_reducible rfl
          try simp only [Act.put, List.setIfInBounds_toArray, List.set_cons_zero, List.set_cons_succ, List.getElem_toArray, List.getElem_cons_zero, List.getElem_cons_succ]
          refine wpAnyH_take (i := 15) (v := ?_) rfl (by kernel_rfl) (by kernel_rfl) (by kernel_rfl) (fun _ _ _ h => h) (Or.inl ⟨by rfl, ?_⟩) hHeld ?_
          rotate_left
          · intro wq hSq; (try dsimp only at hSq); go_simp; try with_reducible rfl
          try simp only [Act.put, List.setIfInBounds_toArray, List.set_cons_zero, List.set_cons_succ, List.getElem_toArray, List.getElem_cons_zero, List.getElem_cons_succ]
          refine wpAnyH_done (by kernel_rfl) ?_ _
          refine NoPanic.normal ?_
          all_goals (go_wp2_with fail; go_meet; exact ⟨by rw [HBB.out]; rw [HZ.out, decide_eq_true HE2.out]; rfl, T4.out⟩)
        case pos =>
          subst he2
          refine wp_region_noPanic ?_
          refine wp_region_held_drew (S := fun wr => wr.cell? { block := w.heap.size, off := 0 } = some (.string a.id) ∧ wr.cell? { block := w.heap.size, off := 1 } = some (.int .i64 a.valid) ∧ wr.cell? { block := w.heap.size, off := 2 } = some (.int .i64 a.next) ∧ wr.cell? { block := w.heap.size, off := 3 } = some (.int .i64 a.high) ∧ wr.cell? { block := w.heap.size, off := 4 } = some (.slice WA wn wcp) ∧ wr.cell? { block := w.heap.size, off := 5 } = some (.slice MA mn mcp) ∧ wr.cell? { block := w.heap.size + 1, off := 0 } = some (.string b.id) ∧ wr.cell? { block := w.heap.size + 1, off := 1 } = some (.int .i64 b.valid) ∧ wr.cell? { block := w.heap.size + 1, off := 2 } = some (.int .i64 b.next) ∧ wr.cell? { block := w.heap.size + 1, off := 3 } = some (.int .i64 b.high) ∧ wr.cell? { block := w.heap.size + 1, off := 4 } = some (.slice WB vn vcp) ∧ wr.cell? { block := w.heap.size + 1, off := 5 } = some (.slice MB un ucp)) (by kernel_rfl) ?_ (fun hHeld => ?_)
          · exact T0.out.drew.facts
          refine wpAnyH_take (i := 0) (v := ?_) rfl (by kernel_rfl) (by kernel_rfl) (by kernel_rfl) (fun _ _ _ h => h) (Or.inl ⟨by rfl, ?_⟩) hHeld ?_
          rotate_left
          · intro wq hSq; (try dsimp only at hSq); go_simp; try with_reducible rfl
          try simp only [Act.put, List.setIfInBounds_toArray, List.set_cons_zero, List.set_cons_succ, List.getElem_toArray, List.getElem_cons_zero, List.getElem_cons_succ]
          refine wpAnyH_take (i := 2) (v := ?_) rfl (by kernel_rfl) (by kernel_rfl) (by kernel_rfl) (fun _ _ _ h => h) (Or.inl ⟨by rfl, ?_⟩) hHeld ?_
          rotate_left
          · intro wq hSq; (try dsimp only at hSq); go_simp; try with_reducible rfl
          try simp only [Act.put, List.setIfInBounds_toArray, List.set_cons_zero, List.set_cons_succ, List.getElem_toArray, List.getElem_cons_zero, List.getElem_cons_succ]
          refine wpAnyH_ready (rs := [1]) (by kernel_rfl) (by simp) ?_
          refine AllReadyH.cons rfl (fun K hK => ?_) AllReadyH.nil
          go_simp; try with_reducible rfl
          go_at_call 7
          (refine (KHA.out _ T0.out.drew).mono ?_
           rintro e t1w ⟨rfl, hbT1⟩
           have T1 := Lib.hid (T0.out.drew.go hbT1)
           clear hbT1
           dsimp only)
          refine hK.out _ _ ?_ (fun hHeld => ?_)
          · exact T1.out.facts
          clear hK K
          try simp only [Act.put, List.setIfInBounds_toArray, List.set_cons_zero, List.set_cons_succ, List.getElem_toArray, List.getElem_cons_zero, List.getElem_cons_succ]
          refine wpAnyH_ready (rs := [3]) (by kernel_rfl) (by simp) ?_
          refine AllReadyH.cons rfl (fun K hK => ?_) AllReadyH.nil
          go_simp; try with_reducible rfl
          go_at_call 7
          (refine (KHB.out _ T1.out).mono ?_
           rintro e t2w ⟨rfl, hbT2⟩
           have T2 := Lib.hid (T1.out.go hbT2)
           clear hbT2
           dsimp only)
          refine hK.out _ _ ?_ (fun hHeld => ?_)
          · exact T2.out.facts
          clear hK K
          try simp only [Act.put, List.setIfInBounds_toArray, List.set_cons_zero, List.set_cons_succ, List.getElem_toArray, List.getElem_cons_zero, List.getElem_cons_succ]
          refine wpAnyH_take (i := 4) (v := ?_) rfl (by kernel_rfl) (by kernel_rfl) (by kernel_rfl) (fun _ _ _ h => h) (Or.inl ⟨by rfl, ?_⟩) hHeld ?_
          rotate_left
          · intro wq hSq; (try dsimp only at hSq); go_simp; try with_reducible rfl
          try simp only [Act.put, List.setIfInBounds_toArray, List.set_cons_zero, List.set_cons_succ, List.getElem_toArray, List.getElem_cons_zero, List.getElem_cons_succ]
          refine wpAnyH_take (i := 5) (v := ?_) rfl (by kernel_rfl) (by kernel_rfl) (by kernel_rfl) (fun _ _ _ h => h) (Or.inl ⟨by rfl, ?_⟩) hHeld ?_
          rotate_left
          · intro wq hSq; (try dsimp only at hSq); go_simp; try with_reducible rfl
          try simp only [Act.put, List.setIfInBounds_toArray, List.set_cons_zero, List.set_cons_succ, List.getElem_toArray, List.getElem_cons_zero, List.getElem_cons_succ]
          refine wpAnyH_take (i := 6) (v := ?_) rfl (by kernel_rfl) (by kernel_rfl) (by kernel_rfl) (fun _ _ _ h => h) (Or.inl ⟨by rfl, ?_⟩) hHeld ?_
          rotate_left
          · intro wq hSq; (try dsimp only at hSq); go_simp; try with_reducible rfl
          try simp only [Act.put, List.setIfInBounds_toArray, List.set_cons_zero, List.set_cons_succ, List.getElem_toArray, List.getElem_cons_zero, List.getElem_cons_succ]
          refine wpAnyH_take (i := 7) (v := ?_) rfl (by kernel_rfl) (by kernel_rfl) (by kernel_rfl) (fun _ _ _ h => h) (Or.inl ⟨by rfl, ?_⟩) hHeld ?_
          rotate_left
          · intro wq hSq; (try dsimp only at hSq); go_simp; try with_reducible rfl
          try simp only [Act.put, List.setIfInBounds_toArray, List.set_cons_zero, List.set_cons_succ, List.getElem_toArray, List.getElem_cons_zero, List.getElem_cons_succ]
          refine wpAnyH_ready (rs := [8]) (by kernel_rfl) (by simp) ?_
          refine AllReadyH.cons rfl (fun K hK => ?_) AllReadyH.nil
          go_simp; try with_reducible rfl
          go_at_call 8
          (refine (KMA.out _ T2.out).mono ?_
           rintro e t3w ⟨rfl, hbT3⟩
           have T3 := Lib.hid (T2.out.go hbT3)
           clear hbT3
           dsimp only)
          refine hK.out _ _ ?_ (fun hHeld => ?_)
          · exact T3.out.facts
          clear hK K
          try simp only [Act.put, List.setIfInBounds_toArray, List.set_cons_zero, List.set_cons_succ, List.getElem_toArray, List.getElem_cons_zero, List.getElem_cons_succ]
          refine wpAnyH_take (i := 9) (v := ?_) rfl (by kernel_rfl) (by kernel_rfl) (by kernel_rfl) (fun _ _ _ h => h) (Or.inl ⟨by rfl, ?_⟩) hHeld ?_
          rotate_left
          · intro wq hSq; (try dsimp only at hSq); go_simp; try with_reducible rfl
          try simp only [Act.put, List.setIfInBounds_toArray, List.set_cons_zero, List.set_cons_succ, List.getElem_toArray, List.getElem_cons_zero, List.getElem_cons_succ]
          refine wpAnyH_take (i := 10) (v := ?_) rfl (by kernel_rfl) (by kernel_rfl) (by kernel_rfl) (fun _ _ _ h => h) (Or.inl ⟨by rfl, ?_⟩) hHeld ?_
          rotate_left
          · intro wq hSq; (try dsimp only at hSq); go_simp; try with_reducible rfl
          try simp only [Act.put, List.setIfInBounds_toArray, List.set_cons_zero, List.set_cons_succ, List.getElem_toArray, List.getElem_cons_zero, List.getElem_cons_succ]
          refine wpAnyH_take (i := 11) (v := ?_) rfl (by kernel_rfl) (by kernel_rfl) (by kernel_rfl) (fun _ _ _ h => h) (Or.inl ⟨by rfl, ?_⟩) hHeld ?_
          rotate_left
          · intro wq hSq; (try dsimp only at hSq); go_simp; try with_reducible rfl
          try simp only [Act.put, List.setIfInBounds_toArray, List.set_cons_zero, List.set_cons_succ, List.getElem_toArray, List.getElem_cons_zero, List.getElem_cons_succ]
          refine wpAnyH_take (i := 12) (v := ?_) rfl (by kernel_rfl) (by kernel_rfl) (by kernel_rfl) (fun _ _ _ h => h) (Or.inl ⟨by rfl, ?_⟩) hHeld ?_
          rotate_left
          · intro wq hSq; (try dsimp only at hSq); go_simp; try with_reducible rfl
          try simp only [Act.put, List.setIfInBounds_toArray, List.set_cons_zero, List.set_cons_succ, List.getElem_toArray, List.getElem_cons_zero, List.getElem_cons_succ]
          refine wpAnyH_ready (rs := [13]) (by kernel_rfl) (by simp) ?_
          refine AllReadyH.cons rfl (fun K hK => ?_) AllReadyH.nil
          go_simp; try with_reducible rfl
          go_at_call 8
          (refine (KMB.out _ T3.out).mono ?_
           rintro e t4w ⟨rfl, hbT4⟩
           have T4 := Lib.hid (T3.out.go hbT4)
           clear hbT4
           dsimp only)
          refine hK.out _ _ ?_ (fun hHeld => ?_)
          · exact T4.out.facts
          clear hK K
          try simp only [Act.put, List.setIfInBounds_toArray, List.set_cons_zero, List.set_cons_succ, List.getElem_toArray, List.getElem_cons_zero, List.getElem_cons_succ]
          refine wpAnyH_take (i := 14) (v := ?_) rfl (by kernel_rfl) (by kernel_rfl) (by kernel_rfl) (fun _ _ _ h => h) (Or.inl ⟨by rfl, ?_⟩) hHeld ?_
          rotate_left
          · intro wq hSq; (try dsimp only at hSq); go_simp; try with_reducible rfl
          try simp only [Act.put, List.setIfInBounds_toArray, List.set_cons_zero, List.set_cons_succ, List.getElem_toArray, List.getElem_cons_zero, List.getElem_cons_succ]
          refine wpAnyH_take (i := 15) (v := ?_) rfl (by kernel_rfl) (by kernel_rfl) (by kernel_rfl) (fun _ _ _ h => h) (Or.inl ⟨by rfl, ?_⟩) hHeld ?_
          rotate_left
          · intro wq hSq; (try dsimp only at hSq); go_simp; try with_reducible rfl
          try simp only [Act.put, List.setIfInBounds_toArray, List.set_cons_zero, List.set_cons_succ, List.getElem_toArray, List.getElem_cons_zero, List.getElem_cons_succ]
          refine wpAnyH_done (by kernel_rfl) ?_ _
          refine NoPanic.normal ?_
          all_goals (go_wp2_with fail; go_meet; exact ⟨by rw [HBB.out]; rw [HZ.out]; rfl, T4.out⟩)
  case rest =>
    clear KHA KHB KMA KMB T0 hs1 HS1
    obtain ⟨rfl, T⟩ := hcut
    cases bb with
    | true =>
      go_wp2_with (go_at_call 9; refine (HAW.out _).mono ?_; rintro e w2 ⟨rfl, hb2⟩)
      go_ret
      exact ⟨rfl, T.out.low.trans (hb2.mono T.out.low.size)⟩
    | false =>
      have hall : ¬ 0 < s1 ∧ ea = 0 ∧ eb_ = 0 := by
        have h := HBB.out.symm
        simp only [Bool.or_eq_false_iff, decide_eq_false_iff_not, Decidable.not_not, ne_eq] at h
        exact h
      obtain ⟨_, rfl, rfl⟩ := hall
      clear HBB
      have KB1 := Lib.hid (F3C.bytes_ok (b := a) (StrsAt.below H1.out T.out.low (Nat.le_refl _)) (MsgsAt.below H2.out T.out.low (Nat.le_refl _)) HWA.out HMA.out T.out.low.size HEA.out.symm)
      obtain ⟨a0, a1, a2, a3, a4, a5, b0, b1, b2, b3, b4, b5⟩ := T.out.facts
      go_upto_region 4 with (go_at_call 10; go_loud (
         refine KB1.out.mono ?_
         rintro e w3 ⟨A3, n3, c3, rfl, hc3, hx3, hb3⟩
         have T3 := Lib.hid (T.out.go hb3)
         have X3 := Lib.hid hx3
         have hl3 := F3C.e3_len HEA.out.symm
         rw [hx3.1] at hl3
         clear hb3 hx3 a0 a1 a2 a3 a4 a5 b0 b1 b2 b3 b4 b5))
      clear KB1 T
      have KB2 := Lib.hid (F3C.bytes_ok (b := b) (StrsAt.below H3.out T3.out.low (Nat.le_refl _)) (MsgsAt.below H4.out T3.out.low (Nat.le_refl _)) HWB.out HMB.out T3.out.low.size HEB.out.symm)
      obtain ⟨a0, a1, a2, a3, a4, a5, b0, b1, b2, b3, b4, b5⟩ := T3.out.facts
      go_upto_region 5 with (go_at_call 10; go_loud (
         refine KB2.out.mono ?_
         rintro e w4 ⟨A4, n4, c4, rfl, hc4, hx4, hb4⟩
         have T4 := Lib.hid (T3.out.go hb4)
         have X4 := Lib.hid (BytesAt.below X3.out hb4 (Nat.le_refl _))
         have Y4 := Lib.hid hx4
         have hs34 := hb4.size
         clear hb4 hx4 a0 a1 a2 a3 a4 a5 b0 b1 b2 b3 b4 b5))
      clear KB2 T3 X3
      have kp := (F3Y.parse_any (cp := c3) (id := a.id) X4.out (by omega) hc3 (by omega)).mono (fun _ _ => ParseNew.out)
      rw [parse3_good HEA.out.symm] at kp
      have KP := Lib.hid (kp.mono (R' := fun e w' => ∃ A5 k5 B5 j5, e = .returned (.tuple #[.agg #[.string a.id, .int .i64 a.valid, .int .i64 a.next, .int .i64 a.high, .slice A5 wn k5, .slice B5 mn j5], .int .i64 0]) ∧ wn ≤ k5 ∧ mn ≤ j5 ∧ StrsAt w' w'.heap.size A5 wn a.words ∧ MsgsAt w' w'.heap.size B5 mn a.msgs ∧ Below w4.heap.size w4 w') (by
        rintro e w' ⟨WA', k, wc', MA', mn', mc', rfl, h1, h2, h3, h4, h5⟩
        have e1 : k = wn := h3.len.symm.trans H1.out.len
        have e2 : mn' = mn := h4.len.symm.trans H2.out.len
        subst e1 e2
        exact ⟨WA', wc', MA', mc', rfl, h1, h2, h3, h4, h5⟩))
      clear kp
      obtain ⟨a0, a1, a2, a3, a4, a5, b0, b1, b2, b3, b4, b5⟩ := T4.out.facts
      go_upto_region 6 with (go_at_call 11; go_loud (
         refine KP.out.mono ?_
         rintro e w5 ⟨A5, k5, B5, j5, rfl, hk5, hj5, hw5, hm5, hb5⟩
         have T5 := Lib.hid (T4.out.go hb5)
         have X5 := Lib.hid (BytesAt.below X4.out hb5 hs34)
         have Y5 := Lib.hid (BytesAt.below Y4.out hb5 (Nat.le_refl _))
         have W5 := Lib.hid hw5
         have M5 := Lib.hid hm5
         have hs45 := hb5.size
         clear hb5 hw5 hm5 a0 a1 a2 a3 a4 a5 b0 b1 b2 b3 b4 b5))
      clear KP T4 X4 Y4
      have Z6 := Lib.hid ((Below.refl w5.heap.size w5).alloc (Nat.le_refl _) (.cells #[.string a.id, .int .i64 a.valid, .int .i64 a.next, .int .i64 a.high, .slice A5 wn k5, .slice B5 mn j5] 25))
      have C6 := Lib.hid (heap_alloc_new w5 (.cells #[.string a.id, .int .i64 a.valid, .int .i64 a.next, .int .i64 a.high, .slice A5 wn k5, .slice B5 mn j5] 25))
      obtain ⟨L6, hL6⟩ : ∃ L6, L6 = w5.heap.size := ⟨_, rfl⟩
      rw [← hL6] at C6 ⊢
      have HL6 := Lib.hid hL6
      clear hL6
      generalize (World.alloc w5 _) = w8 at Z6 C6 ⊢
      have T8 := Lib.hid (T5.out.go Z6.out)
      have hs58 := Z6.out.size
      have h6 := (Array.getElem?_eq_some_iff.1 C6.out).1
      obtain ⟨X, hX⟩ : ∃ X : ByteArray, X = ⟨(e3 a).toArray⟩ := ⟨_, rfl⟩
      obtain ⟨Y, hY⟩ : ∃ Y : ByteArray, Y = ⟨(e3 b).toArray⟩ := ⟨_, rfl⟩
      have hq := back_eq HEA.out.symm HEB.out.symm hX hY
      have HXX := Lib.hid hX
      have HYY := Lib.hid hY
      have hq2 : eqX a a = true := by unfold eqX; exact decide_eq_true rfl
      have FB := Lib.hid (fun (wr : World) (hb : Below w8.heap.size w8 wr) => show ((convert 30 9 (.slice A3 n3 c3)).run Try.prog wr = .ok (.string X) wr ∧ (convert 30 9 (.slice A4 n4 c4)).run Try.prog wr = .ok (.string Y) wr ∧ wr.cell? { block := L6, off := 0 } = some (.string a.id) ∧ wr.cell? { block := L6, off := 1 } = some (.int .i64 a.valid) ∧ wr.cell? { block := L6, off := 2 } = some (.int .i64 a.next) ∧ wr.cell? { block := L6, off := 3 } = some (.int .i64 a.high) ∧ wr.cell? { block := L6, off := 4 } = some (.slice A5 wn k5) ∧ wr.cell? { block := L6, off := 5 } = some (.slice B5 mn j5) ∧ wr.cell? { block := w.heap.size, off := 0 } = some (.string a.id) ∧ wr.cell? { block := w.heap.size, off := 1 } = some (.int .i64 a.valid) ∧ wr.cell? { block := w.heap.size, off := 2 } = some (.int .i64 a.next) ∧ wr.cell? { block := w.heap.size, off := 3 } = some (.int .i64 a.high) ∧ wr.cell? { block := w.heap.size, off := 4 } = some (.slice WA wn wcp) ∧ wr.cell? { block := w.heap.size, off := 5 } = some (.slice MA mn mcp) ∧ wr.cell? { block := w.heap.size + 1, off := 0 } = some (.string b.id) ∧ wr.cell? { block := w.heap.size + 1, off := 1 } = some (.int .i64 b.valid) ∧ wr.cell? { block := w.heap.size + 1, off := 2 } = some (.int .i64 b.next) ∧ wr.cell? { block := w.heap.size + 1, off := 3 } = some (.int .i64 b.high) ∧ wr.cell? { block := w.heap.size + 1, off := 4 } = some (.slice WB vn vcp) ∧ wr.cell? { block := w.heap.size + 1, off := 5 } = some (.slice MB un ucp)) from by
        have hb5 : Below w5.heap.size w5 wr := Z6.out.trans (hb.mono Z6.out.size)
        have c := fun o => cell_of_row wr L6 o _ _ _ ((hb.block L6 h6).trans C6.out)
        refine ⟨?_, ?_, (c 0).trans rfl, (c 1).trans rfl, (c 2).trans rfl, (c 3).trans rfl, (c 4).trans rfl, (c 5).trans rfl, (T8.out.go hb).facts⟩
        · rw [HXX.out]; exact (BytesAt.below X5.out hb5 (by omega)).conv c3
        · rw [HYY.out]; exact (BytesAt.below Y5.out hb5 hs45).conv c4)
      have KS1 := Lib.hid (fun (wr : World) (hb : Below w8.heap.size w8 wr) => show Calls Try.prog 12 #[.agg #[.string a.id, .int .i64 a.valid, .int .i64 a.next, .int .i64 a.high, .slice WA wn wcp, .slice MA mn mcp], .agg #[.string a.id, .int .i64 a.valid, .int .i64 a.next, .int .i64 a.high, .slice A5 wn k5, .slice B5 mn j5]] wr fun e w' => e = .returned (.bool (eqX a a)) ∧ Below wr.heap.size wr w' from by
        have hb5 : Below w5.heap.size w5 wr := Z6.out.trans (hb.mono Z6.out.size)
        have t8 := (T8.out.go hb).low
        exact BxX.refSame_any (StrsAt.below H1.out t8 (Nat.le_refl _)) (MsgsAt.below H2.out t8 (Nat.le_refl _)) (StrsAt.below W5.out hb5 (Nat.le_refl _)) (MsgsAt.below M5.out hb5 (Nat.le_refl _)) t8.size t8.size hb5.size hb5.size)
      have KS2 := Lib.hid (fun (wr : World) (hb : Below w8.heap.size w8 wr) => show Calls Try.prog 12 #[.agg #[.string a.id, .int .i64 a.valid, .int .i64 a.next, .int .i64 a.high, .slice WA wn wcp, .slice MA mn mcp], .agg #[.string b.id, .int .i64 b.valid, .int .i64 b.next, .int .i64 b.high, .slice WB vn vcp, .slice MB un ucp]] wr fun e w' => e = .returned (.bool (eqX a b)) ∧ Below wr.heap.size wr w' from by
        have t8 := (T8.out.go hb).low
        exact BxX.refSame_any (StrsAt.below H1.out t8 (Nat.le_refl _)) (MsgsAt.below H2.out t8 (Nat.le_refl _)) (StrsAt.below H3.out t8 (Nat.le_refl _)) (MsgsAt.below H4.out t8 (Nat.le_refl _)) t8.size t8.size t8.size t8.size)
      rw [hq2] at KS1
      clear hX hY C6 Z6 T5 hq2
      have hF0 := FB.out w8.drew (Below.drew (Below.refl _ _))
      go_region_held3 (fun wr => (convert 30 9 (.slice A3 n3 c3)).run Try.prog wr = .ok (.string X) wr ∧ (convert 30 9 (.slice A4 n4 c4)).run Try.prog wr = .ok (.string Y) wr ∧ wr.cell? { block := L6, off := 0 } = some (.string a.id) ∧ wr.cell? { block := L6, off := 1 } = some (.int .i64 a.valid) ∧ wr.cell? { block := L6, off := 2 } = some (.int .i64 a.next) ∧ wr.cell? { block := L6, off := 3 } = some (.int .i64 a.high) ∧ wr.cell? { block := L6, off := 4 } = some (.slice A5 wn k5) ∧ wr.cell? { block := L6, off := 5 } = some (.slice B5 mn j5) ∧ wr.cell? { block := w.heap.size, off := 0 } = some (.string a.id) ∧ wr.cell? { block := w.heap.size, off := 1 } = some (.int .i64 a.valid) ∧ wr.cell? { block := w.heap.size, off := 2 } = some (.int .i64 a.next) ∧ wr.cell? { block := w.heap.size, off := 3 } = some (.int .i64 a.high) ∧ wr.cell? { block := w.heap.size, off := 4 } = some (.slice WA wn wcp) ∧ wr.cell? { block := w.heap.size, off := 5 } = some (.slice MA mn mcp) ∧ wr.cell? { block := w.heap.size + 1, off := 0 } = some (.string b.id) ∧ wr.cell? { block := w.heap.size + 1, off := 1 } = some (.int .i64 b.valid) ∧ wr.cell? { block := w.heap.size + 1, off := 2 } = some (.int .i64 b.next) ∧ wr.cell? { block := w.heap.size + 1, off := 3 } = some (.int .i64 b.high) ∧ wr.cell? { block := w.heap.size + 1, off := 4 } = some (.slice WB vn vcp) ∧ wr.cell? { block := w.heap.size + 1, off := 5 } = some (.slice MB un ucp)) (with_reducible first | exact hF0 | exact hF1 | exact hF2 | exact hF3 | go_keep) (first
        | (go_at_call 12
           ((with_reducible refine (KS1.out _ ?d1).mono ?_); rotate_left)
           case d1 => with_reducible first | exact (Below.refl _ _).drew | exact BxKit.below_drewN (Below.refl _ _) _
           go_loud (
           rintro e w9 ⟨rfl, hb9⟩
           have Z9 := Lib.hid (show Below w8.heap.size w8 w9 from (Below.drew (Below.refl _ _)).trans hb9)
           have hF1 := FB.out w9 Z9.out
           clear hb9
           dsimp only))
        | (go_at_call 12
           ((with_reducible refine (KS2.out _ ?d1).mono ?_); rotate_left)
           case d1 => with_reducible exact Z9.out
           go_loud (
           rintro e w10 ⟨rfl, hb10⟩
           have Z10 := Lib.hid (Z9.out.trans (hb10.mono Z9.out.size))
           have hF2 := FB.out w10 Z10.out
           clear hb10
           dsimp only))
        | (go_at_call 9
           go_loud (
           refine (HAW.out _).mono ?_
           rintro e w11 ⟨rfl, hb11⟩
           have Z11 := Lib.hid (Z10.out.trans (hb11.mono Z10.out.size))
           have hF3 := FB.out w11 Z11.out
           clear hb11
           dsimp only)))
      all_goals
        go_wp2_with fail
        go_ret
        exact ⟨rfl, (T8.out.go Z11.out).low⟩
end Go.Proofs.Ytdgcihgohkgecaa.F3Back
