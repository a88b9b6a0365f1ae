/-
  Form1Apart: two boxes have one form just if what the form knows is alike in both.
-/
import Derived.Test.YtfhdoecackdflaaDoorO1Aw
import Derived.Test.YtfhdoecackdflaaDoorO1Pj
import Derived.Test.YtfhdoecackdflaaDoorK7
import Derived.Test.YtfhdoecackdflaaDoorBxH
import Derived.Deep.CutBlock
import Derived.Deep.DeepCutAuto
import Derived.Deep.RegionHeld3
set_option linter.unusedVariables false
set_option linter.unusedSimpArgs false
namespace Go.Proofs.YtfhdoecackdflaaDoor.O1Apart
open Go.Proofs.YtfhdoecackdflaaDoor.PtK
open Go.RowKit Go.Proofs.YtfhdoecackdflaaDoor.BxD Go.Proofs.YtfhdoecackdflaaDoor.BxKit Go.Proofs.YtfhdoecackdflaaDoor.BxB Go.Proofs.YtfhdoecackdflaaDoor.BxH Go.Proofs.YtfhdoecackdflaaDoor.BxS Go.Proofs.YtfhdoecackdflaaDoor.OlD Go.Proofs.YtfhdoecackdflaaDoor.OlU Go.Proofs.YtfhdoecackdflaaDoor.OlY Go.Proofs.YtfhdoecackdflaaDoor.O1Pj
open Go.Proofs.YtfhdoecackdflaaDoor.PkKit (BytesAt)

/-- Two boxes, each in its block. -/
structure Two (w : World) (oa ob : Obj) (wr : World) : Prop where
  low : Below w.heap.size w wr
  a : wr.heap[w.heap.size]? = some oa
  b : wr.heap[w.heap.size + 1]? = some ob
section
variable {w wr w2 : World} {oa ob : Obj} {a0 a1 a2 a3 a4 a5 b0 b1 b2 b3 b4 b5 : Value} {t t' : TypeId}
theorem Two.size (h : Two w oa ob wr) : w.heap.size + 2 ≤ wr.heap.size := (Array.getElem?_eq_some_iff.1 h.b).1
theorem Two.go (h : Two w oa ob wr) (hb : Below wr.heap.size wr w2) : Two w oa ob w2 := by
  have := h.size
  exact ⟨h.low.trans (hb.mono h.low.size), (hb.block _ (by omega)).trans h.a, (hb.block _ (by omega)).trans h.b⟩
theorem Two.drew (h : Two w oa ob wr) : Two w oa ob wr.drew := h.go (Below.drew (Below.refl _ _))
theorem Two.alloc (h : Two w oa ob wr) (o : Obj) : Two w oa ob (wr.alloc o) := h.go ((Below.refl _ _).alloc (Nat.le_refl _) o)
theorem Two.start (w : World) (oa ob : Obj) : Two w oa ob ((w.alloc oa).alloc ob) := by
  refine ⟨((Below.refl _ _).alloc (Nat.le_refl _) _).alloc (by simp) _, (heap_alloc_old _ _ (by simp)).trans (heap_alloc_new w _), ?_⟩
  have := heap_alloc_new (w.alloc oa) ob
  simpa using this
theorem Two.facts (h : Two w (.cells #[a0, a1, a2, a3, a4, a5] t) (.cells #[b0, b1, b2, b3, b4, b5] t') wr) :
    wr.cell? { block := w.heap.size, off := 0 } = some a0 ∧ wr.cell? { block := w.heap.size, off := 1 } = some a1 ∧ wr.cell? { block := w.heap.size, off := 2 } = some a2 ∧ wr.cell? { block := w.heap.size, off := 3 } = some a3 ∧ wr.cell? { block := w.heap.size, off := 4 } = some a4 ∧ wr.cell? { block := w.heap.size, off := 5 } = some a5 ∧
    wr.cell? { block := w.heap.size + 1, off := 0 } = some b0 ∧ wr.cell? { block := w.heap.size + 1, off := 1 } = some b1 ∧ wr.cell? { block := w.heap.size + 1, off := 2 } = some b2 ∧ wr.cell? { block := w.heap.size + 1, off := 3 } = some b3 ∧ wr.cell? { block := w.heap.size + 1, off := 4 } = some b4 ∧ wr.cell? { block := w.heap.size + 1, off := 5 } = some b5 := by
  have c := fun o => cell_of_row wr _ o _ _ _ h.a
  have d := fun o => cell_of_row wr _ o _ _ _ h.b
  exact ⟨(c 0).trans rfl, (c 1).trans rfl, (c 2).trans rfl, (c 3).trans rfl, (c 4).trans rfl, (c 5).trans rfl, (d 0).trans rfl, (d 1).trans rfl, (d 2).trans rfl, (d 3).trans rfl, (d 4).trans rfl, (d 5).trans rfl⟩
end
theorem id_eq (x y : ByteArray) : (x.toList == y.toList) = decide (x = y) := by
  rw [← beq_toListBytes, Bool.eq_iff_iff]
  simp
theorem apart_eq {a b : Box} (ha : mbE a = 0) (hb : mbE b = 0) (hi : a.id = b.id) {X Y : ByteArray} (hX : X = ⟨(eb false a).toArray⟩) (hY : Y = ⟨(eb false b).toArray⟩) : ((X.toList == Y.toList) == eqX (pb false a) (pb false b)) = true := by
  have h1 : (X.toList == Y.toList) = decide (eb false a = eb false b) := by rw [← beq_toListBytes, hX, hY]; exact PtK.text_eq
  have h2 : eqX (pb false a) (pb false b) = decide (eb false a = eb false b) := by
    unfold eqX
    exact decide_eq_decide.2 (OlP.eb_inj (cg := false) ha hb hi).symm
  rw [h1, h2]
  simp
set_option maxHeartbeats 4000000 in
set_option maxRecDepth 100000 in
theorem walk {a b : Box} {WA MA WB MB : Option Addr} {wn wcp mn mcp vn vcp un ucp : Nat} {w : World} (ht : BxO.Tab w) (h1 : StrsAt w w.heap.size WA wn a.words) (h2 : MsgsAt w w.heap.size MA mn a.msgs) (h3 : StrsAt w w.heap.size WB vn b.words) (h4 : MsgsAt w w.heap.size MB un b.msgs)
    (hwa : wn ≤ wcp) (hma : mn ≤ mcp) (hwb : vn ≤ vcp) (hmb : un ≤ ucp) (z1 : a.id.size ≤ 140737488355328) (z2 : b.id.size ≤ 140737488355328) :
    Calls Tryd.prog 6 #[.agg #[.string a.id, .int .i64 a.valid, .int .i64 a.next, .int .i64 a.high, .slice WA wn wcp, .slice MA mn mcp], .agg #[.string b.id, .int .i64 b.valid, .int .i64 b.next, .int .i64 b.high, .slice WB vn vcp, .slice MB un ucp]] w fun e w' => e = .returned (.bool true) ∧ Below w.heap.size w w' := by
  have KHA := Lib.hid (fun (wr : World) (h : Two w (.cells #[.string a.id, .int .i64 a.valid, .int .i64 a.next, .int .i64 a.high, .slice WA wn wcp, .slice MA mn mcp] 25) (.cells #[.string b.id, .int .i64 b.valid, .int .i64 b.next, .int .i64 b.high, .slice WB vn vcp, .slice MB un ucp] 25) wr) => heavy_any (bid := a.id) (bv := a.valid) (bn := a.next) (bh := a.high) (wc := wcp) (mc := mcp) (StrsAt.below h1 h.low (Nat.le_refl _)) (MsgsAt.below h2 h.low (Nat.le_refl _)) h.low.size h.low.size z1)
  have KHB := Lib.hid (fun (wr : World) (h : Two w (.cells #[.string a.id, .int .i64 a.valid, .int .i64 a.next, .int .i64 a.high, .slice WA wn wcp, .slice MA mn mcp] 25) (.cells #[.string b.id, .int .i64 b.valid, .int .i64 b.next, .int .i64 b.high, .slice WB vn vcp, .slice MB un ucp] 25) wr) => heavy_any (bid := b.id) (bv := b.valid) (bn := b.next) (bh := b.high) (wc := vcp) (mc := ucp) (StrsAt.below h3 h.low (Nat.le_refl _)) (MsgsAt.below h4 h.low (Nat.le_refl _)) h.low.size h.low.size z2)
  have KMA := Lib.hid (fun (wr : World) (h : Two w (.cells #[.string a.id, .int .i64 a.valid, .int .i64 a.next, .int .i64 a.high, .slice WA wn wcp, .slice MA mn mcp] 25) (.cells #[.string b.id, .int .i64 b.valid, .int .i64 b.next, .int .i64 b.high, .slice WB vn vcp, .slice MB un ucp] 25) wr) => show Calls Tryd.prog 18 #[.agg #[.string a.id, .int .i64 a.valid, .int .i64 a.next, .int .i64 a.high, .slice WA wn wcp, .slice MA mn mcp]] wr fun e w' => e = .returned (.int .i64 (mbE a)) ∧ Below wr.heap.size wr w' from ref_may (bid := a.id) (bv := a.valid) (bn := a.next) (bh := a.high) (wc := wcp) (mc := mcp) (StrsAt.below h1 h.low (Nat.le_refl _)) (MsgsAt.below h2 h.low (Nat.le_refl _)) h.low.size hwa)
  have KMB := Lib.hid (fun (wr : World) (h : Two w (.cells #[.string a.id, .int .i64 a.valid, .int .i64 a.next, .int .i64 a.high, .slice WA wn wcp, .slice MA mn mcp] 25) (.cells #[.string b.id, .int .i64 b.valid, .int .i64 b.next, .int .i64 b.high, .slice WB vn vcp, .slice MB un ucp] 25) wr) => show Calls Tryd.prog 18 #[.agg #[.string b.id, .int .i64 b.valid, .int .i64 b.next, .int .i64 b.high, .slice WB vn vcp, .slice MB un ucp]] wr fun e w' => e = .returned (.int .i64 (mbE b)) ∧ Below wr.heap.size wr w' from ref_may (bid := b.id) (bv := b.valid) (bn := b.next) (bh := b.high) (wc := vcp) (mc := ucp) (StrsAt.below h3 h.low (Nat.le_refl _)) (MsgsAt.below h4 h.low (Nat.le_refl _)) h.low.size hwb)
  have HAW := Lib.hid (fun (wr : World) => O1Aw.awake wr)
  have T0 := Lib.hid (Two.start w (.cells #[.string a.id, .int .i64 a.valid, .int .i64 a.next, .int .i64 a.high, .slice WA wn wcp, .slice MA mn mcp] 25) (.cells #[.string b.id, .int .i64 b.valid, .int .i64 b.next, .int .i64 b.high, .slice WB vn vcp, .slice MB un ucp] 25))
  have H1 := Lib.hid h1
  have H2 := Lib.hid h2
  have H3 := Lib.hid h3
  have H4 := Lib.hid h4
  have HT := Lib.hid ht
  have HWA := Lib.hid hwa
  have HMA := Lib.hid hma
  have HWB := Lib.hid hwb
  have HMB := Lib.hid hmb
  have hA := hv_or a.id a.words a.msgs
  have hB := hv_or b.id b.words b.msgs
  have hA1 : hv a.id a.words a.msgs = 1 ∨ hv a.id a.words a.msgs = 0 := by rcases hA with h | h; exact .inl h; exact .inr h.1
  have hB1 : hv b.id b.words b.msgs = 1 ∨ hv b.id b.words b.msgs = 0 := by rcases hB with h | h; exact .inl h; exact .inr h.1
  obtain ⟨nA, hnA⟩ : ∃ nA, nA = hv a.id a.words a.msgs := ⟨_, rfl⟩
  obtain ⟨nB, hnB⟩ : ∃ nB, nB = hv b.id b.words b.msgs := ⟨_, rfl⟩
  obtain ⟨ea, hea⟩ : ∃ ea, ea = mbE a := ⟨_, rfl⟩
  obtain ⟨eb_, heb⟩ : ∃ eb_, eb_ = mbE b := ⟨_, rfl⟩
  simp only [← hnA] at KHA hA1
  simp only [← hnB] at KHB hB1
  simp only [← hea] at KMA
  simp only [← heb] at KMB
  obtain ⟨s1, hs1⟩ : ∃ s1, IntKind.i64.wrap (nA + nB) = s1 := ⟨_, rfl⟩
  have HS1 := Lib.hid (show s1 = nA + nB from by rw [← hs1]; exact IntWalk.i64_in _ (by omega))
  have HEA := Lib.hid hea
  have HEB := Lib.hid heb
  obtain ⟨bb, hbb⟩ : ∃ bb, bb = (decide (0 < s1) || (decide (ea ≠ 0) || (decide (eb_ ≠ 0) || decide (a.id ≠ b.id)))) := ⟨_, rfl⟩
  have HBB := Lib.hid hbb
  clear h1 h2 h3 h4 ht hwa hma hwb hmb hA hB hA1 hB1 hnA hnB hea heb hbb
  go_enter Tryd.func6, Tryd.ntmps6
  go_upto_region 1 with fail
  generalize (World.alloc (World.alloc w _) _) = w0 at T0 ⊢
  go_cut [35] (fun s35 wx => s35 = .bool bb ∧ Hid (Two w (.cells #[.string a.id, .int .i64 a.valid, .int .i64 a.next, .int .i64 a.high, .slice WA wn wcp, .slice MA mn mcp] 25) (.cells #[.string b.id, .int .i64 b.valid, .int .i64 b.next, .int .i64 b.high, .slice WB vn vcp, .slice MB un ucp] 25) wx))
  case first =>
    have hST0 := T0.out.facts
    obtain ⟨a0, a1, a2, a3, a4, a5, b0, b1, b2, b3, b4, b5⟩ := T0.out.facts
    cases hg : decide (0 < s1) with
    | true =>
      have HZ := Lib.hid hg
      refine wp_region_noPanic ?_
      refine wp_region_held_drew (S := fun wr => wr.cell? { block := w.heap.size, off := 0 } = some (.string a.id) ∧ wr.cell? { block := w.heap.size, off := 1 } = some (.int .i64 a.valid) ∧ wr.cell? { block := w.heap.size, off := 2 } = some (.int .i64 a.next) ∧ wr.cell? { block := w.heap.size, off := 3 } = some (.int .i64 a.high) ∧ wr.cell? { block := w.heap.size, off := 4 } = some (.slice WA wn wcp) ∧ wr.cell? { block := w.heap.size, off := 5 } = some (.slice MA mn mcp) ∧ wr.cell? { block := w.heap.size + 1, off := 0 } = some (.string b.id) ∧ wr.cell? { block := w.heap.size + 1, off := 1 } = some (.int .i64 b.valid) ∧ wr.cell? { block := w.heap.size + 1, off := 2 } = some (.int .i64 b.next) ∧ wr.cell? { block := w.heap.size + 1, off := 3 } = some (.int .i64 b.high) ∧ wr.cell? { block := w.heap.size + 1, off := 4 } = some (.slice WB vn vcp) ∧ wr.cell? { block := w.heap.size + 1, off := 5 } = some (.slice MB un ucp)) (by kernel_rfl) ?_ (fun hHeld => ?_)
      · exact T0.out.drew.facts
      refine wpAnyH_take (i := 0) (v := ?_) rfl (by kernel_rfl) (by kernel_rfl) (by kernel_rfl) (fun _ _ _ h => h) (Or.inl ⟨by rfl, ?_⟩) hHeld ?_
      rotate_left
      · intro wq hSq; (try dsimp only at hSq); go_simp; try with_reducible rfl
      try simp only [Act.put, List.setIfInBounds_toArray, List.set_cons_zero, List.set_cons_succ, List.getElem_toArray, List.getElem_cons_zero, List.getElem_cons_succ]
      refine wpAnyH_take (i := 2) (v := ?_) rfl (by kernel_rfl) (by kernel_rfl) (by kernel_rfl) (fun _ _ _ h => h) (Or.inl ⟨by rfl, ?_⟩) hHeld ?_
      rotate_left
      · intro wq hSq; (try dsimp only at hSq); go_simp; try with_reducible rfl
      try simp only [Act.put, List.setIfInBounds_toArray, List.set_cons_zero, List.set_cons_succ, List.getElem_toArray, List.getElem_cons_zero, List.getElem_cons_succ]
      refine wpAnyH_ready (rs := [1]) (by kernel_rfl) (by simp) ?_
      refine AllReadyH.cons rfl (fun K hK => ?_) AllReadyH.nil
      go_simp; try with_reducible rfl
      go_at_call 11
      (refine (KHA.out _ T0.out.drew).mono ?_
       rintro e t1w ⟨rfl, hbT1⟩
       have T1 := Lib.hid (T0.out.drew.go hbT1)
       clear hbT1
       dsimp only)
      refine hK.out _ _ ?_ (fun hHeld => ?_)
      · exact T1.out.facts
      clear hK K
      try simp only [Act.put, List.setIfInBounds_toArray, List.set_cons_zero, List.set_cons_succ, List.getElem_toArray, List.getElem_cons_zero, List.getElem_cons_succ]
      refine wpAnyH_ready (rs := [3]) (by kernel_rfl) (by simp) ?_
      refine AllReadyH.cons rfl (fun K hK => ?_) AllReadyH.nil
      go_simp; try with_reducible rfl
      go_at_call 11
      (refine (KHB.out _ T1.out).mono ?_
       rintro e t2w ⟨rfl, hbT2⟩
       have T2 := Lib.hid (T1.out.go hbT2)
       clear hbT2
       dsimp only)
      refine hK.out _ _ ?_ (fun hHeld => ?_)
      · exact T2.out.facts
      clear hK K
      try simp only [Act.put, List.setIfInBounds_toArray, List.set_cons_zero, List.set_cons_succ, List.getElem_toArray, List.getElem_cons_zero, List.getElem_cons_succ]
      refine wpAnyH_take (i := 4) (v := ?_) rfl (by kernel_rfl) (by kernel_rfl) (by kernel_rfl) (fun _ _ _ h => h) (Or.inl ⟨by rfl, ?_⟩) hHeld ?_
      rotate_left
      · intro wq hSq; (try dsimp only at hSq); go_simp; try with_reducible rfl
      try simp only [Act.put, List.setIfInBounds_toArray, List.set_cons_zero, List.set_cons_succ, List.getElem_toArray, List.getElem_cons_zero, List.getElem_cons_succ]
      refine wpAnyH_take (i := 5) (v := ?_) rfl (by kernel_rfl) (by kernel_rfl) (by kernel_rfl) (fun _ _ _ h => h) (Or.inl ⟨by rfl, ?_⟩) hHeld ?_
      rotate_left
      · intro wq hSq; (try dsimp only at hSq); go_simp; try with_reducible rfl
      try simp only [Act.put, List.setIfInBounds_toArray, List.set_cons_zero, List.set_cons_succ, List.getElem_toArray, List.getElem_cons_zero, List.getElem_cons_succ]
      refine wpAnyH_take (i := 6) (v := ?_) rfl (by kernel_rfl) (by kernel_rfl) (by kernel_rfl) (fun _ _ _ h => h) (Or.inl ⟨by rfl, ?_⟩) hHeld ?_
      rotate_left
      · intro wq hSq; (try dsimp only at hSq); go_simp; try with_reducible rfl
      try simp only [Act.put, List.setIfInBounds_toArray, List.set_cons_zero, List.set_cons_succ, List.getElem_toArray, List.getElem_cons_zero, List.getElem_cons_succ]
      refine wpAnyH_take (i := 7) (v := undef) rfl (by kernel_rfl) (by kernel_rfl) (by kernel_rfl) (fun _ _ _ h => h) (Or.inr ⟨by rfl, rfl⟩) hHeld ?_
      try simp only [Act.put, List.setIfInBounds_toArray, List.set_cons_zero, List.set_cons_succ, List.getElem_toArray, List.getElem_cons_zero, List.getElem_cons_succ]
      refine wpAnyH_ready (rs := [8]) (by kernel_rfl) (by simp) ?_
      refine AllReadyH.cons rfl (fun K hK => ?_) AllReadyH.nil
      go_simp; try with_reducible rfl
      refine hK.out _ _ ?_ (fun hHeld => ?_)
      · exact T2.out.facts
      clear hK K
      try simp only [Act.put, List.setIfInBounds_toArray, List.set_cons_zero, List.set_cons_succ, List.getElem_toArray, List.getElem_cons_zero, List.getElem_cons_succ]
      refine wpAnyH_take (i := 9) (v := undef) rfl (by kernel_rfl) (by kernel_rfl) (by kernel_rfl) (fun _ _ _ h => h) (Or.inr ⟨by rfl, rfl⟩) hHeld ?_
      try simp only [Act.put, List.setIfInBounds_toArray, List.set_cons_zero, List.set_cons_succ, List.getElem_toArray, List.getElem_cons_zero, List.getElem_cons_succ]
      refine wpAnyH_take (i := 10) (v := ?_) rfl (by kernel_rfl) (by kernel_rfl) (by kernel_rfl) (fun _ _ _ h => h) (Or.inl ⟨by rfl, ?_⟩) hHeld ?_
      rotate_left
      · intro wq hSq; (try dsimp only at hSq); go_simp; try with_reducible rfl
      try simp only [Act.put, List.setIfInBounds_toArray, List.set_cons_zero, List.set_cons_succ, List.getElem_toArray, List.getElem_cons_zero, List.getElem_cons_succ]
      refine wpAnyH_take (i := 11) (v := ?_) rfl (by kernel_rfl) (by kernel_rfl) (by kernel_rfl) (fun _ _ _ h => h) (Or.inl ⟨by rfl, ?_⟩) hHeld ?_
      rotate_left
      · intro wq hSq; (try dsimp only at hSq); go_simp; try with_reducible rfl
      try simp only [Act.put, List.setIfInBounds_toArray, List.set_cons_zero, List.set_cons_succ, List.getElem_toArray, List.getElem_cons_zero, List.getElem_cons_succ]
      refine wpAnyH_take (i := 12) (v := undef) rfl (by kernel_rfl) (by kernel_rfl) (by kernel_rfl) (fun _ _ _ h => h) (Or.inr ⟨by rfl, rfl⟩) hHeld ?_
      try simp only [Act.put, List.setIfInBounds_toArray, List.set_cons_zero, List.set_cons_succ, List.getElem_toArray, List.getElem_cons_zero, List.getElem_cons_succ]
      refine wpAnyH_ready (rs := [13]) (by kernel_rfl) (by simp) ?_
      refine AllReadyH.cons rfl (fun K hK => ?_) AllReadyH.nil
      go_simp; try with_reducible rfl
      refine hK.out _ _ ?_ (fun hHeld => ?_)
      · exact T2.out.facts
      clear hK K
      try simp only [Act.put, List.setIfInBounds_toArray, List.set_cons_zero, List.set_cons_succ, List.getElem_toArray, List.getElem_cons_zero, List.getElem_cons_succ]
      refine wpAnyH_take (i := 14) (v := undef) rfl (by kernel_rfl) (by kernel_rfl) (by kernel_rfl) (fun _ _ _ h => h) (Or.inr ⟨by rfl, rfl⟩) hHeld ?_
      try simp only [Act.put, List.setIfInBounds_toArray, List.set_cons_zero, List.set_cons_succ, List.getElem_toArray, List.getElem_cons_zero, List.getElem_cons_succ]
      refine wpAnyH_take (i := 15) (v := ?_) rfl (by kernel_rfl) (by kernel_rfl) (by kernel_rfl) (fun _ _ _ h => h) (Or.inl ⟨by rfl, ?_⟩) hHeld ?_
      rotate_left
      · intro wq hSq; (try dsimp only at hSq); go_simp; try with_reducible rfl
      try simp only [Act.put, List.setIfInBounds_toArray, List.set_cons_zero, List.set_cons_succ, List.getElem_toArray, List.getElem_cons_zero, List.getElem_cons_succ]
      refine wpAnyH_take (i := 16) (v := ?_) rfl (by kernel_rfl) (by kernel_rfl) (by kernel_rfl) (fun _ _ _ h => h) (Or.inl ⟨by rfl, ?_⟩) hHeld ?_
      rotate_left
      · intro wq hSq; (try dsimp only at hSq); go_simp; try with_reducible rfl
      try simp only [Act.put, List.setIfInBounds_toArray, List.set_cons_zero, List.set_cons_succ, List.getElem_toArray, List.getElem_cons_zero, List.getElem_cons_succ]
      refine wpAnyH_take (i := 17) (v := undef) rfl (by kernel_rfl) (by kernel_rfl) (by kernel_rfl) (fun _ _ _ h => h) (Or.inr ⟨by rfl, rfl⟩) hHeld ?_
      try simp only [Act.put, List.setIfInBounds_toArray, List.set_cons_zero, List.set_cons_succ, List.getElem_toArray, List.getElem_cons_zero, List.getElem_cons_succ]
      refine wpAnyH_take (i := 18) (v := undef) rfl (by kernel_rfl) (by kernel_rfl) (by kernel_rfl) (fun _ _ _ h => h) (Or.inr ⟨by rfl, rfl⟩) hHeld ?_
      try simp only [Act.put, List.setIfInBounds_toArray, List.set_cons_zero, List.set_cons_succ, List.getElem_toArray, List.getElem_cons_zero, List.getElem_cons_succ]
      refine wpAnyH_take (i := 19) (v := undef) rfl (by kernel_rfl) (by kernel_rfl) (by kernel_rfl) (fun _ _ _ h => h) (Or.inr ⟨by rfl, rfl⟩) hHeld ?_
      try simp only [Act.put, List.setIfInBounds_toArray, List.set_cons_zero, List.set_cons_succ, List.getElem_toArray, List.getElem_cons_zero, List.getElem_cons_succ]
      refine wpAnyH_take (i := 20) (v := undef) rfl (by kernel_rfl) (by kernel_rfl) (by kernel_rfl) (fun _ _ _ h => h) (Or.inr ⟨by rfl, rfl⟩) hHeld ?_
      try simp only [Act.put, List.setIfInBounds_toArray, List.set_cons_zero, List.set_cons_succ, List.getElem_toArray, List.getElem_cons_zero, List.getElem_cons_succ]
      refine wpAnyH_take (i := 21) (v := undef) rfl (by kernel_rfl) (by kernel_rfl) (by kernel_rfl) (fun _ _ _ h => h) (Or.inr ⟨by rfl, rfl⟩) hHeld ?_
      try simp only [Act.put, List.setIfInBounds_toArray, List.set_cons_zero, List.set_cons_succ, List.getElem_toArray, List.getElem_cons_zero, List.getElem_cons_succ]
      refine wpAnyH_take (i := 22) (v := ?_) rfl (by kernel_rfl) (by kernel_rfl) (by kernel_rfl) (fun _ _ _ h => h) (Or.inl ⟨by rfl, ?_⟩) hHeld ?_
      rotate_left
      · intro wq hSq; (try dsimp only at hSq); go_simp; try with_reducible rfl
      try simp only [Act.put, List.setIfInBounds_toArray, List.set_cons_zero, List.set_cons_succ, List.getElem_toArray, List.getElem_cons_zero, List.getElem_cons_succ]
      refine wpAnyH_done (by kernel_rfl) ?_ _
      refine NoPanic.normal ?_
      all_goals (go_wp2_with fail; go_meet; exact ⟨by rw [HBB.out]; rw [HZ.out]; rfl, T2.out⟩)
    | false =>
      have HZ := Lib.hid hg
      by_cases he1 : ea = 0
      case neg =>
        have hne1 : (ea != 0) = true := by simpa using he1
        have HE1 := Lib.hid he1
        clear he1
        refine wp_region_noPanic ?_
        refine wp_region_held_drew (S := fun wr => wr.cell? { block := w.heap.size, off := 0 } = some (.string a.id) ∧ wr.cell? { block := w.heap.size, off := 1 } = some (.int .i64 a.valid) ∧ wr.cell? { block := w.heap.size, off := 2 } = some (.int .i64 a.next) ∧ wr.cell? { block := w.heap.size, off := 3 } = some (.int .i64 a.high) ∧ wr.cell? { block := w.heap.size, off := 4 } = some (.slice WA wn wcp) ∧ wr.cell? { block := w.heap.size, off := 5 } = some (.slice MA mn mcp) ∧ wr.cell? { block := w.heap.size + 1, off := 0 } = some (.string b.id) ∧ wr.cell? { block := w.heap.size + 1, off := 1 } = some (.int .i64 b.valid) ∧ wr.cell? { block := w.heap.size + 1, off := 2 } = some (.int .i64 b.next) ∧ wr.cell? { block := w.heap.size + 1, off := 3 } = some (.int .i64 b.high) ∧ wr.cell? { block := w.heap.size + 1, off := 4 } = some (.slice WB vn vcp) ∧ wr.cell? { block := w.heap.size + 1, off := 5 } = some (.slice MB un ucp)) (by kernel_rfl) ?_ (fun hHeld => ?_)
        · exact T0.out.drew.facts
        refine wpAnyH_take (i := 0) (v := ?_) rfl (by kernel_rfl) (by kernel_rfl) (by kernel_rfl) (fun _ _ _ h => h) (Or.inl ⟨by rfl, ?_⟩) hHeld ?_
        rotate_left
        · intro wq hSq; (try dsimp only at hSq); go_simp; try with_reducible rfl
        try simp only [Act.put, List.setIfInBounds_toArray, List.set_cons_zero, List.set_cons_succ, List.getElem_toArray, List.getElem_cons_zero, List.getElem_cons_succ]
        refine wpAnyH_take (i := 2) (v := ?_) rfl (by kernel_rfl) (by kernel_rfl) (by kernel_rfl) (fun _ _ _ h => h) (Or.inl ⟨by rfl, ?_⟩) hHeld ?_
        rotate_left
        · intro wq hSq; (try dsimp only at hSq); go_simp; try with_reducible rfl
        try simp only [Act.put, List.setIfInBounds_toArray, List.set_cons_zero, List.set_cons_succ, List.getElem_toArray, List.getElem_cons_zero, List.getElem_cons_succ]
        refine wpAnyH_ready (rs := [1]) (by kernel_rfl) (by simp) ?_
        refine AllReadyH.cons rfl (fun K hK => ?_) AllReadyH.nil
        go_simp; try with_reducible rfl
        go_at_call 11
        (refine (KHA.out _ T0.out.drew).mono ?_
         rintro e t1w ⟨rfl, hbT1⟩
         have T1 := Lib.hid (T0.out.drew.go hbT1)
         clear hbT1
         dsimp only)
        refine hK.out _ _ ?_ (fun hHeld => ?_)
        · exact T1.out.facts
        clear hK K
        try simp only [Act.put, List.setIfInBounds_toArray, List.set_cons_zero, List.set_cons_succ, List.getElem_toArray, List.getElem_cons_zero, List.getElem_cons_succ]
        refine wpAnyH_ready (rs := [3]) (by kernel_rfl) (by simp) ?_
        refine AllReadyH.cons rfl (fun K hK => ?_) AllReadyH.nil
        go_simp; try with_reducible rfl
        go_at_call 11
        (refine (KHB.out _ T1.out).mono ?_
         rintro e t2w ⟨rfl, hbT2⟩
         have T2 := Lib.hid (T1.out.go hbT2)
         clear hbT2
         dsimp only)
        refine hK.out _ _ ?_ (fun hHeld => ?_)
        · exact T2.out.facts
        clear hK K
        try simp only [Act.put, List.setIfInBounds_toArray, List.set_cons_zero, List.set_cons_succ, List.getElem_toArray, List.getElem_cons_zero, List.getElem_cons_succ]
        refine wpAnyH_take (i := 4) (v := ?_) rfl (by kernel_rfl) (by kernel_rfl) (by kernel_rfl) (fun _ _ _ h => h) (Or.inl ⟨by rfl, ?_⟩) hHeld ?_
        rotate_left
        · intro wq hSq; (try dsimp only at hSq); go_simp; try with_reducible rfl
        try simp only [Act.put, List.setIfInBounds_toArray, List.set_cons_zero, List.set_cons_succ, List.getElem_toArray, List.getElem_cons_zero, List.getElem_cons_succ]
        refine wpAnyH_take (i := 5) (v := ?_) rfl (by kernel_rfl) (by kernel_rfl) (by kernel_rfl) (fun _ _ _ h => h) (Or.inl ⟨by rfl, ?_⟩) hHeld ?_
        rotate_left
        · intro wq hSq; (try dsimp only at hSq); go_simp; try with_reducible rfl
        try simp only [Act.put, List.setIfInBounds_toArray, List.set_cons_zero, List.set_cons_succ, List.getElem_toArray, List.getElem_cons_zero, List.getElem_cons_succ]
        refine wpAnyH_take (i := 6) (v := ?_) rfl (by kernel_rfl) (by kernel_rfl) (by kernel_rfl) (fun _ _ _ h => h) (Or.inl ⟨by rfl, ?_⟩) hHeld ?_
        rotate_left
        · intro wq hSq; (try dsimp only at hSq); go_simp; try with_reducible rfl
        try simp only [Act.put, List.setIfInBounds_toArray, List.set_cons_zero, List.set_cons_succ, List.getElem_toArray, List.getElem_cons_zero, List.getElem_cons_succ]
        refine wpAnyH_take (i := 7) (v := ?_) rfl (by kernel_rfl) (by kernel_rfl) (by kernel_rfl) (fun _ _ _ h => h) (Or.inl ⟨by rfl, ?_⟩) hHeld ?_
        rotate_left
        · intro wq hSq; (try dsimp only at hSq); go_simp; try with_reducible rfl
        try simp only [Act.put, List.setIfInBounds_toArray, List.set_cons_zero, List.set_cons_succ, List.getElem_toArray, List.getElem_cons_zero, List.getElem_cons_succ]
        refine wpAnyH_ready (rs := [8]) (by kernel_rfl) (by simp) ?_
        refine AllReadyH.cons rfl (fun K hK => ?_) AllReadyH.nil
        go_simp; try with_reducible rfl
        go_at_call 18
        (refine (KMA.out _ T2.out).mono ?_
         rintro e t3w ⟨rfl, hbT3⟩
         have T3 := Lib.hid (T2.out.go hbT3)
         clear hbT3
         dsimp only)
        refine hK.out _ _ ?_ (fun hHeld => ?_)
        · exact T3.out.facts
        clear hK K
        try simp only [Act.put, List.setIfInBounds_toArray, List.set_cons_zero, List.set_cons_succ, List.getElem_toArray, List.getElem_cons_zero, List.getElem_cons_succ]
        refine wpAnyH_take (i := 9) (v := ?_) rfl (by kernel_rfl) (by kernel_rfl) (by kernel_rfl) (fun _ _ _ h => h) (Or.inl ⟨by rfl, ?_⟩) hHeld ?_
        rotate_left
        · intro wq hSq; (try dsimp only at hSq); go_simp; try with_reducible rfl
        try simp only [Act.put, List.setIfInBounds_toArray, List.set_cons_zero, List.set_cons_succ, List.getElem_toArray, List.getElem_cons_zero, List.getElem_cons_succ]
        refine wpAnyH_take (i := 10) (v := ?_) rfl (by kernel_rfl) (by kernel_rfl) (by kernel_rfl) (fun _ _ _ h => h) (Or.inl ⟨by rfl, ?_⟩) hHeld ?_
        rotate_left
        · intro wq hSq; (try dsimp only at hSq); go_simp; try with_reducible rfl
        try simp only [Act.put, List.setIfInBounds_toArray, List.set_cons_zero, List.set_cons_succ, List.getElem_toArray, List.getElem_cons_zero, List.getElem_cons_succ]
        refine wpAnyH_take (i := 11) (v := ?_) rfl (by kernel_rfl) (by kernel_rfl) (by kernel_rfl) (fun _ _ _ h => h) (Or.inl ⟨by rfl, ?_⟩) hHeld ?_
        rotate_left
        · intro wq hSq; (try dsimp only at hSq); go_simp; try with_reducible rfl
        try simp only [Act.put, List.setIfInBounds_toArray, List.set_cons_zero, List.set_cons_succ, List.getElem_toArray, List.getElem_cons_zero, List.getElem_cons_succ]
        refine wpAnyH_take (i := 12) (v := undef) rfl (by kernel_rfl) (by kernel_rfl) (by kernel_rfl) (fun _ _ _ h => h) (Or.inr ⟨by rfl, rfl⟩) hHeld ?_
        try simp only [Act.put, List.setIfInBounds_toArray, List.set_cons_zero, List.set_cons_succ, List.getElem_toArray, List.getElem_cons_zero, List.getElem_cons_succ]
        refine wpAnyH_ready (rs := [13]) (by kernel_rfl) (by simp) ?_
        refine AllReadyH.cons rfl (fun K hK => ?_) AllReadyH.nil
        go_simp; try with_reducible rfl
        refine hK.out _ _ ?_ (fun hHeld => ?_)
        · exact T3.out.facts
        clear hK K
        try simp only [Act.put, List.setIfInBounds_toArray, List.set_cons_zero, List.set_cons_succ, List.getElem_toArray, List.getElem_cons_zero, List.getElem_cons_succ]
        refine wpAnyH_take (i := 14) (v := undef) rfl (by kernel_rfl) (by kernel_rfl) (by kernel_rfl) (fun _ _ _ h => h) (Or.inr ⟨by rfl, rfl⟩) hHeld ?_
        try simp only [Act.put, List.setIfInBounds_toArray, List.set_cons_zero, List.set_cons_succ, List.getElem_toArray, List.getElem_cons_zero, List.getElem_cons_succ]
        refine wpAnyH_take (i := 15) (v := ?_) rfl (by kernel_rfl) (by kernel_rfl) (by kernel_rfl) (fun _ _ _ h => h) (Or.inl ⟨by rfl, ?_⟩) hHeld ?_
        rotate_left
        · intro wq hSq; (try dsimp only at hSq); go_simp; try with_reducible rfl
        try simp only [Act.put, List.setIfInBounds_toArray, List.set_cons_zero, List.set_cons_succ, List.getElem_toArray, List.getElem_cons_zero, List.getElem_cons_succ]
        refine wpAnyH_take (i := 16) (v := ?_) rfl (by kernel_rfl) (by kernel_rfl) (by kernel_rfl) (fun _ _ _ h => h) (Or.inl ⟨by rfl, ?_⟩) hHeld ?_
        rotate_left
        · intro wq hSq; (try dsimp only at hSq); go_simp; try with_reducible rfl
        try simp only [Act.put, List.setIfInBounds_toArray, List.set_cons_zero, List.set_cons_succ, List.getElem_toArray, List.getElem_cons_zero, List.getElem_cons_succ]
        refine wpAnyH_take (i := 17) (v := undef) rfl (by kernel_rfl) (by kernel_rfl) (by kernel_rfl) (fun _ _ _ h => h) (Or.inr ⟨by rfl, rfl⟩) hHeld ?_
        try simp only [Act.put, List.setIfInBounds_toArray, List.set_cons_zero, List.set_cons_succ, List.getElem_toArray, List.getElem_cons_zero, List.getElem_cons_succ]
        refine wpAnyH_take (i := 18) (v := undef) rfl (by kernel_rfl) (by kernel_rfl) (by kernel_rfl) (fun _ _ _ h => h) (Or.inr ⟨by rfl, rfl⟩) hHeld ?_
        try simp only [Act.put, List.setIfInBounds_toArray, List.set_cons_zero, List.set_cons_succ, List.getElem_toArray, List.getElem_cons_zero, List.getElem_cons_succ]
        refine wpAnyH_take (i := 19) (v := undef) rfl (by kernel_rfl) (by kernel_rfl) (by kernel_rfl) (fun _ _ _ h => h) (Or.inr ⟨by rfl, rfl⟩) hHeld ?_
        try simp only [Act.put, List.setIfInBounds_toArray, List.set_cons_zero, List.set_cons_succ, List.getElem_toArray, List.getElem_cons_zero, List.getElem_cons_succ]
        refine wpAnyH_take (i := 20) (v := undef) rfl (by kernel_rfl) (by kernel_rfl) (by kernel_rfl) (fun _ _ _ h => h) (Or.inr ⟨by rfl, rfl⟩) hHeld ?_
        try simp only [Act.put, List.setIfInBounds_toArray, List.set_cons_zero, List.set_cons_succ, List.getElem_toArray, List.getElem_cons_zero, List.getElem_cons_succ]
        refine wpAnyH_take (i := 21) (v := undef) rfl (by kernel_rfl) (by kernel_rfl) (by kernel_rfl) (fun _ _ _ h => h) (Or.inr ⟨by rfl, rfl⟩) hHeld ?_
        try simp only [Act.put, List.setIfInBounds_toArray, List.set_cons_zero, List.set_cons_succ, List.getElem_toArray, List.getElem_cons_zero, List.getElem_cons_succ]
        refine wpAnyH_take (i := 22) (v := ?_) rfl (by kernel_rfl) (by kernel_rfl) (by kernel_rfl) (fun _ _ _ h => h) (Or.inl ⟨by rfl, ?_⟩) hHeld ?_
        rotate_left
        · intro wq hSq; (try dsimp only at hSq); go_simp; try with_reducible rfl
        try simp only [Act.put, List.setIfInBounds_toArray, List.set_cons_zero, List.set_cons_succ, List.getElem_toArray, List.getElem_cons_zero, List.getElem_cons_succ]
        refine wpAnyH_done (by kernel_rfl) ?_ _
        refine NoPanic.normal ?_
        all_goals (go_wp2_with fail; go_meet; exact ⟨by rw [HBB.out]; rw [HZ.out, decide_eq_true HE1.out]; rfl, T3.out⟩)
      case pos =>
        subst he1
        by_cases he2 : eb_ = 0
        case neg =>
          have hne2 : (eb_ != 0) = true := by simpa using he2
          have HE2 := Lib.hid he2
          clear he2
          refine wp_region_noPanic ?_
          refine wp_region_held_drew (S := fun wr => wr.cell? { block := w.heap.size, off := 0 } = some (.string a.id) ∧ wr.cell? { block := w.heap.size, off := 1 } = some (.int .i64 a.valid) ∧ wr.cell? { block := w.heap.size, off := 2 } = some (.int .i64 a.next) ∧ wr.cell? { block := w.heap.size, off := 3 } = some (.int .i64 a.high) ∧ wr.cell? { block := w.heap.size, off := 4 } = some (.slice WA wn wcp) ∧ wr.cell? { block := w.heap.size, off := 5 } = some (.slice MA mn mcp) ∧ wr.cell? { block := w.heap.size + 1, off := 0 } = some (.string b.id) ∧ wr.cell? { block := w.heap.size + 1, off := 1 } = some (.int .i64 b.valid) ∧ wr.cell? { block := w.heap.size + 1, off := 2 } = some (.int .i64 b.next) ∧ wr.cell? { block := w.heap.size + 1, off := 3 } = some (.int .i64 b.high) ∧ wr.cell? { block := w.heap.size + 1, off := 4 } = some (.slice WB vn vcp) ∧ wr.cell? { block := w.heap.size + 1, off := 5 } = some (.slice MB un ucp)) (by kernel_rfl) ?_ (fun hHeld => ?_)
          · exact T0.out.drew.facts
          refine wpAnyH_take (i := 0) (v := ?_) rfl (by kernel_rfl) (by kernel_rfl) (by kernel_rfl) (fun _ _ _ h => h) (Or.inl ⟨by rfl, ?_⟩) hHeld ?_
          rotate_left
          · intro wq hSq; (try dsimp only at hSq); go_simp; try with_reducible rfl
          try simp only [Act.put, List.setIfInBounds_toArray, List.set_cons_zero, List.set_cons_succ, List.getElem_toArray, List.getElem_cons_zero, List.getElem_cons_succ]
          refine wpAnyH_take (i := 2) (v := ?_) rfl (by kernel_rfl) (by kernel_rfl) (by kernel_rfl) (fun _ _ _ h => h) (Or.inl ⟨by rfl, ?_⟩) hHeld ?_
          rotate_left
          · intro wq hSq; (try dsimp only at hSq); go_simp; try with_reducible rfl
          try simp only [Act.put, List.setIfInBounds_toArray, List.set_cons_zero, List.set_cons_succ, List.getElem_toArray, List.getElem_cons_zero, List.getElem_cons_succ]
          refine wpAnyH_ready (rs := [1]) (by kernel_rfl) (by simp) ?_
          refine AllReadyH.cons rfl (fun K hK => ?_) AllReadyH.nil
          go_simp; try with_reducible rfl
          go_at_call 11
          (refine (KHA.out _ T0.out.drew).mono ?_
           rintro e t1w ⟨rfl, hbT1⟩
           have T1 := Lib.hid (T0.out.drew.go hbT1)
           clear hbT1
           dsimp only)
          refine hK.out _ _ ?_ (fun hHeld => ?_)
          · exact T1.out.facts
          clear hK K
          try simp only [Act.put, List.setIfInBounds_toArray, List.set_cons_zero, List.set_cons_succ, List.getElem_toArray, List.getElem_cons_zero, List.getElem_cons_succ]
          refine wpAnyH_ready (rs := [3]) (by kernel_rfl) (by simp) ?_
          refine AllReadyH.cons rfl (fun K hK => ?_) AllReadyH.nil
          go_simp; try with_reducible rfl
          go_at_call 11
          (refine (KHB.out _ T1.out).mono ?_
           rintro e t2w ⟨rfl, hbT2⟩
           have T2 := Lib.hid (T1.out.go hbT2)
           clear hbT2
           dsimp only)
          refine hK.out _ _ ?_ (fun hHeld => ?_)
          · exact T2.out.facts
          clear hK K
          try simp only [Act.put, List.setIfInBounds_toArray, List.set_cons_zero, List.set_cons_succ, List.getElem_toArray, List.getElem_cons_zero, List.getElem_cons_succ]
          refine wpAnyH_take (i := 4) (v := ?_) rfl (by kernel_rfl) (by kernel_rfl) (by kernel_rfl) (fun _ _ _ h => h) (Or.inl ⟨by rfl, ?_⟩) hHeld ?_
          rotate_left
          · intro wq hSq; (try dsimp only at hSq); go_simp; try with_reducible rfl
          try simp only [Act.put, List.setIfInBounds_toArray, List.set_cons_zero, List.set_cons_succ, List.getElem_toArray, List.getElem_cons_zero, List.getElem_cons_succ]
          refine wpAnyH_take (i := 5) (v := ?_) rfl (by kernel_rfl) (by kernel_rfl) (by kernel_rfl) (fun _ _ _ h => h) (Or.inl ⟨by rfl, ?_⟩) hHeld ?_
          rotate_left
          · intro wq hSq; (try dsimp only at hSq); go_simp; try with_reducible rfl
          try simp only [Act.put, List.setIfInBounds_toArray, List.set_cons_zero, List.set_cons_succ, List.getElem_toArray, List.getElem_cons_zero, List.getElem_cons_succ]
          refine wpAnyH_take (i := 6) (v := ?_) rfl (by kernel_rfl) (by kernel_rfl) (by kernel_rfl) (fun _ _ _ h => h) (Or.inl ⟨by rfl, ?_⟩) hHeld ?_
          rotate_left
          · intro wq hSq; (try dsimp only at hSq); go_simp; try with_reducible rfl
          try simp only [Act.put, List.setIfInBounds_toArray, List.set_cons_zero, List.set_cons_succ, List.getElem_toArray, List.getElem_cons_zero, List.getElem_cons_succ]
          refine wpAnyH_take (i := 7) (v := ?_) rfl (by kernel_rfl) (by kernel_rfl) (by kernel_rfl) (fun _ _ _ h => h) (Or.inl ⟨by rfl, ?_⟩) hHeld ?_
          rotate_left
          · intro wq hSq; (try dsimp only at hSq); go_simp; try with_reducible rfl
          try simp only [Act.put, List.setIfInBounds_toArray, List.set_cons_zero, List.set_cons_succ, List.getElem_toArray, List.getElem_cons_zero, List.getElem_cons_succ]
          refine wpAnyH_ready (rs := [8]) (by kernel_rfl) (by simp) ?_
          refine AllReadyH.cons rfl (fun K hK => ?_) AllReadyH.nil
          go_simp; try with_reducible rfl
          go_at_call 18
          (refine (KMA.out _ T2.out).mono ?_
           rintro e t3w ⟨rfl, hbT3⟩
           have T3 := Lib.hid (T2.out.go hbT3)
           clear hbT3
           dsimp only)
          refine hK.out _ _ ?_ (fun hHeld => ?_)
          · exact T3.out.facts
          clear hK K
          try simp only [Act.put, List.setIfInBounds_toArray, List.set_cons_zero, List.set_cons_succ, List.getElem_toArray, List.getElem_cons_zero, List.getElem_cons_succ]
          refine wpAnyH_take (i := 9) (v := ?_) rfl (by kernel_rfl) (by kernel_rfl) (by kernel_rfl) (fun _ _ _ h => h) (Or.inl ⟨by rfl, ?_⟩) hHeld ?_
          rotate_left
          · intro wq hSq; (try dsimp only at hSq); go_simp; try with_reducible rfl
          try simp only [Act.put, List.setIfInBounds_toArray, List.set_cons_zero, List.set_cons_succ, List.getElem_toArray, List.getElem_cons_zero, List.getElem_cons_succ]
          refine wpAnyH_take (i := 10) (v := ?_) rfl (by kernel_rfl) (by kernel_rfl) (by kernel_rfl) (fun _ _ _ h => h) (Or.inl ⟨by rfl, ?_⟩) hHeld ?_
          rotate_left
          · intro wq hSq; (try dsimp only at hSq); go_simp; try with_reducible rfl
          try simp only [Act.put, List.setIfInBounds_toArray, List.set_cons_zero, List.set_cons_succ, List.getElem_toArray, List.getElem_cons_zero, List.getElem_cons_succ]
          refine wpAnyH_take (i := 11) (v := ?_) rfl (by kernel_rfl) (by kernel_rfl) (by kernel_rfl) (fun _ _ _ h => h) (Or.inl ⟨by rfl, ?_⟩) hHeld ?_
          rotate_left
          · intro wq hSq; (try dsimp only at hSq); go_simp; try with_reducible rfl
          try simp only [Act.put, List.setIfInBounds_toArray, List.set_cons_zero, List.set_cons_succ, List.getElem_toArray, List.getElem_cons_zero, List.getElem_cons_succ]
          refine wpAnyH_take (i := 12) (v := ?_) rfl (by kernel_rfl) (by kernel_rfl) (by kernel_rfl) (fun _ _ _ h => h) (Or.inl ⟨by rfl, ?_⟩) hHeld ?_
          rotate_left
          · intro wq hSq; (try dsimp only at hSq); go_simp; try with_reducible rfl
          try simp only [Act.put, List.setIfInBounds_toArray, List.set_cons_zero, List.set_cons_succ, List.getElem_toArray, List.getElem_cons_zero, List.getElem_cons_succ]
          refine wpAnyH_ready (rs := [13]) (by kernel_rfl) (by simp) ?_
          refine AllReadyH.cons rfl (fun K hK => ?_) AllReadyH.nil
          go_simp; try with_reducible rfl
          go_at_call 18
          (refine (KMB.out _ T3.out).mono ?_
           rintro e t4w ⟨rfl, hbT4⟩
           have T4 := Lib.hid (T3.out.go hbT4)
           clear hbT4
           dsimp only)
          refine hK.out _ _ ?_ (fun hHeld => ?_)
          · exact T4.out.facts
          clear hK K
          try simp only [Act.put, List.setIfInBounds_toArray, List.set_cons_zero, List.set_cons_succ, List.getElem_toArray, List.getElem_cons_zero, List.getElem_cons_succ]
          refine wpAnyH_take (i := 14) (v := ?_) rfl (by kernel_rfl) (by kernel_rfl) (by kernel_rfl) (fun _ _ _ h => h) (Or.inl ⟨by rfl, ?_⟩) hHeld ?_
          rotate_left
          · intro wq hSq; (try dsimp only at hSq); go_simp; try with_reducible rfl
          try simp only [Act.put, List.setIfInBounds_toArray, List.set_cons_zero, List.set_cons_succ, List.getElem_toArray, List.getElem_cons_zero, List.getElem_cons_succ]
          refine wpAnyH_take (i := 15) (v := ?_) rfl (by kernel_rfl) (by kernel_rfl) (by kernel_rfl) (fun _ _ _ h => h) (Or.inl ⟨by rfl, ?_⟩) hHeld ?_
          rotate_left
          · intro wq hSq; (try dsimp only at hSq); go_simp; try with_reducible rfl
          try simp only [Act.put, List.setIfInBounds_toArray, List.set_cons_zero, List.set_cons_succ, List.getElem_toArray, List.getElem_cons_zero, List.getElem_cons_succ]
          refine wpAnyH_take (i := 16) (v := ?_) rfl (by kernel_rfl) (by kernel_rfl) (by kernel_rfl) (fun _ _ _ h => h) (Or.inl ⟨by rfl, ?_⟩) hHeld ?_
          rotate_left
          · intro wq hSq; (try dsimp only at hSq); go_simp; try with_reducible rfl
          try simp only [Act.put, List.setIfInBounds_toArray, List.set_cons_zero, List.set_cons_succ, List.getElem_toArray, List.getElem_cons_zero, List.getElem_cons_succ]
          refine wpAnyH_take (i := 17) (v := undef) rfl (by kernel_rfl) (by kernel_rfl) (by kernel_rfl) (fun _ _ _ h => h) (Or.inr ⟨by rfl, rfl⟩) hHeld ?_
          try simp only [Act.put, List.setIfInBounds_toArray, List.set_cons_zero, List.set_cons_succ, List.getElem_toArray, List.getElem_cons_zero, List.getElem_cons_succ]
          refine wpAnyH_take (i := 18) (v := undef) rfl (by kernel_rfl) (by kernel_rfl) (by kernel_rfl) (fun _ _ _ h => h) (Or.inr ⟨by rfl, rfl⟩) hHeld ?_
          try simp only [Act.put, List.setIfInBounds_toArray, List.set_cons_zero, List.set_cons_succ, List.getElem_toArray, List.getElem_cons_zero, List.getElem_cons_succ]
          refine wpAnyH_take (i := 19) (v := undef) rfl (by kernel_rfl) (by kernel_rfl) (by kernel_rfl) (fun _ _ _ h => h) (Or.inr ⟨by rfl, rfl⟩) hHeld ?_
          try simp only [Act.put, List.setIfInBounds_toArray, List.set_cons_zero, List.set_cons_succ, List.getElem_toArray, List.getElem_cons_zero, List.getElem_cons_succ]
          refine wpAnyH_take (i := 20) (v := undef) rfl (by kernel_rfl) (by kernel_rfl) (by kernel_rfl) (fun _ _ _ h => h) (Or.inr ⟨by rfl, rfl⟩) hHeld ?_
          try simp only [Act.put, List.setIfInBounds_toArray, List.set_cons_zero, List.set_cons_succ, List.getElem_toArray, List.getElem_cons_zero, List.getElem_cons_succ]
          refine wpAnyH_take (i := 21) (v := undef) rfl (by kernel_rfl) (by kernel_rfl) (by kernel_rfl) (fun _ _ _ h => h) (Or.inr ⟨by rfl, rfl⟩) hHeld ?_
          try simp only [Act.put, List.setIfInBounds_toArray, List.set_cons_zero, List.set_cons_succ, List.getElem_toArray, List.getElem_cons_zero, List.getElem_cons_succ]
          refine wpAnyH_take (i := 22) (v := ?_) rfl (by kernel_rfl) (by kernel_rfl) (by kernel_rfl) (fun _ _ _ h => h) (Or.inl ⟨by rfl, ?_⟩) hHeld ?_
          rotate_left
          · intro wq hSq; (try dsimp only at hSq); go_simp; try with_reducible rfl
          try simp only [Act.put, List.setIfInBounds_toArray, List.set_cons_zero, List.set_cons_succ, List.getElem_toArray, List.getElem_cons_zero, List.getElem_cons_succ]
          refine wpAnyH_done (by kernel_rfl) ?_ _
          refine NoPanic.normal ?_
          all_goals (go_wp2_with fail; go_meet; exact ⟨by rw [HBB.out]; rw [HZ.out, decide_eq_true HE2.out]; rfl, T4.out⟩)
        case pos =>
          subst he2
          go_region_held3 (fun wr => wr.cell? { block := w.heap.size, off := 0 } = some (.string a.id) ∧ wr.cell? { block := w.heap.size, off := 1 } = some (.int .i64 a.valid) ∧ wr.cell? { block := w.heap.size, off := 2 } = some (.int .i64 a.next) ∧ wr.cell? { block := w.heap.size, off := 3 } = some (.int .i64 a.high) ∧ wr.cell? { block := w.heap.size, off := 4 } = some (.slice WA wn wcp) ∧ wr.cell? { block := w.heap.size, off := 5 } = some (.slice MA mn mcp) ∧ wr.cell? { block := w.heap.size + 1, off := 0 } = some (.string b.id) ∧ wr.cell? { block := w.heap.size + 1, off := 1 } = some (.int .i64 b.valid) ∧ wr.cell? { block := w.heap.size + 1, off := 2 } = some (.int .i64 b.next) ∧ wr.cell? { block := w.heap.size + 1, off := 3 } = some (.int .i64 b.high) ∧ wr.cell? { block := w.heap.size + 1, off := 4 } = some (.slice WB vn vcp) ∧ wr.cell? { block := w.heap.size + 1, off := 5 } = some (.slice MB un ucp)) (with_reducible first | exact hST0 | exact hST1 | exact hST2 | exact hST3 | exact hST4 | go_keep) (first
              | (go_at_call 11
                 ((with_reducible refine (KHA.out _ ?d1).mono ?_); rotate_left)
                 case d1 => with_reducible first | exact T0.out | exact T0.out.drew
                 go_loud (
                 rintro e t1w ⟨rfl, hbT1⟩
                 have T1 := Lib.hid (show Two w (.cells #[.string a.id, .int .i64 a.valid, .int .i64 a.next, .int .i64 a.high, .slice WA wn wcp, .slice MA mn mcp] 25) (.cells #[.string b.id, .int .i64 b.valid, .int .i64 b.next, .int .i64 b.high, .slice WB vn vcp, .slice MB un ucp] 25) t1w by with_reducible first | exact T0.out.go hbT1 | exact T0.out.drew.go hbT1)
                 have hST1 := T1.out.facts
                 clear hbT1
                 dsimp only))
              | (go_at_call 11
                 ((with_reducible refine (KHB.out _ ?d1).mono ?_); rotate_left)
                 case d1 => with_reducible first | exact T1.out | exact T1.out.drew
                 go_loud (
                 rintro e t2w ⟨rfl, hbT2⟩
                 have T2 := Lib.hid (show Two w (.cells #[.string a.id, .int .i64 a.valid, .int .i64 a.next, .int .i64 a.high, .slice WA wn wcp, .slice MA mn mcp] 25) (.cells #[.string b.id, .int .i64 b.valid, .int .i64 b.next, .int .i64 b.high, .slice WB vn vcp, .slice MB un ucp] 25) t2w by with_reducible first | exact T1.out.go hbT2 | exact T1.out.drew.go hbT2)
                 have hST2 := T2.out.facts
                 clear hbT2
                 dsimp only))
              | (go_at_call 18
                 ((with_reducible refine (KMA.out _ ?d1).mono ?_); rotate_left)
                 case d1 => with_reducible first | exact T2.out | exact T2.out.drew
                 go_loud (
                 rintro e t3w ⟨rfl, hbT3⟩
                 have T3 := Lib.hid (show Two w (.cells #[.string a.id, .int .i64 a.valid, .int .i64 a.next, .int .i64 a.high, .slice WA wn wcp, .slice MA mn mcp] 25) (.cells #[.string b.id, .int .i64 b.valid, .int .i64 b.next, .int .i64 b.high, .slice WB vn vcp, .slice MB un ucp] 25) t3w by with_reducible first | exact T2.out.go hbT3 | exact T2.out.drew.go hbT3)
                 have hST3 := T3.out.facts
                 clear hbT3
                 dsimp only))
              | (go_at_call 18
                 ((with_reducible refine (KMB.out _ ?d1).mono ?_); rotate_left)
                 case d1 => with_reducible first | exact T3.out | exact T3.out.drew
                 go_loud (
                 rintro e t4w ⟨rfl, hbT4⟩
                 have T4 := Lib.hid (show Two w (.cells #[.string a.id, .int .i64 a.valid, .int .i64 a.next, .int .i64 a.high, .slice WA wn wcp, .slice MA mn mcp] 25) (.cells #[.string b.id, .int .i64 b.valid, .int .i64 b.next, .int .i64 b.high, .slice WB vn vcp, .slice MB un ucp] 25) t4w by with_reducible first | exact T3.out.go hbT4 | exact T3.out.drew.go hbT4)
                 have hST4 := T4.out.facts
                 clear hbT4
                 dsimp only)))
          all_goals (go_wp2_with fail; go_meet; exact ⟨by rw [HBB.out]; rw [HZ.out]; simp; exact id_eq _ _, T4.out⟩)
  case rest =>
    clear KHA KHB KMA KMB T0 hs1 HS1
    obtain ⟨rfl, T⟩ := hcut
    cases bb with
    | true =>
      go_wp2_with (go_at_call 12; refine (HAW.out _).mono ?_; rintro e w2 ⟨rfl, hb2⟩)
      go_ret
      exact ⟨rfl, T.out.low.trans (hb2.mono T.out.low.size)⟩
    | false =>
      have hall : ¬ 0 < s1 ∧ ea = 0 ∧ eb_ = 0 ∧ a.id = b.id := by
        have h := HBB.out.symm
        simp only [Bool.or_eq_false_iff, decide_eq_false_iff_not, Decidable.not_not, ne_eq] at h
        exact h
      obtain ⟨_, rfl, rfl, hii⟩ := hall
      have HII := Lib.hid hii
      clear hii HBB
      obtain ⟨ca, hca⟩ : ∃ ca, ca = pb false a := ⟨_, rfl⟩
      obtain ⟨cb, hcb⟩ : ∃ cb, cb = pb false b := ⟨_, rfl⟩
      have HCA := Lib.hid hca
      have HCB := Lib.hid hcb
      clear hca hcb
      have KB1 := Lib.hid (OlW.bytes1_ok (b := a) (StrsAt.below H1.out T.out.low (Nat.le_refl _)) (MsgsAt.below H2.out T.out.low (Nat.le_refl _)) HWA.out HMA.out T.out.low.size HEA.out.symm)
      obtain ⟨a0, a1, a2, a3, a4, a5, b0, b1, b2, b3, b4, b5⟩ := T.out.facts
      go_upto_region 4 with (go_at_call 13; go_loud (
         refine KB1.out.mono ?_
         rintro e w3 ⟨A3, n3, c3, rfl, hc3, hx3, hb3⟩
         have T3 := Lib.hid (T.out.go hb3)
         have X3 := Lib.hid hx3
         clear hb3 hx3 a0 a1 a2 a3 a4 a5 b0 b1 b2 b3 b4 b5))
      clear KB1 T
      have KB2 := Lib.hid (OlW.bytes1_ok (b := b) (StrsAt.below H3.out T3.out.low (Nat.le_refl _)) (MsgsAt.below H4.out T3.out.low (Nat.le_refl _)) HWB.out HMB.out T3.out.low.size HEB.out.symm)
      obtain ⟨a0, a1, a2, a3, a4, a5, b0, b1, b2, b3, b4, b5⟩ := T3.out.facts
      go_upto_region 5 with (go_at_call 13; go_loud (
         refine KB2.out.mono ?_
         rintro e w4 ⟨A4, n4, c4, rfl, hc4, hx4, hb4⟩
         have T4 := Lib.hid (T3.out.go hb4)
         have X4 := Lib.hid (BytesAt.below X3.out hb4 (Nat.le_refl _))
         have Y4 := Lib.hid hx4
         have hs34 := hb4.size
         clear hb4 hx4 a0 a1 a2 a3 a4 a5 b0 b1 b2 b3 b4 b5))
      clear KB2 T3 X3
      have kp := project_any (mc0 := mcp) (HT.out.below T4.out.low (Nat.le_refl _)) (StrsAt.below H1.out T4.out.low (Nat.le_refl _)) (MsgsAt.below H2.out T4.out.low (Nat.le_refl _)) HWA.out T4.out.low.size HEA.out.symm
      rw [← HCA.out] at kp
      have KP1 := Lib.hid kp
      clear kp
      obtain ⟨a0, a1, a2, a3, a4, a5, b0, b1, b2, b3, b4, b5⟩ := T4.out.facts
      go_upto_region 6 with (go_at_call 20; go_loud (
         refine KP1.out.mono ?_
         rintro e w5 ⟨A5, k5, B5, j5, rfl, hk5, hj5, hw5, hm5, hb5⟩
         have T5 := Lib.hid (T4.out.go hb5)
         have X5 := Lib.hid (BytesAt.below X4.out hb5 hs34)
         have Y5 := Lib.hid (BytesAt.below Y4.out hb5 (Nat.le_refl _))
         have W5 := Lib.hid hw5
         have M5 := Lib.hid hm5
         have hs45 := hb5.size
         clear hb5 hw5 hm5 a0 a1 a2 a3 a4 a5 b0 b1 b2 b3 b4 b5))
      clear KP1 T4 X4 Y4
      obtain ⟨wa, hwa⟩ : ∃ wa, wa = ca.words.length := ⟨_, rfl⟩
      obtain ⟨ma, hma⟩ : ∃ ma, ma = ca.msgs.length := ⟨_, rfl⟩
      rw [← hwa] at W5
      rw [← hma] at M5
      rw [← hwa, ← hma]
      have Z6 := Lib.hid ((Below.refl w5.heap.size w5).alloc (Nat.le_refl _) (.cells #[.string ca.id, .int .i64 ca.valid, .int .i64 ca.next, .int .i64 ca.high, .slice A5 wa k5, .slice B5 ma j5] 25))
      have C6 := Lib.hid (heap_alloc_new w5 (.cells #[.string ca.id, .int .i64 ca.valid, .int .i64 ca.next, .int .i64 ca.high, .slice A5 wa k5, .slice B5 ma j5] 25))
      obtain ⟨L6, hL6⟩ : ∃ L6, L6 = w5.heap.size := ⟨_, rfl⟩
      rw [← hL6] at C6 ⊢
      have HL6 := Lib.hid hL6
      clear hL6 hwa hma
      generalize (World.alloc w5 _) = w6 at Z6 C6 ⊢
      have T6 := Lib.hid (T5.out.go Z6.out)
      have hs56 := Z6.out.size
      have kp := project_any (mc0 := ucp) (HT.out.below T6.out.low (Nat.le_refl _)) (StrsAt.below H3.out T6.out.low (Nat.le_refl _)) (MsgsAt.below H4.out T6.out.low (Nat.le_refl _)) HWB.out T6.out.low.size HEB.out.symm
      rw [← HCB.out] at kp
      have KP2 := Lib.hid kp
      clear kp
      obtain ⟨a0, a1, a2, a3, a4, a5, b0, b1, b2, b3, b4, b5⟩ := T6.out.facts
      go_upto_region 7 with (go_at_call 20; go_loud (
         refine KP2.out.mono ?_
         rintro e w7 ⟨A7, k7, B7, j7, rfl, hk7, hj7, hw7, hm7, hb7⟩
         have T7 := Lib.hid (T6.out.go hb7)
         have Z7 := Lib.hid hb7
         have W7 := Lib.hid hw7
         have M7 := Lib.hid hm7
         clear hb7 hw7 hm7 a0 a1 a2 a3 a4 a5 b0 b1 b2 b3 b4 b5))
      clear KP2 T6
      obtain ⟨wb, hwb⟩ : ∃ wb, wb = cb.words.length := ⟨_, rfl⟩
      obtain ⟨mb, hmb⟩ : ∃ mb, mb = cb.msgs.length := ⟨_, rfl⟩
      rw [← hwb] at W7
      rw [← hmb] at M7
      rw [← hwb, ← hmb]
      have Z8 := Lib.hid ((Below.refl w7.heap.size w7).alloc (Nat.le_refl _) (.cells #[.string cb.id, .int .i64 cb.valid, .int .i64 cb.next, .int .i64 cb.high, .slice A7 wb k7, .slice B7 mb j7] 25))
      have C8 := Lib.hid (heap_alloc_new w7 (.cells #[.string cb.id, .int .i64 cb.valid, .int .i64 cb.next, .int .i64 cb.high, .slice A7 wb k7, .slice B7 mb j7] 25))
      obtain ⟨L8, hL8⟩ : ∃ L8, L8 = w7.heap.size := ⟨_, rfl⟩
      rw [← hL8] at C8 ⊢
      have HL8 := Lib.hid hL8
      clear hL8 hwb hmb
      generalize (World.alloc w7 _) = w8 at Z8 C8 ⊢
      have T8 := Lib.hid (T7.out.go Z8.out)
      have hs67 := Z7.out.size
      have hs78 := Z8.out.size
      have h6 := (Array.getElem?_eq_some_iff.1 C6.out).1
      have h8 := (Array.getElem?_eq_some_iff.1 C8.out).1
      have Z58 := Lib.hid (Z6.out.trans ((Z7.out.mono hs56).trans (Z8.out.mono (Nat.le_trans hs56 hs67))))
      have C6b := Lib.hid (((Z8.out.block L6 (by omega)).trans ((Z7.out.block L6 h6))).trans C6.out)
      obtain ⟨X, hX⟩ : ∃ X : ByteArray, X = ⟨(eb false a).toArray⟩ := ⟨_, rfl⟩
      obtain ⟨Y, hY⟩ : ∃ Y : ByteArray, Y = ⟨(eb false b).toArray⟩ := ⟨_, rfl⟩
      have hq := apart_eq HEA.out.symm HEB.out.symm HII.out hX hY
      rw [← HCA.out, ← HCB.out] at hq
      have HXX := Lib.hid hX
      have HYY := Lib.hid hY
      have FB := Lib.hid (fun (wr : World) (hb : Below w8.heap.size w8 wr) => show (convert 26 9 (.slice A3 n3 c3)).run Tryd.prog wr = .ok (.string X) wr ∧ (convert 26 9 (.slice A4 n4 c4)).run Tryd.prog wr = .ok (.string Y) wr ∧ wr.cell? { block := L6, off := 0 } = some (.string ca.id) ∧ wr.cell? { block := L6, off := 1 } = some (.int .i64 ca.valid) ∧ wr.cell? { block := L6, off := 2 } = some (.int .i64 ca.next) ∧ wr.cell? { block := L6, off := 3 } = some (.int .i64 ca.high) ∧ wr.cell? { block := L6, off := 4 } = some (.slice A5 wa k5) ∧ wr.cell? { block := L6, off := 5 } = some (.slice B5 ma j5) ∧ wr.cell? { block := L8, off := 0 } = some (.string cb.id) ∧ wr.cell? { block := L8, off := 1 } = some (.int .i64 cb.valid) ∧ wr.cell? { block := L8, off := 2 } = some (.int .i64 cb.next) ∧ wr.cell? { block := L8, off := 3 } = some (.int .i64 cb.high) ∧ wr.cell? { block := L8, off := 4 } = some (.slice A7 wb k7) ∧ wr.cell? { block := L8, off := 5 } = some (.slice B7 mb j7) from by
        have hb5 : Below w5.heap.size w5 wr := Z58.out.trans (hb.mono Z58.out.size)
        have c := fun o => cell_of_row wr L6 o _ _ _ ((hb.block L6 (by omega)).trans C6b.out)
        have d := fun o => cell_of_row wr L8 o _ _ _ ((hb.block L8 h8).trans C8.out)
        refine ⟨?_, ?_, (c 0).trans rfl, (c 1).trans rfl, (c 2).trans rfl, (c 3).trans rfl, (c 4).trans rfl, (c 5).trans rfl, (d 0).trans rfl, (d 1).trans rfl, (d 2).trans rfl, (d 3).trans rfl, (d 4).trans rfl, (d 5).trans rfl⟩
        · rw [HXX.out]; exact (BytesAt.below X5.out hb5 (by omega)).conv c3
        · rw [HYY.out]; exact (BytesAt.below Y5.out hb5 hs45).conv c4)
      have KS := Lib.hid (fun (wr : World) (hb : Below w8.heap.size w8 wr) => show Calls Tryd.prog 17 #[.agg #[.string ca.id, .int .i64 ca.valid, .int .i64 ca.next, .int .i64 ca.high, .slice A5 wa k5, .slice B5 ma j5], .agg #[.string cb.id, .int .i64 cb.valid, .int .i64 cb.next, .int .i64 cb.high, .slice A7 wb k7, .slice B7 mb j7]] wr fun e w' => e = .returned (.bool (eqX ca cb)) ∧ Below wr.heap.size wr w' from by
        have hb5 : Below w5.heap.size w5 wr := Z58.out.trans (hb.mono Z58.out.size)
        have hb7 : Below w7.heap.size w7 wr := Z8.out.trans (hb.mono hs78)
        exact BxX.refSame_any (StrsAt.below W5.out hb5 (Nat.le_refl _)) (MsgsAt.below M5.out hb5 (Nat.le_refl _)) (StrsAt.below W7.out hb7 (Nat.le_refl _)) (MsgsAt.below M7.out hb7 (Nat.le_refl _)) hb5.size hb5.size hb7.size hb7.size)
      clear hX hY C6 C8 Z6 Z7 T5 T7
      have hF0 := FB.out w8.drew (Below.drew (Below.refl _ _))
      go_region_held3 (fun wr => (convert 26 9 (.slice A3 n3 c3)).run Tryd.prog wr = .ok (.string X) wr ∧ (convert 26 9 (.slice A4 n4 c4)).run Tryd.prog wr = .ok (.string Y) wr ∧ wr.cell? { block := L6, off := 0 } = some (.string ca.id) ∧ wr.cell? { block := L6, off := 1 } = some (.int .i64 ca.valid) ∧ wr.cell? { block := L6, off := 2 } = some (.int .i64 ca.next) ∧ wr.cell? { block := L6, off := 3 } = some (.int .i64 ca.high) ∧ wr.cell? { block := L6, off := 4 } = some (.slice A5 wa k5) ∧ wr.cell? { block := L6, off := 5 } = some (.slice B5 ma j5) ∧ wr.cell? { block := L8, off := 0 } = some (.string cb.id) ∧ wr.cell? { block := L8, off := 1 } = some (.int .i64 cb.valid) ∧ wr.cell? { block := L8, off := 2 } = some (.int .i64 cb.next) ∧ wr.cell? { block := L8, off := 3 } = some (.int .i64 cb.high) ∧ wr.cell? { block := L8, off := 4 } = some (.slice A7 wb k7) ∧ wr.cell? { block := L8, off := 5 } = some (.slice B7 mb j7)) (with_reducible first | exact hF0 | exact hF1 | exact hF2 | go_keep) (first
        | (go_at_call 17
           ((with_reducible refine (KS.out _ ?d1).mono ?_); rotate_left)
           case d1 => with_reducible first | exact (Below.refl _ _).drew | exact BxKit.below_drewN (Below.refl _ _) _
           go_loud (
           rintro e w9 ⟨rfl, hb9⟩
           have Z9 := Lib.hid (show Below w8.heap.size w8 w9 from (Below.drew (Below.refl _ _)).trans hb9)
           have hF1 := FB.out w9 Z9.out
           clear hb9
           dsimp only))
        | (go_at_call 12
           go_loud (
           refine (HAW.out _).mono ?_
           rintro e w10 ⟨rfl, hb10⟩
           have Z10 := Lib.hid (Z9.out.trans (hb10.mono Z9.out.size))
           have hF2 := FB.out w10 Z10.out
           clear hb10
           dsimp only)))
      all_goals
        go_wp2_with fail
        go_ret
        exact ⟨rfl, (T8.out.go Z10.out).low⟩
end Go.Proofs.YtfhdoecackdflaaDoor.O1Apart
