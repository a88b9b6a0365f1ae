/-
  RowParts: rows in two parts are done as in one; their bytes stand one behind the other.
-/
import Derived.Test.YtdgcihgohkgecaaDoorRpY
import Derived.Test.YtdgcihgohkgecaaDoorRwW10
import Derived.Test.YtdgcihgohkgecaaDoorRwAw
import Derived.Test.YtdgcihgohkgecaaDoorBxB
import Derived.Test.YtdgcihgohkgecaaDoorBxH
import Derived.Test.YtdgcihgohkgecaaDoorBxX
import Derived.Deep.CutBlock
import Derived.Deep.DeepCutAuto
import Derived.Deep.RegionHeld3
set_option linter.unusedVariables false
set_option linter.unusedSimpArgs false
namespace Go.Proofs.YtdgcihgohkgecaaDoor.RpLaw
open Go.RowKit Go.Proofs.YtdgcihgohkgecaaDoor.BxD Go.Proofs.YtdgcihgohkgecaaDoor.BxKit Go.Proofs.YtdgcihgohkgecaaDoor.BxA Go.Proofs.YtdgcihgohkgecaaDoor.BxB Go.Proofs.YtdgcihgohkgecaaDoor.BxH Go.Proofs.YtdgcihgohkgecaaDoor.BxX Go.Proofs.YtdgcihgohkgecaaDoor.RwD Go.Proofs.YtdgcihgohkgecaaDoor.RwKit Go.Proofs.YtdgcihgohkgecaaDoor.RpD Go.Proofs.YtdgcihgohkgecaaDoor.RpH Go.Proofs.YtdgcihgohkgecaaDoor.RpY
open Go.Proofs.YtdgcihgohkgecaaDoor.PkKit (BytesAt)

theorem pick_k (x : Int) {mn : Int} (h0 : 0 < mn) (h : mn ≤ 140737488355329) : ∃ k : Nat, (k : Int) < mn ∧ IntKind.i64.wrap ((IntKind.u64.wrap x).tmod mn) = (k : Int) := by
  have h0' : 0 ≤ IntKind.u64.wrap x := by
    rw [show IntKind.u64.wrap x = x % 18446744073709551616 from rfl]
    exact Int.emod_nonneg _ (by decide)
  have h1 := Int.tmod_nonneg mn h0'
  have h2 := Int.tmod_lt_of_pos (IntKind.u64.wrap x) h0
  refine ⟨((IntKind.u64.wrap x).tmod mn).toNat, by omega, ?_⟩
  rw [IntKind.wrap_i64]
  omega
theorem parts_of {b : Box} {l : List Row} (k : Nat) : ((allP b (l.take k)).2 = 0 → allP b l = allP (allP b (l.take k)).1 (l.drop k)) ∧ ((allP b (l.take k)).2 ≠ 0 → allP b l = allP b (l.take k)) := by
  have h := allP_parts (b := b) (l := l.take k) (l' := l.drop k)
  rw [List.take_append_drop] at h
  exact h
/-! Lemmas of the walk. -/
theorem cat_eq (a b : List UInt8) : (⟨(a ++ b).toArray⟩ : ByteArray) = (⟨a.toArray⟩ : ByteArray) ++ ⟨b.toArray⟩ := by
  ext1
  simp
theorem chain_below {w4 W0 : World} {P : Nat} (h : Below w4.heap.size w4 W0) (hP : w4.heap.size ≤ P) (c0 c1 c2 c3 c4 c5 : Value) : Below w4.heap.size w4 ((((((W0.setCell { block := P, off := 0 } c0).setCell { block := P, off := 1 } c1).setCell { block := P, off := 2 } c2).setCell { block := P, off := 3 } c3).setCell { block := P, off := 4 } c4).setCell { block := P, off := 5 } c5) :=
  (((((h.setCell hP _).setCell hP _).setCell hP _).setCell hP _).setCell hP _).setCell hP _
theorem Sb.zero {w wr : World} {Y : Nat} (hb : Below w.heap.size w wr) (hl : w.heap.size ≤ Y) (hz : wr.heap[Y]? = some (.cells #[.string ⟨#[]⟩, .int .i64 0, .int .i64 0, .int .i64 0, .slice none 0 0, .slice none 0 0] 25 (0, 0))) : Sb w wr Y noB none 0 0 none 0 0 :=
  ⟨hb, hl, hz, fun w2 _ _ => ⟨RowAt.nil _ _ _ _ _, RowAt.nil _ _ _ _ _⟩, Nat.le_refl _, Nat.le_refl _⟩
/-- A box that a call told, in a block that was made before the call. -/
def Told (w w4 wx : World) (Y : Nat) (d : Box) : Prop := Below w4.heap.size w4 wx ∧ ∃ WA wn wc MA mn mc, Sb w wx Y d WA wn wc MA mn mc
theorem told_before {w w4 w5 : World} {Y lo : Nat} {d : Box} {WA MA : Option Addr} {wn wc mn mc : Nat} (hw4 : Below w.heap.size w w4) (hz : w5.heap[Y]? = some (.cells #[.string ⟨#[]⟩, .int .i64 0, .int .i64 0, .int .i64 0, .slice none 0 0, .slice none 0 0] 25 (0, 0))) (hY : w4.heap.size ≤ Y) (hlo : Y < lo) (h5 : Below w4.heap.size w4 w5) (hl : Lie lo w5.heap.size w5 WA wn d.words MA mn d.msgs) (h1 : wn ≤ wc) (h2 : mn ≤ mc) :
    Told w w4 (put6 w5 Y (.string d.id) (.int .i64 d.valid) (.int .i64 d.next) (.int .i64 d.high) (.slice WA wn wc) (.slice MA mn mc)) Y d :=
  ⟨chain_below h5 hY _ _ _ _ _ _, WA, wn, wc, MA, mn, mc, Sb.put (Sb.zero (hw4.trans (h5.mono hw4.size)) (Nat.le_trans hw4.size hY) hz) hl h1 h2 hlo (Nat.le_refl _) (fun _ _ _ => rfl)⟩
theorem told_after {w w4 w5 : World} {lo : Nat} {d : Box} {WA MA : Option Addr} {wn wc mn mc : Nat} (hw4 : Below w.heap.size w w4) (h5 : Below w4.heap.size w4 w5) (hl : Lie lo w5.heap.size w5 WA wn d.words MA mn d.msgs) (h1 : wn ≤ wc) (h2 : mn ≤ mc) :
    Told w w4 (w5.alloc (.cells #[.string d.id, .int .i64 d.valid, .int .i64 d.next, .int .i64 d.high, .slice WA wn wc, .slice MA mn mc] 25)) w5.heap.size d := by
  refine ⟨h5.alloc h5.size _, WA, wn, wc, MA, mn, mc, ?_⟩
  have hb : Below w.heap.size w w5 := hw4.trans (h5.mono hw4.size)
  refine ⟨hb.alloc hb.size _, hb.size, heap_alloc_new w5 _, fun w6 hs hk => ?_, h1, h2⟩
  obtain ⟨a, e⟩ := hl w6 (by simp at hs; omega) fun k _ hk1 => (hk k (by simp; omega) (by omega)).trans (Below.heap_alloc _ _ _ hk1)
  exact ⟨StrsAt.more a (by simp), MsgsAt.more e (by simp)⟩
set_option maxHeartbeats 8000000 in
set_option maxRecDepth 100000 in
theorem walk {b : Box} {x : Int} {WA MA A : Option Addr} {wn wcp mn mcp n cp : Nat} {l : List Row} {w : World} (ht : RwW15.Tab w)
    (h1 : StrsAt w w.heap.size WA wn b.words) (h2 : MsgsAt w w.heap.size MA mn b.msgs) (h3 : RowsAt w w.heap.size A n l) (hwc : wn ≤ wcp) (hmc : mn ≤ mcp) (hcp : n ≤ cp) (z1 : b.id.size ≤ 140737488355328) :
    Calls Tryd.prog 4 #[.agg #[.string b.id, .int .i64 b.valid, .int .i64 b.next, .int .i64 b.high, .slice WA wn wcp, .slice MA mn mcp], .slice A n cp, .int .i64 x] w fun e w' => e = .returned (.bool true) ∧ Below w.heap.size w w' := by
  have KH := fun o => heavy_any (bid := b.id) (bv := b.valid) (bn := b.next) (bh := b.high) (wc := wcp) (mc := mcp) (StrsAt.below h1 ((Below.refl _ w).alloc (Nat.le_refl _) o) (Nat.le_refl _)) (MsgsAt.below h2 ((Below.refl _ w).alloc (Nat.le_refl _) o) (Nat.le_refl _)) (by simp) (by simp) z1
  have KR := fun (wr : World) (h : Below w.heap.size w wr) => heavySmall_any (cp := cp) (RowsAt.below h3 h (Nat.le_refl _)) h.size
  have HAW := Lib.hid (fun (wr : World) (h : Below w.heap.size w wr) => RwAw.awake (RwW15.Tab.below ht h (Nat.le_refl _)))
  have HS := Lib.hid (After.start w (.cells #[.string b.id, .int .i64 b.valid, .int .i64 b.next, .int .i64 b.high, .slice WA wn wcp, .slice MA mn mcp] 25))
  have HX := Lib.hid h1
  have HM := Lib.hid h2
  have HR := Lib.hid h3
  have hn := h3.max
  have hnl := h3.len
  clear h1 h2 h3 ht
  obtain ⟨hvv, hhv⟩ : ∃ hvv, hvv = hv b.id b.words b.msgs := ⟨_, rfl⟩
  have hv01 : hvv = 1 ∨ hvv = 0 := by rcases hv_or b.id b.words b.msgs with h | h; exact .inl (hhv.trans h); exact .inr (hhv.trans h.1)
  rw [← hhv] at KH
  clear hhv
  have K1 := Lib.hid KH
  have K2 := Lib.hid KR
  clear KH KR
  rcases hv01 with rfl | rfl
  · go_enter Tryd.func4, Tryd.ntmps4
    go_wp2_with fail
    refine (K1.out _).mono ?_
    rintro e w1 ⟨rfl, hb1⟩
    have HB := Lib.hid (HS.out.go hb1).below
    clear hb1
    go_wp2_with (go_at_call 8; refine (HAW.out _ HB.out).mono ?_; rintro e w2 ⟨rfl, hb2⟩)
    go_ret
    exact ⟨rfl, HB.out.trans (hb2.mono HB.out.size)⟩
  go_enter Tryd.func4, Tryd.ntmps4
  go_wp2_with fail
  refine (K1.out _).mono ?_
  rintro e w1 ⟨rfl, hb1⟩
  have H1 := Lib.hid (HS.out.go hb1)
  clear hb1
  have K3 := Lib.hid (K2.out _ H1.out.below)
  go_wp2_with fail
  refine K3.out.mono ?_
  rintro e w2 ⟨v, rfl, hfew, hb2⟩
  have HFW := Lib.hid hfew
  clear hfew
  have H2 := Lib.hid (H1.out.go hb2)
  clear hb2 K3 K1 K2 H1
  by_cases hv0 : 0 < v
  · have HB := Lib.hid H2.out.below
    go_wp2_with (go_at_call 8; refine (HAW.out _ HB.out).mono ?_; rintro e w9 ⟨rfl, hb9⟩)
    go_ret
    exact ⟨rfl, HB.out.trans (hb9.mono HB.out.size)⟩
  have hv0' : v ≤ 0 := by omega
  have HF := Lib.hid (HFW.out hv0')
  clear HFW hv0
  by_cases hn6 : 60 < n
  · have HB := Lib.hid H2.out.below
    have hn6' : 60 < (n : Int) := by omega
    go_wp2_with (go_at_call 8; refine (HAW.out _ HB.out).mono ?_; rintro e w9 ⟨rfl, hb9⟩)
    go_ret
    exact ⟨rfl, HB.out.trans (hb9.mono HB.out.size)⟩
  have hn6' : (n : Int) ≤ 60 := by omega
  clear hn6 HS
  obtain ⟨k, hk, hkk⟩ := pick_k x (mn := (n : Int) + 1) (by omega) (by omega)
  have hw1 : IntKind.i64.wrap ((n : Int) + 1) = (n : Int) + 1 := by rw [IntKind.wrap_i64]; omega
  have hmw : IntKind.u64.wrap ((n : Int) + 1) = (n : Int) + 1 := by
    rw [show IntKind.u64.wrap ((n : Int) + 1) = ((n : Int) + 1) % 18446744073709551616 from rfl]; omega
  have hz1 : ¬ (n : Int) + 1 = 0 := by omega
  have e0 := hkk
  clear hkk
  go_upto_region 4 with fail
  obtain ⟨c, er, hce⟩ : ∃ c er, allP b l = (c, er) := ⟨_, _, rfl⟩
  obtain ⟨d, f, hdf⟩ : ∃ d f, allP b (l.take k) = (d, f) := ⟨_, _, rfl⟩
  have h6 : ∀ r ∈ l, r.msg.keys.length ≤ 1000000 := fun r hr => Nat.le_trans (HF.out r hr).1 (by decide)
  have KA4 := RwW10.all_any (cp := cp) (StrsAt.below HX.out H2.out.below (Nat.le_refl _)) (MsgsAt.below HM.out H2.out.below (Nat.le_refl _)) hwc hmc H2.out.below.size (RowsAt.below HR.out H2.out.below (Nat.le_refl _)) hcp h6
  have KA5 := fun (wr : World) (g : Below w.heap.size w wr) => RwW10.all_any (cp := cp) (StrsAt.below HX.out g (Nat.le_refl _)) (MsgsAt.below HM.out g (Nat.le_refl _)) hwc hmc g.size (RowAt.take (RowsAt.below HR.out g (Nat.le_refl _)) (k := k) (by omega)) (show k ≤ cp by omega) (fun r hr => h6 r (List.mem_of_mem_take hr))
  simp only [hce] at KA4
  simp only [hdf] at KA5
  have HCE := Lib.hid hce
  have HDF := Lib.hid hdf
  have H6 := Lib.hid h6
  have K4 := Lib.hid KA4
  have K5 := Lib.hid KA5
  clear KA4 KA5 hce hdf h6
  obtain ⟨b0, b1, b2, b3, b4, b5⟩ := H2.out.box
  go_upto_region 5 with (go_at_call 17; go_loud (
     refine K4.out.mono ?_
     rintro e w3 ⟨WA3, wn3, wc3, MA3, mn3, mc3, rfl, hw3, hm3, hl3, hb3⟩
     have H3 := Lib.hid (H2.out.go hb3)
     have S4 := Lib.hid (Sb.new (c := c) H3.out.below hb3.size hw3 hm3 hl3)
     clear hw3 hm3 hl3 hb3 b0 b1 b2 b3 b4 b5))
  have H4 := Lib.hid (H3.out.alloc (.cells #[.string c.id, .int .i64 c.valid, .int .i64 c.next, .int .i64 c.high, .slice WA3 wn3 wc3, .slice MA3 mn3 mc3] 25))
  obtain ⟨X, hX⟩ : ∃ X, X = w3.heap.size := ⟨_, rfl⟩
  rw [← hX] at S4 ⊢
  clear hX H2 H3 K4
  generalize (World.alloc w3 _) = w4 at H4 S4 ⊢
  have g0 : (0 : Int) ≤ (k : Int) := by omega
  have g1 : (k : Int) ≤ (n : Int) := by omega
  have g2 : (k : Int) ≤ (cp : Int) := by omega
  have g3 : k ≤ cp := by omega
  have K5b := Lib.hid (fun (wr : World) (g : Below w4.heap.size w4 wr) => K5.out wr (H4.out.below.trans (g.mono H4.out.below.size)))
  have CB4 := Lib.hid (fun (wr : World) (g : Below w4.heap.size w4 wr) => (H4.out.go g).box)
  obtain ⟨b0, b1, b2, b3, b4, b5⟩ := H4.out.box
  go_cut [10, 11] (fun sp se wx => ∃ Y, sp = .pointer (some ⟨Y, 0, none⟩) ∧ se = .int .i64 f ∧ Hid (Told w w4 wx Y d))
  case first =>
    refine wp_region_noPanic ?_
    refine wp_region_held_drew (S := fun wr => wr.cell? { block := w.heap.size, off := 0 } = some (.string b.id) ∧ wr.cell? { block := w.heap.size, off := 1 } = some (.int .i64 b.valid) ∧ wr.cell? { block := w.heap.size, off := 2 } = some (.int .i64 b.next) ∧ wr.cell? { block := w.heap.size, off := 3 } = some (.int .i64 b.high) ∧ wr.cell? { block := w.heap.size, off := 4 } = some (.slice WA wn wcp) ∧ wr.cell? { block := w.heap.size, off := 5 } = some (.slice MA mn mcp)) (by kernel_rfl) ?_ (fun hHeld => ?_)
    · exact CB4.out _ (Below.refl _ _).drew
    refine wpAnyH_take (i := 0) (v := ?_) rfl (by kernel_rfl) (by kernel_rfl) (by kernel_rfl) (fun _ _ _ h => h) (Or.inl ⟨by rfl, ?_⟩) hHeld ?_
    rotate_left
    · intro wq hSq; (try dsimp only at hSq); go_simp; try with_reducible rfl
    try simp only [Act.put, List.setIfInBounds_toArray, List.set_cons_zero, List.set_cons_succ, List.getElem_toArray, List.getElem_cons_zero, List.getElem_cons_succ]
    refine wpAnyH_take (i := 1) (v := ?_) rfl (by kernel_rfl) (by kernel_rfl) (by kernel_rfl) (fun _ _ _ h => h) (Or.inl ⟨by rfl, ?_⟩) hHeld ?_
    rotate_left
    · intro wq hSq; (try dsimp only at hSq); go_simp; try with_reducible rfl
    try simp only [Act.put, List.setIfInBounds_toArray, List.set_cons_zero, List.set_cons_succ, List.getElem_toArray, List.getElem_cons_zero, List.getElem_cons_succ]
    refine wpAnyH_take (i := 2) (v := ?_) rfl (by kernel_rfl) (by kernel_rfl) (by kernel_rfl) (fun _ _ _ h => h) (Or.inl ⟨by rfl, ?_⟩) hHeld ?_
    rotate_left
    · intro wq hSq; (try dsimp only at hSq); go_simp; try with_reducible rfl
    try simp only [Act.put, List.setIfInBounds_toArray, List.set_cons_zero, List.set_cons_succ, List.getElem_toArray, List.getElem_cons_zero, List.getElem_cons_succ]
    refine wpAnyH_take (i := 3) (v := ?_) rfl (by kernel_rfl) (by kernel_rfl) (by kernel_rfl) (fun _ _ _ h => h) (Or.inl ⟨by rfl, ?_⟩) hHeld ?_
    rotate_left
    · intro wq hSq; (try dsimp only at hSq); go_simp; try with_reducible rfl
    try simp only [Act.put, List.setIfInBounds_toArray, List.set_cons_zero, List.set_cons_succ, List.getElem_toArray, List.getElem_cons_zero, List.getElem_cons_succ]
    refine wpAnyH_ready (rs := [4, 8]) (by kernel_rfl) (by simp) ?_
    refine AllReadyH.cons rfl (fun K hK => ?_) (AllReadyH.cons rfl (fun K hK => ?_) AllReadyH.nil)
    · clear b0 b1 b2 b3 b4 b5 hHeld
      go_simp; try with_reducible rfl
      go_at_call 17
      refine (K5b.out _ (Below.refl _ _).drew).mono ?_
      rintro e w5 ⟨WA5, wn5, wc5, MA5, mn5, mc5, rfl, hw5, hm5, hl5, hb5⟩
      have X5 := Lib.hid (show Below w4.heap.size w4 w5 from (Below.drew (Below.refl _ _)).trans hb5)
      have T5 := Lib.hid (told_after H4.out.below X5.out hl5 hw5 hm5)
      clear hb5 hl5 hw5 hm5
      dsimp only
      refine hK.out _ _ ?_ (fun hHeld => ?_)
      · exact CB4.out _ X5.out
      clear hK K
      try simp only [Act.put, List.setIfInBounds_toArray, List.set_cons_zero, List.set_cons_succ, List.getElem_toArray, List.getElem_cons_zero, List.getElem_cons_succ]
      refine wpAnyH_take (i := 5) (v := ?_) rfl (by kernel_rfl) (by kernel_rfl) (by kernel_rfl) (fun _ _ _ h => h) (Or.inl ⟨by rfl, ?_⟩) hHeld ?_
      rotate_left
      · intro wq hSq; (try dsimp only at hSq); go_simp; try with_reducible rfl
      try simp only [Act.put, List.setIfInBounds_toArray, List.set_cons_zero, List.set_cons_succ, List.getElem_toArray, List.getElem_cons_zero, List.getElem_cons_succ]
      refine wpAnyH_take (i := 6) (v := ?_) rfl (by kernel_rfl) (by kernel_rfl) (by kernel_rfl) (fun _ _ _ h => h) (Or.inl ⟨by rfl, ?_⟩) hHeld ?_
      rotate_left
      · intro wq hSq; (try dsimp only at hSq); go_simp; try with_reducible rfl
      try simp only [Act.put, List.setIfInBounds_toArray, List.set_cons_zero, List.set_cons_succ, List.getElem_toArray, List.getElem_cons_zero, List.getElem_cons_succ]
      refine wpAnyH_take (i := 7) (v := ?_) rfl (by kernel_rfl) (by kernel_rfl) (by kernel_rfl) (fun _ _ _ h => h) (Or.inl ⟨by rfl, ?_⟩) hHeld ?_
      rotate_left
      · intro wq hSq; (try dsimp only at hSq); go_simp; try with_reducible rfl
      try simp only [Act.put, List.setIfInBounds_toArray, List.set_cons_zero, List.set_cons_succ, List.getElem_toArray, List.getElem_cons_zero, List.getElem_cons_succ]
      refine wpAnyH_ready (rs := [8]) (by kernel_rfl) (by simp) ?_
      refine AllReadyH.cons rfl (fun K hK => ?_) AllReadyH.nil
      clear hHeld
      go_simp; try with_reducible rfl
      refine hK.out _ _ ?_ (fun hHeld => ?_)
      · exact CB4.out _ (X5.out.alloc X5.out.size _)
      clear hK K
      try simp only [Act.put, List.setIfInBounds_toArray, List.set_cons_zero, List.set_cons_succ, List.getElem_toArray, List.getElem_cons_zero, List.getElem_cons_succ]
      refine wpAnyH_ready (rs := [9]) (by kernel_rfl) (by simp) ?_
      refine AllReadyH.cons rfl (fun K hK => ?_) AllReadyH.nil
      clear hHeld
      go_simp; try with_reducible rfl
      refine hK.out _ _ ?_ (fun hHeld => ?_)
      · exact CB4.out _ (X5.out.alloc X5.out.size _)
      clear hK K
      try simp only [Act.put, List.setIfInBounds_toArray, List.set_cons_zero, List.set_cons_succ, List.getElem_toArray, List.getElem_cons_zero, List.getElem_cons_succ]
      refine wpAnyH_take (i := 10) (v := ?_) rfl (by kernel_rfl) (by kernel_rfl) (by kernel_rfl) (fun _ _ _ h => h) (Or.inl ⟨by rfl, ?_⟩) hHeld ?_
      rotate_left
      · intro wq hSq; (try dsimp only at hSq); go_simp; try with_reducible rfl
      try simp only [Act.put, List.setIfInBounds_toArray, List.set_cons_zero, List.set_cons_succ, List.getElem_toArray, List.getElem_cons_zero, List.getElem_cons_succ]
      refine wpAnyH_done (by kernel_rfl) ?_ _
      refine NoPanic.normal ?_
      go_wp2_with fail
      go_meet
      exact ⟨_, rfl, rfl, T5.out⟩
    · clear b0 b1 b2 b3 b4 b5 hHeld
      go_simp; try with_reducible rfl
      refine hK.out _ _ ?_ (fun hHeld => ?_)
      · exact CB4.out _ ((Below.refl _ _).drew.alloc (Nat.le_refl _) _)
      clear hK K
      try simp only [Act.put, List.setIfInBounds_toArray, List.set_cons_zero, List.set_cons_succ, List.getElem_toArray, List.getElem_cons_zero, List.getElem_cons_succ]
      refine wpAnyH_ready (rs := [4]) (by kernel_rfl) (by simp) ?_
      refine AllReadyH.cons rfl (fun K hK => ?_) AllReadyH.nil
      clear hHeld
      go_simp; try with_reducible rfl
      go_at_call 17
      refine (K5b.out _ ((Below.refl _ _).drew.alloc (Nat.le_refl _) _)).mono ?_
      rintro e w5 ⟨WA5, wn5, wc5, MA5, mn5, mc5, rfl, hw5, hm5, hl5, hb5⟩
      have hbz : w5.heap[w4.heap.size]? = some (.cells #[.string ⟨#[]⟩, .int .i64 0, .int .i64 0, .int .i64 0, .slice none 0 0, .slice none 0 0] 25 (0, 0)) := (hb5.block w4.heap.size (by simp)).trans (heap_alloc_new w4.drew _)
      have zc := fun o => cell_of_row _ _ o _ _ _ hbz
      have z0 := (zc 0).trans (show _ = some (Value.string ⟨#[]⟩) from rfl)
      have z1 := (zc 1).trans (show _ = some (Value.int .i64 0) from rfl)
      have z2 := (zc 2).trans (show _ = some (Value.int .i64 0) from rfl)
      have z3 := (zc 3).trans (show _ = some (Value.int .i64 0) from rfl)
      have z4 := (zc 4).trans (show _ = some (Value.slice none 0 0) from rfl)
      have z5 := (zc 5).trans (show _ = some (Value.slice none 0 0) from rfl)
      have zf : ∀ i, World.frozen? w5 { block := w4.heap.size, off := i } = false := fun i => by simp [World.frozen?, hbz]
      have f0 := zf 0
      have f1 := zf 1
      have f2 := zf 2
      have f3 := zf 3
      have f4 := zf 4
      have f5 := zf 5
      have X5 := Lib.hid (show Below w4.heap.size w4 w5 from ((Below.drew (Below.refl _ _)).alloc (Nat.le_refl _) _).trans (hb5.mono (by simp)))
      have T5 := Lib.hid (told_before H4.out.below hbz (Nat.le_refl _) (by simp) X5.out hl5 hw5 hm5)
      unfold put6 at T5
      clear zc zf hbz hb5 hl5 hw5 hm5
      dsimp only
      refine hK.out _ _ ?_ (fun hHeld => ?_)
      · exact CB4.out _ X5.out
      clear hK K
      try simp only [Act.put, List.setIfInBounds_toArray, List.set_cons_zero, List.set_cons_succ, List.getElem_toArray, List.getElem_cons_zero, List.getElem_cons_succ]
      refine wpAnyH_take (i := 5) (v := ?_) rfl (by kernel_rfl) (by kernel_rfl) (by kernel_rfl) (fun _ _ _ h => h) (Or.inl ⟨by rfl, ?_⟩) hHeld ?_
      rotate_left
      · intro wq hSq; (try dsimp only at hSq); go_simp; try with_reducible rfl
      try simp only [Act.put, List.setIfInBounds_toArray, List.set_cons_zero, List.set_cons_succ, List.getElem_toArray, List.getElem_cons_zero, List.getElem_cons_succ]
      refine wpAnyH_take (i := 6) (v := ?_) rfl (by kernel_rfl) (by kernel_rfl) (by kernel_rfl) (fun _ _ _ h => h) (Or.inl ⟨by rfl, ?_⟩) hHeld ?_
      rotate_left
      · intro wq hSq; (try dsimp only at hSq); go_simp; try with_reducible rfl
      try simp only [Act.put, List.setIfInBounds_toArray, List.set_cons_zero, List.set_cons_succ, List.getElem_toArray, List.getElem_cons_zero, List.getElem_cons_succ]
      refine wpAnyH_take (i := 7) (v := ?_) rfl (by kernel_rfl) (by kernel_rfl) (by kernel_rfl) (fun _ _ _ h => h) (Or.inl ⟨by rfl, ?_⟩) hHeld ?_
      rotate_left
      · intro wq hSq; (try dsimp only at hSq); go_simp; try with_reducible rfl
      try simp only [Act.put, List.setIfInBounds_toArray, List.set_cons_zero, List.set_cons_succ, List.getElem_toArray, List.getElem_cons_zero, List.getElem_cons_succ]
      refine wpAnyH_ready (rs := [9]) (by kernel_rfl) (by simp) ?_
      refine AllReadyH.cons rfl (fun K hK => ?_) AllReadyH.nil
      clear hHeld
      go_simp; try with_reducible rfl
      refine hK.out _ _ ?_ (fun hHeld => ?_)
      · exact CB4.out _ (chain_below X5.out (Nat.le_refl _) _ _ _ _ _ _)
      clear hK K
      try simp only [Act.put, List.setIfInBounds_toArray, List.set_cons_zero, List.set_cons_succ, List.getElem_toArray, List.getElem_cons_zero, List.getElem_cons_succ]
      refine wpAnyH_take (i := 10) (v := ?_) rfl (by kernel_rfl) (by kernel_rfl) (by kernel_rfl) (fun _ _ _ h => h) (Or.inl ⟨by rfl, ?_⟩) hHeld ?_
      rotate_left
      · intro wq hSq; (try dsimp only at hSq); go_simp; try with_reducible rfl
      try simp only [Act.put, List.setIfInBounds_toArray, List.set_cons_zero, List.set_cons_succ, List.getElem_toArray, List.getElem_cons_zero, List.getElem_cons_succ]
      refine wpAnyH_done (by kernel_rfl) ?_ _
      refine NoPanic.normal ?_
      go_wp2_with fail
      go_meet
      exact ⟨_, rfl, rfl, T5.out⟩
  case rest =>
    clear K5b CB4 K5 b0 b1 b2 b3 b4 b5
    obtain ⟨Y, rfl, rfl, HT⟩ := hcut
    obtain ⟨w5, hw5⟩ : ∃ w5, w5 = wc := ⟨_, rfl⟩
    subst hw5
    obtain ⟨hb5, WA5, wn5, wc5, MA5, mn5, mc5, hs5⟩ := HT.out
    have B5 := Lib.hid (H4.out.below.trans (hb5.mono H4.out.below.size))
    have SX := Lib.hid (S4.out.go hb5)
    have SY := Lib.hid hs5
    clear HT hs5 hb5 S4 H4
    by_cases hf : f = 0
    case neg =>
      have hcd := (parts_of (b := b) (l := l) k).2 (by rw [HDF.out]; exact hf)
      rw [HCE.out, HDF.out] at hcd
      have hef : er = f := by injection hcd
      subst hef
      have hne : (er != 0) = true := by simpa using hf
      clear hf hcd
      go_wp2_with (go_at_call 8; refine (HAW.out _ B5.out).mono ?_; rintro e w9 ⟨rfl, hb9⟩)
      go_ret
      exact ⟨rfl, B5.out.trans (hb9.mono B5.out.size)⟩
    subst hf
    have hcd := (parts_of (b := b) (l := l) k).1 (by rw [HDF.out])
    rw [HCE.out, HDF.out] at hcd
    have HCD := Lib.hid hcd
    clear hcd
    have CB5 := Lib.hid (fun (wr : World) (g : Below w5.heap.size w5 wr) => show wr.cell? { block := Y, off := 0 } = some (.string d.id) ∧ wr.cell? { block := Y, off := 1 } = some (.int .i64 d.valid) ∧ wr.cell? { block := Y, off := 2 } = some (.int .i64 d.next) ∧ wr.cell? { block := Y, off := 3 } = some (.int .i64 d.high) ∧ wr.cell? { block := Y, off := 4 } = some (.slice WA5 wn5 wc5) ∧ wr.cell? { block := Y, off := 5 } = some (.slice MA5 mn5 mc5) from by
      obtain ⟨a0, a1, a2, a3, a4, a5, _⟩ := six_at (SY.out.go g).blk
      exact ⟨a0, a1, a2, a3, a4, a5⟩)
    go_upto_region 8 with fail
    by_cases hck : cp = k
    · have hn1 : k = n := by omega
      subst hn1
      subst hck
      have hdr : l.drop cp = [] := List.drop_of_length_le (by omega)
      have K8 := Lib.hid (fun (wr : World) (g : Below w5.heap.size w5 wr) => show Calls Tryd.prog 17 #[.agg #[.string d.id, .int .i64 d.valid, .int .i64 d.next, .int .i64 d.high, .slice WA5 wn5 wc5, .slice MA5 mn5 mc5], .slice A 0 0] wr (BoxOut c er wr) from by
        have s := SY.out.go g
        have hrows : RowsAt wr wr.heap.size A 0 (l.drop cp) := by
          rw [hdr]; exact RowAt.nil _ _ _ _ A
        have h := RwW10.all_any (cp := 0) s.ws s.ms s.hwc s.hmc (Nat.le_refl _) hrows (show 0 ≤ 0 by omega) (fun r hr => H6.out r (List.mem_of_mem_drop hr))
        rw [← HCD.out] at h
        exact h)
      have KP := Lib.hid (fun (wr : World) (g : Below w5.heap.size w5 wr) => bytes_any (cp := cp) (RowAt.take (RowsAt.below HR.out (SY.out.go g).bel (Nat.le_refl _)) (k := cp) (by omega)) (SY.out.go g).bel.size (fun r hr => HF.out r (List.mem_of_mem_take hr)))
      have KQ := Lib.hid (fun (wr : World) (g : Below w5.heap.size w5 wr) => show Calls Tryd.prog 19 #[.slice A 0 0] wr (BsOut (bytesR (l.drop cp)) wr) from by
        have s := SY.out.go g
        have hrows : RowsAt wr wr.heap.size A 0 (l.drop cp) := by
          rw [hdr]; exact RowAt.nil _ _ _ _ A
        exact bytes_any (cp := 0) hrows (Nat.le_refl _) (fun r hr => HF.out r (List.mem_of_mem_drop hr)))
      have KL := Lib.hid (fun (wr : World) (g : Below w5.heap.size w5 wr) => bytes_any (cp := cp) (RowsAt.below HR.out (SY.out.go g).bel (Nat.le_refl _)) (SY.out.go g).bel.size HF.out)
      have HBP := Lib.hid (bytes_parts (l := l) (a := l.take cp) (b := l.drop cp) (List.take_append_drop cp l).symm)
      clear HR hdr
      obtain ⟨b0, b1, b2, b3, b4, b5⟩ := CB5.out w5 (Below.refl _ _)
      go_cut [12, 13] (fun sp se wx => ∃ Y, sp = .pointer (some ⟨Y, 0, none⟩) ∧ se = .int .i64 er ∧ Hid (Told w w5 wx Y c))
      case first =>
        refine wp_region_noPanic ?_
        refine wp_region_held_drew (S := fun wr => wr.cell? { block := Y, off := 0 } = some (.string d.id) ∧ wr.cell? { block := Y, off := 1 } = some (.int .i64 d.valid) ∧ wr.cell? { block := Y, off := 2 } = some (.int .i64 d.next) ∧ wr.cell? { block := Y, off := 3 } = some (.int .i64 d.high) ∧ wr.cell? { block := Y, off := 4 } = some (.slice WA5 wn5 wc5) ∧ wr.cell? { block := Y, off := 5 } = some (.slice MA5 mn5 mc5)) (by kernel_rfl) ?_ (fun hHeld => ?_)
        · exact CB5.out _ (Below.refl _ _).drew
        refine wpAnyH_take (i := 0) (v := ?_) rfl (by kernel_rfl) (by kernel_rfl) (by kernel_rfl) (fun _ _ _ h => h) (Or.inl ⟨by rfl, ?_⟩) hHeld ?_
        rotate_left
        · intro wq hSq; (try dsimp only at hSq); go_simp; try with_reducible rfl
        try simp only [Act.put, List.setIfInBounds_toArray, List.set_cons_zero, List.set_cons_succ, List.getElem_toArray, List.getElem_cons_zero, List.getElem_cons_succ]
        refine wpAnyH_take (i := 1) (v := ?_) rfl (by kernel_rfl) (by kernel_rfl) (by kernel_rfl) (fun _ _ _ h => h) (Or.inl ⟨by rfl, ?_⟩) hHeld ?_
        rotate_left
        · intro wq hSq; (try dsimp only at hSq); go_simp; try with_reducible rfl
        try simp only [Act.put, List.setIfInBounds_toArray, List.set_cons_zero, List.set_cons_succ, List.getElem_toArray, List.getElem_cons_zero, List.getElem_cons_succ]
        refine wpAnyH_take (i := 2) (v := ?_) rfl (by kernel_rfl) (by kernel_rfl) (by kernel_rfl) (fun _ _ _ h => h) (Or.inl ⟨by rfl, ?_⟩) hHeld ?_
        rotate_left
        · intro wq hSq; (try dsimp only at hSq); go_simp; try with_reducible rfl
        try simp only [Act.put, List.setIfInBounds_toArray, List.set_cons_zero, List.set_cons_succ, List.getElem_toArray, List.getElem_cons_zero, List.getElem_cons_succ]
        refine wpAnyH_take (i := 3) (v := ?_) rfl (by kernel_rfl) (by kernel_rfl) (by kernel_rfl) (fun _ _ _ h => h) (Or.inl ⟨by rfl, ?_⟩) hHeld ?_
        rotate_left
        · intro wq hSq; (try dsimp only at hSq); go_simp; try with_reducible rfl
        try simp only [Act.put, List.setIfInBounds_toArray, List.set_cons_zero, List.set_cons_succ, List.getElem_toArray, List.getElem_cons_zero, List.getElem_cons_succ]
        refine wpAnyH_ready (rs := [4, 8]) (by kernel_rfl) (by simp) ?_
        refine AllReadyH.cons rfl (fun K hK => ?_) (AllReadyH.cons rfl (fun K hK => ?_) AllReadyH.nil)
        · clear b0 b1 b2 b3 b4 b5 hHeld
          go_simp; try with_reducible rfl
          go_at_call 17
          refine (K8.out _ (Below.refl _ _).drew).mono ?_
          rintro e w8 ⟨WA5, wn5, wc5, MA5, mn5, mc5, rfl, hw5, hm5, hl5, hb5⟩
          have X5 := Lib.hid (show Below w5.heap.size w5 w8 from (Below.drew (Below.refl _ _)).trans hb5)
          have T5 := Lib.hid (told_after SY.out.bel X5.out hl5 hw5 hm5)
          clear hb5 hl5 hw5 hm5
          dsimp only
          refine hK.out _ _ ?_ (fun hHeld => ?_)
          · exact CB5.out _ X5.out
          clear hK K
          try simp only [Act.put, List.setIfInBounds_toArray, List.set_cons_zero, List.set_cons_succ, List.getElem_toArray, List.getElem_cons_zero, List.getElem_cons_succ]
          refine wpAnyH_take (i := 5) (v := ?_) rfl (by kernel_rfl) (by kernel_rfl) (by kernel_rfl) (fun _ _ _ h => h) (Or.inl ⟨by rfl, ?_⟩) hHeld ?_
          rotate_left
          · intro wq hSq; (try dsimp only at hSq); go_simp; try with_reducible rfl
          try simp only [Act.put, List.setIfInBounds_toArray, List.set_cons_zero, List.set_cons_succ, List.getElem_toArray, List.getElem_cons_zero, List.getElem_cons_succ]
          refine wpAnyH_take (i := 6) (v := ?_) rfl (by kernel_rfl) (by kernel_rfl) (by kernel_rfl) (fun _ _ _ h => h) (Or.inl ⟨by rfl, ?_⟩) hHeld ?_
          rotate_left
          · intro wq hSq; (try dsimp only at hSq); go_simp; try with_reducible rfl
          try simp only [Act.put, List.setIfInBounds_toArray, List.set_cons_zero, List.set_cons_succ, List.getElem_toArray, List.getElem_cons_zero, List.getElem_cons_succ]
          refine wpAnyH_take (i := 7) (v := ?_) rfl (by kernel_rfl) (by kernel_rfl) (by kernel_rfl) (fun _ _ _ h => h) (Or.inl ⟨by rfl, ?_⟩) hHeld ?_
          rotate_left
          · intro wq hSq; (try dsimp only at hSq); go_simp; try with_reducible rfl
          try simp only [Act.put, List.setIfInBounds_toArray, List.set_cons_zero, List.set_cons_succ, List.getElem_toArray, List.getElem_cons_zero, List.getElem_cons_succ]
          refine wpAnyH_ready (rs := [8]) (by kernel_rfl) (by simp) ?_
          refine AllReadyH.cons rfl (fun K hK => ?_) AllReadyH.nil
          clear hHeld
          go_simp; try with_reducible rfl
          refine hK.out _ _ ?_ (fun hHeld => ?_)
          · exact CB5.out _ (X5.out.alloc X5.out.size _)
          clear hK K
          try simp only [Act.put, List.setIfInBounds_toArray, List.set_cons_zero, List.set_cons_succ, List.getElem_toArray, List.getElem_cons_zero, List.getElem_cons_succ]
          refine wpAnyH_ready (rs := [9]) (by kernel_rfl) (by simp) ?_
          refine AllReadyH.cons rfl (fun K hK => ?_) AllReadyH.nil
          clear hHeld
          go_simp; try with_reducible rfl
          refine hK.out _ _ ?_ (fun hHeld => ?_)
          · exact CB5.out _ (X5.out.alloc X5.out.size _)
          clear hK K
          try simp only [Act.put, List.setIfInBounds_toArray, List.set_cons_zero, List.set_cons_succ, List.getElem_toArray, List.getElem_cons_zero, List.getElem_cons_succ]
          refine wpAnyH_take (i := 10) (v := ?_) rfl (by kernel_rfl) (by kernel_rfl) (by kernel_rfl) (fun _ _ _ h => h) (Or.inl ⟨by rfl, ?_⟩) hHeld ?_
          rotate_left
          · intro wq hSq; (try dsimp only at hSq); go_simp; try with_reducible rfl
          try simp only [Act.put, List.setIfInBounds_toArray, List.set_cons_zero, List.set_cons_succ, List.getElem_toArray, List.getElem_cons_zero, List.getElem_cons_succ]
          refine wpAnyH_done (by kernel_rfl) ?_ _
          refine NoPanic.normal ?_
          go_wp2_with fail
          go_meet
          exact ⟨_, rfl, rfl, T5.out⟩
        · clear b0 b1 b2 b3 b4 b5 hHeld
          go_simp; try with_reducible rfl
          refine hK.out _ _ ?_ (fun hHeld => ?_)
          · exact CB5.out _ ((Below.refl _ _).drew.alloc (Nat.le_refl _) _)
          clear hK K
          try simp only [Act.put, List.setIfInBounds_toArray, List.set_cons_zero, List.set_cons_succ, List.getElem_toArray, List.getElem_cons_zero, List.getElem_cons_succ]
          refine wpAnyH_ready (rs := [4]) (by kernel_rfl) (by simp) ?_
          refine AllReadyH.cons rfl (fun K hK => ?_) AllReadyH.nil
          clear hHeld
          go_simp; try with_reducible rfl
          go_at_call 17
          refine (K8.out _ ((Below.refl _ _).drew.alloc (Nat.le_refl _) _)).mono ?_
          rintro e w8 ⟨WA5, wn5, wc5, MA5, mn5, mc5, rfl, hw5, hm5, hl5, hb5⟩
          have hbz : w8.heap[w5.heap.size]? = some (.cells #[.string ⟨#[]⟩, .int .i64 0, .int .i64 0, .int .i64 0, .slice none 0 0, .slice none 0 0] 25 (0, 0)) := (hb5.block w5.heap.size (by simp)).trans (heap_alloc_new w5.drew _)
          have zc := fun o => cell_of_row _ _ o _ _ _ hbz
          have z0 := (zc 0).trans (show _ = some (Value.string ⟨#[]⟩) from rfl)
          have z1 := (zc 1).trans (show _ = some (Value.int .i64 0) from rfl)
          have z2 := (zc 2).trans (show _ = some (Value.int .i64 0) from rfl)
          have z3 := (zc 3).trans (show _ = some (Value.int .i64 0) from rfl)
          have z4 := (zc 4).trans (show _ = some (Value.slice none 0 0) from rfl)
          have z5 := (zc 5).trans (show _ = some (Value.slice none 0 0) from rfl)
          have zf : ∀ i, World.frozen? w8 { block := w5.heap.size, off := i } = false := fun i => by simp [World.frozen?, hbz]
          have f0 := zf 0
          have f1 := zf 1
          have f2 := zf 2
          have f3 := zf 3
          have f4 := zf 4
          have f5 := zf 5
          have X5 := Lib.hid (show Below w5.heap.size w5 w8 from ((Below.drew (Below.refl _ _)).alloc (Nat.le_refl _) _).trans (hb5.mono (by simp)))
          have T5 := Lib.hid (told_before SY.out.bel hbz (Nat.le_refl _) (by simp) X5.out hl5 hw5 hm5)
          unfold put6 at T5
          clear zc zf hbz hb5 hl5 hw5 hm5
          dsimp only
          refine hK.out _ _ ?_ (fun hHeld => ?_)
          · exact CB5.out _ X5.out
          clear hK K
          try simp only [Act.put, List.setIfInBounds_toArray, List.set_cons_zero, List.set_cons_succ, List.getElem_toArray, List.getElem_cons_zero, List.getElem_cons_succ]
          refine wpAnyH_take (i := 5) (v := ?_) rfl (by kernel_rfl) (by kernel_rfl) (by kernel_rfl) (fun _ _ _ h => h) (Or.inl ⟨by rfl, ?_⟩) hHeld ?_
          rotate_left
          · intro wq hSq; (try dsimp only at hSq); go_simp; try with_reducible rfl
          try simp only [Act.put, List.setIfInBounds_toArray, List.set_cons_zero, List.set_cons_succ, List.getElem_toArray, List.getElem_cons_zero, List.getElem_cons_succ]
          refine wpAnyH_take (i := 6) (v := ?_) rfl (by kernel_rfl) (by kernel_rfl) (by kernel_rfl) (fun _ _ _ h => h) (Or.inl ⟨by rfl, ?_⟩) hHeld ?_
          rotate_left
          · intro wq hSq; (try dsimp only at hSq); go_simp; try with_reducible rfl
          try simp only [Act.put, List.setIfInBounds_toArray, List.set_cons_zero, List.set_cons_succ, List.getElem_toArray, List.getElem_cons_zero, List.getElem_cons_succ]
          refine wpAnyH_take (i := 7) (v := ?_) rfl (by kernel_rfl) (by kernel_rfl) (by kernel_rfl) (fun _ _ _ h => h) (Or.inl ⟨by rfl, ?_⟩) hHeld ?_
          rotate_left
          · intro wq hSq; (try dsimp only at hSq); go_simp; try with_reducible rfl
          try simp only [Act.put, List.setIfInBounds_toArray, List.set_cons_zero, List.set_cons_succ, List.getElem_toArray, List.getElem_cons_zero, List.getElem_cons_succ]
          refine wpAnyH_ready (rs := [9]) (by kernel_rfl) (by simp) ?_
          refine AllReadyH.cons rfl (fun K hK => ?_) AllReadyH.nil
          clear hHeld
          go_simp; try with_reducible rfl
          refine hK.out _ _ ?_ (fun hHeld => ?_)
          · exact CB5.out _ (chain_below X5.out (Nat.le_refl _) _ _ _ _ _ _)
          clear hK K
          try simp only [Act.put, List.setIfInBounds_toArray, List.set_cons_zero, List.set_cons_succ, List.getElem_toArray, List.getElem_cons_zero, List.getElem_cons_succ]
          refine wpAnyH_take (i := 10) (v := ?_) rfl (by kernel_rfl) (by kernel_rfl) (by kernel_rfl) (fun _ _ _ h => h) (Or.inl ⟨by rfl, ?_⟩) hHeld ?_
          rotate_left
          · intro wq hSq; (try dsimp only at hSq); go_simp; try with_reducible rfl
          try simp only [Act.put, List.setIfInBounds_toArray, List.set_cons_zero, List.set_cons_succ, List.getElem_toArray, List.getElem_cons_zero, List.getElem_cons_succ]
          refine wpAnyH_done (by kernel_rfl) ?_ _
          refine NoPanic.normal ?_
          go_wp2_with fail
          go_meet
          exact ⟨_, rfl, rfl, T5.out⟩
      case rest =>
        clear K8 CB5 b0 b1 b2 b3 b4 b5
        obtain ⟨Z, rfl, rfl, HT⟩ := hcut
        obtain ⟨w8, hw8⟩ : ∃ w8, w8 = wc := ⟨_, rfl⟩
        subst hw8
        obtain ⟨hb8, WA8, wn8, wc8, MA8, mn8, mc8, hs8⟩ := HT.out
        have G8 := Lib.hid hb8
        have SX8 := Lib.hid (SX.out.go hb8)
        have SZ8 := Lib.hid hs8
        clear HT hs8 hb8
        obtain ⟨b0, b1, b2, b3, b4, b5, _⟩ := six_at SX8.out.blk
        obtain ⟨a0, a1, a2, a3, a4, a5, _⟩ := six_at SZ8.out.blk
        have KS := refSame_any (bid := c.id) (bid' := c.id) (bv := c.valid) (bv' := c.valid) (bn := c.next) (bn' := c.next) (bh := c.high) (bh' := c.high) (wc := wc3) (wc' := wc8) (mc := mc3) (mc' := mc8) SX8.out.ws SX8.out.ms SZ8.out.ws SZ8.out.ms (Nat.le_refl _) (Nat.le_refl _) (Nat.le_refl _) (Nat.le_refl _)
        rw [BxS.eqX_eq rfl] at KS
        have KSH := Lib.hid KS
        clear KS
        go_upto_region 11 with (go_at_call 18; go_loud (
           refine KSH.out.mono ?_
           rintro e w9 ⟨rfl, hb9⟩
           have G9 := Lib.hid (G8.out.trans (hb9.mono G8.out.size))
           clear hb9 a0 a1 a2 a3 a4 a5 b0 b1 b2 b3 b4 b5))
        clear KSH G8 SX8 SZ8
        refine wp_region_noPanic ?_
        refine wp_region_held_drew (S := fun wr => True) (by kernel_rfl) ?_ (fun hHeld => ?_)
        · trivial
        refine wpAnyH_take (i := 0) (v := ?_) rfl (by kernel_rfl) (by kernel_rfl) (by kernel_rfl) (fun _ _ _ h => h) (Or.inl ⟨by rfl, ?_⟩) hHeld ?_
        rotate_left
        · intro wq hSq; (try dsimp only at hSq); go_simp; try with_reducible rfl
        try simp only [Act.put, List.setIfInBounds_toArray, List.set_cons_zero, List.set_cons_succ, List.getElem_toArray, List.getElem_cons_zero, List.getElem_cons_succ]
        refine wpAnyH_take (i := 1) (v := ?_) rfl (by kernel_rfl) (by kernel_rfl) (by kernel_rfl) (fun _ _ _ h => h) (Or.inl ⟨by rfl, ?_⟩) hHeld ?_
        rotate_left
        · intro wq hSq; (try dsimp only at hSq); go_simp; try with_reducible rfl
        try simp only [Act.put, List.setIfInBounds_toArray, List.set_cons_zero, List.set_cons_succ, List.getElem_toArray, List.getElem_cons_zero, List.getElem_cons_succ]
        refine wpAnyH_take (i := 2) (v := ?_) rfl (by kernel_rfl) (by kernel_rfl) (by kernel_rfl) (fun _ _ _ h => h) (Or.inl ⟨by rfl, ?_⟩) hHeld ?_
        rotate_left
        · intro wq hSq; (try dsimp only at hSq); go_simp; try with_reducible rfl
        try simp only [Act.put, List.setIfInBounds_toArray, List.set_cons_zero, List.set_cons_succ, List.getElem_toArray, List.getElem_cons_zero, List.getElem_cons_succ]
        refine wpAnyH_take (i := 4) (v := ?_) rfl (by kernel_rfl) (by kernel_rfl) (by kernel_rfl) (fun _ _ _ h => h) (Or.inl ⟨by rfl, ?_⟩) hHeld ?_
        rotate_left
        · intro wq hSq; (try dsimp only at hSq); go_simp; try with_reducible rfl
        try simp only [Act.put, List.setIfInBounds_toArray, List.set_cons_zero, List.set_cons_succ, List.getElem_toArray, List.getElem_cons_zero, List.getElem_cons_succ]
        refine wpAnyH_take (i := 5) (v := ?_) rfl (by kernel_rfl) (by kernel_rfl) (by kernel_rfl) (fun _ _ _ h => h) (Or.inl ⟨by rfl, ?_⟩) hHeld ?_
        rotate_left
        · intro wq hSq; (try dsimp only at hSq); go_simp; try with_reducible rfl
        try simp only [Act.put, List.setIfInBounds_toArray, List.set_cons_zero, List.set_cons_succ, List.getElem_toArray, List.getElem_cons_zero, List.getElem_cons_succ]
        refine wpAnyH_take (i := 6) (v := ?_) rfl (by kernel_rfl) (by kernel_rfl) (by kernel_rfl) (fun _ _ _ h => h) (Or.inl ⟨by rfl, ?_⟩) hHeld ?_
        rotate_left
        · intro wq hSq; (try dsimp only at hSq); go_simp; try with_reducible rfl
        try simp only [Act.put, List.setIfInBounds_toArray, List.set_cons_zero, List.set_cons_succ, List.getElem_toArray, List.getElem_cons_zero, List.getElem_cons_succ]
        refine wpAnyH_ready (rs := [3]) (by kernel_rfl) (by simp) ?_
        refine AllReadyH.cons rfl (fun K hK => ?_) AllReadyH.nil
        go_simp; try with_reducible rfl
        go_at_call 19
        (refine (KP.out _ G9.out.drew).mono ?_
         rintro e w10 ⟨Ap, np, cpp, rfl, _, hnp, hp3, hp4⟩
         have G10 := Lib.hid (G9.out.drew.trans (hp4.mono G9.out.size))
         have P10 := Lib.hid hp3
         clear hp3 hp4
         dsimp only)
        refine hK.out _ _ ?_ (fun hHeld => ?_)
        · trivial
        clear hK K
        try simp only [Act.put, List.setIfInBounds_toArray, List.set_cons_zero, List.set_cons_succ, List.getElem_toArray, List.getElem_cons_zero, List.getElem_cons_succ]
        refine wpAnyH_ready (rs := [7]) (by kernel_rfl) (by simp) ?_
        refine AllReadyH.cons rfl (fun K hK => ?_) AllReadyH.nil
        go_simp; try with_reducible rfl
        go_at_call 19
        (refine (KQ.out _ G10.out).mono ?_
         rintro e w11 ⟨Aq, nq, cq, rfl, _, hnq, hq3, hq4⟩
         have G11 := Lib.hid (G10.out.trans (hq4.mono G10.out.size))
         have P11 := Lib.hid (P10.out.below hq4 (Nat.le_refl _))
         have Q11 := Lib.hid hq3
         have S11 := hq4.size
         clear hq3 hq4
         dsimp only)
        refine hK.out _ _ ?_ (fun hHeld => ?_)
        · trivial
        clear hK K
        try simp only [Act.put, List.setIfInBounds_toArray, List.set_cons_zero, List.set_cons_succ, List.getElem_toArray, List.getElem_cons_zero, List.getElem_cons_succ]
        refine wpAnyH_take (i := 8) (v := ?_) rfl (by kernel_rfl) (by kernel_rfl) (by kernel_rfl) (fun _ _ _ h => h) (Or.inl ⟨by rfl, ?_⟩) hHeld ?_
        rotate_left
        · intro wq hSq; (try dsimp only at hSq); go_simp; try with_reducible rfl
        try simp only [Act.put, List.setIfInBounds_toArray, List.set_cons_zero, List.set_cons_succ, List.getElem_toArray, List.getElem_cons_zero, List.getElem_cons_succ]
        refine wpAnyH_take (i := 9) (v := ?_) rfl (by kernel_rfl) (by kernel_rfl) (by kernel_rfl) (fun _ _ _ h => h) (Or.inl ⟨by rfl, ?_⟩) hHeld ?_
        rotate_left
        · intro wq hSq; (try dsimp only at hSq); go_simp; try with_reducible rfl
        try simp only [Act.put, List.setIfInBounds_toArray, List.set_cons_zero, List.set_cons_succ, List.getElem_toArray, List.getElem_cons_zero, List.getElem_cons_succ]
        refine wpAnyH_done (by kernel_rfl) ?_ _
        refine NoPanic.normal ?_
        go_upto_region 13 with (go_at_call 19; go_loud (
           refine (KL.out _ G11.out).mono ?_
           rintro e w12 ⟨At, nt, ct, rfl, _, ht2, ht3, ht4⟩
           have G12 := Lib.hid (G11.out.trans (ht4.mono G11.out.size))
           have T12 := Lib.hid ht3
           have P12 := Lib.hid (P11.out.below ht4 S11)
           have Q12 := Lib.hid (Q11.out.below ht4 (Nat.le_refl _))
           clear ht3 ht4))
        clear KP KQ KL G11 P11 Q11
        have B12 := Lib.hid (SY.out.bel.trans (G12.out.mono SY.out.bel.size))
        have htl := T12.out.1
        by_cases hnt : nt = 0
        · subst hnt
          clear htl
          go_wp2_with (go_at_call 8; refine (HAW.out _ B12.out).mono ?_; rintro e w13 ⟨rfl, hb13⟩)
          go_ret
          exact ⟨rfl, B12.out.trans (hb13.mono B12.out.size)⟩
        have hnt' : (0 : Int) < (nt : Int) := by omega
        have q1 := T12.out.conv ct
        have q2 := P12.out.conv cpp
        have q3 := Q12.out.conv cq
        rcases HBP.out with h | h
        · rw [h] at htl
          exact absurd htl.symm hnt
        rw [h, cat_eq] at q1
        have y1 : (⟨(bytesR (l.take cp)).toArray⟩ : ByteArray).size ≤ 1000000000 := by
          show (bytesR (l.take cp)).toArray.size ≤ 1000000000
          have := P12.out.1
          rw [List.size_toArray]
          omega
        have y2 : (⟨(bytesR (l.drop cp)).toArray⟩ : ByteArray).size ≤ 1000000000 := by
          show (bytesR (l.drop cp)).toArray.size ≤ 1000000000
          have := Q12.out.1
          rw [List.size_toArray]
          omega
        generalize (⟨(bytesR (l.take cp)).toArray⟩ : ByteArray) = sp at q1 q2 y1
        generalize (⟨(bytesR (l.drop cp)).toArray⟩ : ByteArray) = sq at q1 q3 y2
        have y4 : sp.size + sq.size ≤ 9223372036854775807 := by omega
        have y5 : (sp.size : Int) + (sq.size : Int) ≤ 9223372036854775807 := by omega
        clear h htl hnt HBP
        go_wp2_with (go_at_call 8; refine (HAW.out _ B12.out).mono ?_; rintro e w13 ⟨rfl, hb13⟩)
        go_ret
        exact ⟨rfl, B12.out.trans (hb13.mono B12.out.size)⟩
    · have K8 := Lib.hid (fun (wr : World) (g : Below w5.heap.size w5 wr) => show Calls Tryd.prog 17 #[.agg #[.string d.id, .int .i64 d.valid, .int .i64 d.next, .int .i64 d.high, .slice WA5 wn5 wc5, .slice MA5 mn5 mc5], .slice (A.map (fun x => x.add (k * 11))) (n - k) (cp - k)] wr (BoxOut c er wr) from by
        have s := SY.out.go g
        have hrows : RowsAt wr wr.heap.size (A.map (fun x => x.add (k * 11))) (n - k) (l.drop k) := by
          have hr := RowAt.cut (RowsAt.below HR.out s.bel (Nat.le_refl _)) (k := k) (cp := cp) (by omega) hcp; rw [if_neg hck] at hr; exact RowsAt.more hr s.bel.size
        have h := RwW10.all_any (cp := (cp - k)) s.ws s.ms s.hwc s.hmc (Nat.le_refl _) hrows (show (n - k) ≤ (cp - k) by omega) (fun r hr => H6.out r (List.mem_of_mem_drop hr))
        rw [← HCD.out] at h
        exact h)
      have KP := Lib.hid (fun (wr : World) (g : Below w5.heap.size w5 wr) => bytes_any (cp := cp) (RowAt.take (RowsAt.below HR.out (SY.out.go g).bel (Nat.le_refl _)) (k := k) (by omega)) (SY.out.go g).bel.size (fun r hr => HF.out r (List.mem_of_mem_take hr)))
      have KQ := Lib.hid (fun (wr : World) (g : Below w5.heap.size w5 wr) => show Calls Tryd.prog 19 #[.slice (A.map (fun x => x.add (k * 11))) (n - k) (cp - k)] wr (BsOut (bytesR (l.drop k)) wr) from by
        have s := SY.out.go g
        have hrows : RowsAt wr wr.heap.size (A.map (fun x => x.add (k * 11))) (n - k) (l.drop k) := by
          have hr := RowAt.cut (RowsAt.below HR.out s.bel (Nat.le_refl _)) (k := k) (cp := cp) (by omega) hcp; rw [if_neg hck] at hr; exact RowsAt.more hr s.bel.size
        exact bytes_any (cp := (cp - k)) hrows (Nat.le_refl _) (fun r hr => HF.out r (List.mem_of_mem_drop hr)))
      have KL := Lib.hid (fun (wr : World) (g : Below w5.heap.size w5 wr) => bytes_any (cp := cp) (RowsAt.below HR.out (SY.out.go g).bel (Nat.le_refl _)) (SY.out.go g).bel.size HF.out)
      have HBP := Lib.hid (bytes_parts (l := l) (a := l.take k) (b := l.drop k) (List.take_append_drop k l).symm)
      clear HR 
      obtain ⟨b0, b1, b2, b3, b4, b5⟩ := CB5.out w5 (Below.refl _ _)
      go_cut [12, 13] (fun sp se wx => ∃ Y, sp = .pointer (some ⟨Y, 0, none⟩) ∧ se = .int .i64 er ∧ Hid (Told w w5 wx Y c))
      case first =>
        refine wp_region_noPanic ?_
        refine wp_region_held_drew (S := fun wr => wr.cell? { block := Y, off := 0 } = some (.string d.id) ∧ wr.cell? { block := Y, off := 1 } = some (.int .i64 d.valid) ∧ wr.cell? { block := Y, off := 2 } = some (.int .i64 d.next) ∧ wr.cell? { block := Y, off := 3 } = some (.int .i64 d.high) ∧ wr.cell? { block := Y, off := 4 } = some (.slice WA5 wn5 wc5) ∧ wr.cell? { block := Y, off := 5 } = some (.slice MA5 mn5 mc5)) (by kernel_rfl) ?_ (fun hHeld => ?_)
        · exact CB5.out _ (Below.refl _ _).drew
        refine wpAnyH_take (i := 0) (v := ?_) rfl (by kernel_rfl) (by kernel_rfl) (by kernel_rfl) (fun _ _ _ h => h) (Or.inl ⟨by rfl, ?_⟩) hHeld ?_
        rotate_left
        · intro wq hSq; (try dsimp only at hSq); go_simp; try with_reducible rfl
        try simp only [Act.put, List.setIfInBounds_toArray, List.set_cons_zero, List.set_cons_succ, List.getElem_toArray, List.getElem_cons_zero, List.getElem_cons_succ]
        refine wpAnyH_take (i := 1) (v := ?_) rfl (by kernel_rfl) (by kernel_rfl) (by kernel_rfl) (fun _ _ _ h => h) (Or.inl ⟨by rfl, ?_⟩) hHeld ?_
        rotate_left
        · intro wq hSq; (try dsimp only at hSq); go_simp; try with_reducible rfl
        try simp only [Act.put, List.setIfInBounds_toArray, List.set_cons_zero, List.set_cons_succ, List.getElem_toArray, List.getElem_cons_zero, List.getElem_cons_succ]
        refine wpAnyH_take (i := 2) (v := ?_) rfl (by kernel_rfl) (by kernel_rfl) (by kernel_rfl) (fun _ _ _ h => h) (Or.inl ⟨by rfl, ?_⟩) hHeld ?_
        rotate_left
        · intro wq hSq; (try dsimp only at hSq); go_simp; try with_reducible rfl
        try simp only [Act.put, List.setIfInBounds_toArray, List.set_cons_zero, List.set_cons_succ, List.getElem_toArray, List.getElem_cons_zero, List.getElem_cons_succ]
        refine wpAnyH_take (i := 3) (v := ?_) rfl (by kernel_rfl) (by kernel_rfl) (by kernel_rfl) (fun _ _ _ h => h) (Or.inl ⟨by rfl, ?_⟩) hHeld ?_
        rotate_left
        · intro wq hSq; (try dsimp only at hSq); go_simp; try with_reducible rfl
        try simp only [Act.put, List.setIfInBounds_toArray, List.set_cons_zero, List.set_cons_succ, List.getElem_toArray, List.getElem_cons_zero, List.getElem_cons_succ]
        refine wpAnyH_ready (rs := [4, 8]) (by kernel_rfl) (by simp) ?_
        refine AllReadyH.cons rfl (fun K hK => ?_) (AllReadyH.cons rfl (fun K hK => ?_) AllReadyH.nil)
        · clear b0 b1 b2 b3 b4 b5 hHeld
          go_simp; try with_reducible rfl
          go_at_call 17
          refine (K8.out _ (Below.refl _ _).drew).mono ?_
          rintro e w8 ⟨WA5, wn5, wc5, MA5, mn5, mc5, rfl, hw5, hm5, hl5, hb5⟩
          have X5 := Lib.hid (show Below w5.heap.size w5 w8 from (Below.drew (Below.refl _ _)).trans hb5)
          have T5 := Lib.hid (told_after SY.out.bel X5.out hl5 hw5 hm5)
          clear hb5 hl5 hw5 hm5
          dsimp only
          refine hK.out _ _ ?_ (fun hHeld => ?_)
          · exact CB5.out _ X5.out
          clear hK K
          try simp only [Act.put, List.setIfInBounds_toArray, List.set_cons_zero, List.set_cons_succ, List.getElem_toArray, List.getElem_cons_zero, List.getElem_cons_succ]
          refine wpAnyH_take (i := 5) (v := ?_) rfl (by kernel_rfl) (by kernel_rfl) (by kernel_rfl) (fun _ _ _ h => h) (Or.inl ⟨by rfl, ?_⟩) hHeld ?_
          rotate_left
          · intro wq hSq; (try dsimp only at hSq); go_simp; try with_reducible rfl
          try simp only [Act.put, List.setIfInBounds_toArray, List.set_cons_zero, List.set_cons_succ, List.getElem_toArray, List.getElem_cons_zero, List.getElem_cons_succ]
          refine wpAnyH_take (i := 6) (v := ?_) rfl (by kernel_rfl) (by kernel_rfl) (by kernel_rfl) (fun _ _ _ h => h) (Or.inl ⟨by rfl, ?_⟩) hHeld ?_
          rotate_left
          · intro wq hSq; (try dsimp only at hSq); go_simp; try with_reducible rfl
          try simp only [Act.put, List.setIfInBounds_toArray, List.set_cons_zero, List.set_cons_succ, List.getElem_toArray, List.getElem_cons_zero, List.getElem_cons_succ]
          refine wpAnyH_take (i := 7) (v := ?_) rfl (by kernel_rfl) (by kernel_rfl) (by kernel_rfl) (fun _ _ _ h => h) (Or.inl ⟨by rfl, ?_⟩) hHeld ?_
          rotate_left
          · intro wq hSq; (try dsimp only at hSq); go_simp; try with_reducible rfl
          try simp only [Act.put, List.setIfInBounds_toArray, List.set_cons_zero, List.set_cons_succ, List.getElem_toArray, List.getElem_cons_zero, List.getElem_cons_succ]
          refine wpAnyH_ready (rs := [8]) (by kernel_rfl) (by simp) ?_
          refine AllReadyH.cons rfl (fun K hK => ?_) AllReadyH.nil
          clear hHeld
          go_simp; try with_reducible rfl
          refine hK.out _ _ ?_ (fun hHeld => ?_)
          · exact CB5.out _ (X5.out.alloc X5.out.size _)
          clear hK K
          try simp only [Act.put, List.setIfInBounds_toArray, List.set_cons_zero, List.set_cons_succ, List.getElem_toArray, List.getElem_cons_zero, List.getElem_cons_succ]
          refine wpAnyH_ready (rs := [9]) (by kernel_rfl) (by simp) ?_
          refine AllReadyH.cons rfl (fun K hK => ?_) AllReadyH.nil
          clear hHeld
          go_simp; try with_reducible rfl
          refine hK.out _ _ ?_ (fun hHeld => ?_)
          · exact CB5.out _ (X5.out.alloc X5.out.size _)
          clear hK K
          try simp only [Act.put, List.setIfInBounds_toArray, List.set_cons_zero, List.set_cons_succ, List.getElem_toArray, List.getElem_cons_zero, List.getElem_cons_succ]
          refine wpAnyH_take (i := 10) (v := ?_) rfl (by kernel_rfl) (by kernel_rfl) (by kernel_rfl) (fun _ _ _ h => h) (Or.inl ⟨by rfl, ?_⟩) hHeld ?_
          rotate_left
          · intro wq hSq; (try dsimp only at hSq); go_simp; try with_reducible rfl
          try simp only [Act.put, List.setIfInBounds_toArray, List.set_cons_zero, List.set_cons_succ, List.getElem_toArray, List.getElem_cons_zero, List.getElem_cons_succ]
          refine wpAnyH_done (by kernel_rfl) ?_ _
          refine NoPanic.normal ?_
          go_wp2_with fail
          go_meet
          exact ⟨_, rfl, rfl, T5.out⟩
        · clear b0 b1 b2 b3 b4 b5 hHeld
          go_simp; try with_reducible rfl
          refine hK.out _ _ ?_ (fun hHeld => ?_)
          · exact CB5.out _ ((Below.refl _ _).drew.alloc (Nat.le_refl _) _)
          clear hK K
          try simp only [Act.put, List.setIfInBounds_toArray, List.set_cons_zero, List.set_cons_succ, List.getElem_toArray, List.getElem_cons_zero, List.getElem_cons_succ]
          refine wpAnyH_ready (rs := [4]) (by kernel_rfl) (by simp) ?_
          refine AllReadyH.cons rfl (fun K hK => ?_) AllReadyH.nil
          clear hHeld
          go_simp; try with_reducible rfl
          go_at_call 17
          refine (K8.out _ ((Below.refl _ _).drew.alloc (Nat.le_refl _) _)).mono ?_
          rintro e w8 ⟨WA5, wn5, wc5, MA5, mn5, mc5, rfl, hw5, hm5, hl5, hb5⟩
          have hbz : w8.heap[w5.heap.size]? = some (.cells #[.string ⟨#[]⟩, .int .i64 0, .int .i64 0, .int .i64 0, .slice none 0 0, .slice none 0 0] 25 (0, 0)) := (hb5.block w5.heap.size (by simp)).trans (heap_alloc_new w5.drew _)
          have zc := fun o => cell_of_row _ _ o _ _ _ hbz
          have z0 := (zc 0).trans (show _ = some (Value.string ⟨#[]⟩) from rfl)
          have z1 := (zc 1).trans (show _ = some (Value.int .i64 0) from rfl)
          have z2 := (zc 2).trans (show _ = some (Value.int .i64 0) from rfl)
          have z3 := (zc 3).trans (show _ = some (Value.int .i64 0) from rfl)
          have z4 := (zc 4).trans (show _ = some (Value.slice none 0 0) from rfl)
          have z5 := (zc 5).trans (show _ = some (Value.slice none 0 0) from rfl)
          have zf : ∀ i, World.frozen? w8 { block := w5.heap.size, off := i } = false := fun i => by simp [World.frozen?, hbz]
          have f0 := zf 0
          have f1 := zf 1
          have f2 := zf 2
          have f3 := zf 3
          have f4 := zf 4
          have f5 := zf 5
          have X5 := Lib.hid (show Below w5.heap.size w5 w8 from ((Below.drew (Below.refl _ _)).alloc (Nat.le_refl _) _).trans (hb5.mono (by simp)))
          have T5 := Lib.hid (told_before SY.out.bel hbz (Nat.le_refl _) (by simp) X5.out hl5 hw5 hm5)
          unfold put6 at T5
          clear zc zf hbz hb5 hl5 hw5 hm5
          dsimp only
          refine hK.out _ _ ?_ (fun hHeld => ?_)
          · exact CB5.out _ X5.out
          clear hK K
          try simp only [Act.put, List.setIfInBounds_toArray, List.set_cons_zero, List.set_cons_succ, List.getElem_toArray, List.getElem_cons_zero, List.getElem_cons_succ]
          refine wpAnyH_take (i := 5) (v := ?_) rfl (by kernel_rfl) (by kernel_rfl) (by kernel_rfl) (fun _ _ _ h => h) (Or.inl ⟨by rfl, ?_⟩) hHeld ?_
          rotate_left
          · intro wq hSq; (try dsimp only at hSq); go_simp; try with_reducible rfl
          try simp only [Act.put, List.setIfInBounds_toArray, List.set_cons_zero, List.set_cons_succ, List.getElem_toArray, List.getElem_cons_zero, List.getElem_cons_succ]
          refine wpAnyH_take (i := 6) (v := ?_) rfl (by kernel_rfl) (by kernel_rfl) (by kernel_rfl) (fun _ _ _ h => h) (Or.inl ⟨by rfl, ?_⟩) hHeld ?_
          rotate_left
          · intro wq hSq; (try dsimp only at hSq); go_simp; try with_reducible rfl
          try simp only [Act.put, List.setIfInBounds_toArray, List.set_cons_zero, List.set_cons_succ, List.getElem_toArray, List.getElem_cons_zero, List.getElem_cons_succ]
          refine wpAnyH_take (i := 7) (v := ?_) rfl (by kernel_rfl) (by kernel_rfl) (by kernel_rfl) (fun _ _ _ h => h) (Or.inl ⟨by rfl, ?_⟩) hHeld ?_
          rotate_left
          · intro wq hSq; (try dsimp only at hSq); go_simp; try with_reducible rfl
          try simp only [Act.put, List.setIfInBounds_toArray, List.set_cons_zero, List.set_cons_succ, List.getElem_toArray, List.getElem_cons_zero, List.getElem_cons_succ]
          refine wpAnyH_ready (rs := [9]) (by kernel_rfl) (by simp) ?_
          refine AllReadyH.cons rfl (fun K hK => ?_) AllReadyH.nil
          clear hHeld
          go_simp; try with_reducible rfl
          refine hK.out _ _ ?_ (fun hHeld => ?_)
          · exact CB5.out _ (chain_below X5.out (Nat.le_refl _) _ _ _ _ _ _)
          clear hK K
          try simp only [Act.put, List.setIfInBounds_toArray, List.set_cons_zero, List.set_cons_succ, List.getElem_toArray, List.getElem_cons_zero, List.getElem_cons_succ]
          refine wpAnyH_take (i := 10) (v := ?_) rfl (by kernel_rfl) (by kernel_rfl) (by kernel_rfl) (fun _ _ _ h => h) (Or.inl ⟨by rfl, ?_⟩) hHeld ?_
          rotate_left
          · intro wq hSq; (try dsimp only at hSq); go_simp; try with_reducible rfl
          try simp only [Act.put, List.setIfInBounds_toArray, List.set_cons_zero, List.set_cons_succ, List.getElem_toArray, List.getElem_cons_zero, List.getElem_cons_succ]
          refine wpAnyH_done (by kernel_rfl) ?_ _
          refine NoPanic.normal ?_
          go_wp2_with fail
          go_meet
          exact ⟨_, rfl, rfl, T5.out⟩
      case rest =>
        clear K8 CB5 b0 b1 b2 b3 b4 b5
        obtain ⟨Z, rfl, rfl, HT⟩ := hcut
        obtain ⟨w8, hw8⟩ : ∃ w8, w8 = wc := ⟨_, rfl⟩
        subst hw8
        obtain ⟨hb8, WA8, wn8, wc8, MA8, mn8, mc8, hs8⟩ := HT.out
        have G8 := Lib.hid hb8
        have SX8 := Lib.hid (SX.out.go hb8)
        have SZ8 := Lib.hid hs8
        clear HT hs8 hb8
        obtain ⟨b0, b1, b2, b3, b4, b5, _⟩ := six_at SX8.out.blk
        obtain ⟨a0, a1, a2, a3, a4, a5, _⟩ := six_at SZ8.out.blk
        have KS := refSame_any (bid := c.id) (bid' := c.id) (bv := c.valid) (bv' := c.valid) (bn := c.next) (bn' := c.next) (bh := c.high) (bh' := c.high) (wc := wc3) (wc' := wc8) (mc := mc3) (mc' := mc8) SX8.out.ws SX8.out.ms SZ8.out.ws SZ8.out.ms (Nat.le_refl _) (Nat.le_refl _) (Nat.le_refl _) (Nat.le_refl _)
        rw [BxS.eqX_eq rfl] at KS
        have KSH := Lib.hid KS
        clear KS
        go_upto_region 11 with (go_at_call 18; go_loud (
           refine KSH.out.mono ?_
           rintro e w9 ⟨rfl, hb9⟩
           have G9 := Lib.hid (G8.out.trans (hb9.mono G8.out.size))
           clear hb9 a0 a1 a2 a3 a4 a5 b0 b1 b2 b3 b4 b5))
        clear KSH G8 SX8 SZ8
        refine wp_region_noPanic ?_
        refine wp_region_held_drew (S := fun wr => True) (by kernel_rfl) ?_ (fun hHeld => ?_)
        · trivial
        refine wpAnyH_take (i := 0) (v := ?_) rfl (by kernel_rfl) (by kernel_rfl) (by kernel_rfl) (fun _ _ _ h => h) (Or.inl ⟨by rfl, ?_⟩) hHeld ?_
        rotate_left
        · intro wq hSq; (try dsimp only at hSq); go_simp; try with_reducible rfl
        try simp only [Act.put, List.setIfInBounds_toArray, List.set_cons_zero, List.set_cons_succ, List.getElem_toArray, List.getElem_cons_zero, List.getElem_cons_succ]
        refine wpAnyH_take (i := 1) (v := ?_) rfl (by kernel_rfl) (by kernel_rfl) (by kernel_rfl) (fun _ _ _ h => h) (Or.inl ⟨by rfl, ?_⟩) hHeld ?_
        rotate_left
        · intro wq hSq; (try dsimp only at hSq); go_simp; try with_reducible rfl
        try simp only [Act.put, List.setIfInBounds_toArray, List.set_cons_zero, List.set_cons_succ, List.getElem_toArray, List.getElem_cons_zero, List.getElem_cons_succ]
        refine wpAnyH_take (i := 2) (v := ?_) rfl (by kernel_rfl) (by kernel_rfl) (by kernel_rfl) (fun _ _ _ h => h) (Or.inl ⟨by rfl, ?_⟩) hHeld ?_
        rotate_left
        · intro wq hSq; (try dsimp only at hSq); go_simp; try with_reducible rfl
        try simp only [Act.put, List.setIfInBounds_toArray, List.set_cons_zero, List.set_cons_succ, List.getElem_toArray, List.getElem_cons_zero, List.getElem_cons_succ]
        refine wpAnyH_take (i := 4) (v := ?_) rfl (by kernel_rfl) (by kernel_rfl) (by kernel_rfl) (fun _ _ _ h => h) (Or.inl ⟨by rfl, ?_⟩) hHeld ?_
        rotate_left
        · intro wq hSq; (try dsimp only at hSq); go_simp; try with_reducible rfl
        try simp only [Act.put, List.setIfInBounds_toArray, List.set_cons_zero, List.set_cons_succ, List.getElem_toArray, List.getElem_cons_zero, List.getElem_cons_succ]
        refine wpAnyH_take (i := 5) (v := ?_) rfl (by kernel_rfl) (by kernel_rfl) (by kernel_rfl) (fun _ _ _ h => h) (Or.inl ⟨by rfl, ?_⟩) hHeld ?_
        rotate_left
        · intro wq hSq; (try dsimp only at hSq); go_simp; try with_reducible rfl
        try simp only [Act.put, List.setIfInBounds_toArray, List.set_cons_zero, List.set_cons_succ, List.getElem_toArray, List.getElem_cons_zero, List.getElem_cons_succ]
        refine wpAnyH_take (i := 6) (v := ?_) rfl (by kernel_rfl) (by kernel_rfl) (by kernel_rfl) (fun _ _ _ h => h) (Or.inl ⟨by rfl, ?_⟩) hHeld ?_
        rotate_left
        · intro wq hSq; (try dsimp only at hSq); go_simp; try with_reducible rfl
        try simp only [Act.put, List.setIfInBounds_toArray, List.set_cons_zero, List.set_cons_succ, List.getElem_toArray, List.getElem_cons_zero, List.getElem_cons_succ]
        refine wpAnyH_ready (rs := [3]) (by kernel_rfl) (by simp) ?_
        refine AllReadyH.cons rfl (fun K hK => ?_) AllReadyH.nil
        go_simp; try with_reducible rfl
        go_at_call 19
        (refine (KP.out _ G9.out.drew).mono ?_
         rintro e w10 ⟨Ap, np, cpp, rfl, _, hnp, hp3, hp4⟩
         have G10 := Lib.hid (G9.out.drew.trans (hp4.mono G9.out.size))
         have P10 := Lib.hid hp3
         clear hp3 hp4
         dsimp only)
        refine hK.out _ _ ?_ (fun hHeld => ?_)
        · trivial
        clear hK K
        try simp only [Act.put, List.setIfInBounds_toArray, List.set_cons_zero, List.set_cons_succ, List.getElem_toArray, List.getElem_cons_zero, List.getElem_cons_succ]
        refine wpAnyH_ready (rs := [7]) (by kernel_rfl) (by simp) ?_
        refine AllReadyH.cons rfl (fun K hK => ?_) AllReadyH.nil
        go_simp; try with_reducible rfl
        go_at_call 19
        (refine (KQ.out _ G10.out).mono ?_
         rintro e w11 ⟨Aq, nq, cq, rfl, _, hnq, hq3, hq4⟩
         have G11 := Lib.hid (G10.out.trans (hq4.mono G10.out.size))
         have P11 := Lib.hid (P10.out.below hq4 (Nat.le_refl _))
         have Q11 := Lib.hid hq3
         have S11 := hq4.size
         clear hq3 hq4
         dsimp only)
        refine hK.out _ _ ?_ (fun hHeld => ?_)
        · trivial
        clear hK K
        try simp only [Act.put, List.setIfInBounds_toArray, List.set_cons_zero, List.set_cons_succ, List.getElem_toArray, List.getElem_cons_zero, List.getElem_cons_succ]
        refine wpAnyH_take (i := 8) (v := ?_) rfl (by kernel_rfl) (by kernel_rfl) (by kernel_rfl) (fun _ _ _ h => h) (Or.inl ⟨by rfl, ?_⟩) hHeld ?_
        rotate_left
        · intro wq hSq; (try dsimp only at hSq); go_simp; try with_reducible rfl
        try simp only [Act.put, List.setIfInBounds_toArray, List.set_cons_zero, List.set_cons_succ, List.getElem_toArray, List.getElem_cons_zero, List.getElem_cons_succ]
        refine wpAnyH_take (i := 9) (v := ?_) rfl (by kernel_rfl) (by kernel_rfl) (by kernel_rfl) (fun _ _ _ h => h) (Or.inl ⟨by rfl, ?_⟩) hHeld ?_
        rotate_left
        · intro wq hSq; (try dsimp only at hSq); go_simp; try with_reducible rfl
        try simp only [Act.put, List.setIfInBounds_toArray, List.set_cons_zero, List.set_cons_succ, List.getElem_toArray, List.getElem_cons_zero, List.getElem_cons_succ]
        refine wpAnyH_done (by kernel_rfl) ?_ _
        refine NoPanic.normal ?_
        go_upto_region 13 with (go_at_call 19; go_loud (
           refine (KL.out _ G11.out).mono ?_
           rintro e w12 ⟨At, nt, ct, rfl, _, ht2, ht3, ht4⟩
           have G12 := Lib.hid (G11.out.trans (ht4.mono G11.out.size))
           have T12 := Lib.hid ht3
           have P12 := Lib.hid (P11.out.below ht4 S11)
           have Q12 := Lib.hid (Q11.out.below ht4 (Nat.le_refl _))
           clear ht3 ht4))
        clear KP KQ KL G11 P11 Q11
        have B12 := Lib.hid (SY.out.bel.trans (G12.out.mono SY.out.bel.size))
        have htl := T12.out.1
        by_cases hnt : nt = 0
        · subst hnt
          clear htl
          go_wp2_with (go_at_call 8; refine (HAW.out _ B12.out).mono ?_; rintro e w13 ⟨rfl, hb13⟩)
          go_ret
          exact ⟨rfl, B12.out.trans (hb13.mono B12.out.size)⟩
        have hnt' : (0 : Int) < (nt : Int) := by omega
        have q1 := T12.out.conv ct
        have q2 := P12.out.conv cpp
        have q3 := Q12.out.conv cq
        rcases HBP.out with h | h
        · rw [h] at htl
          exact absurd htl.symm hnt
        rw [h, cat_eq] at q1
        have y1 : (⟨(bytesR (l.take k)).toArray⟩ : ByteArray).size ≤ 1000000000 := by
          show (bytesR (l.take k)).toArray.size ≤ 1000000000
          have := P12.out.1
          rw [List.size_toArray]
          omega
        have y2 : (⟨(bytesR (l.drop k)).toArray⟩ : ByteArray).size ≤ 1000000000 := by
          show (bytesR (l.drop k)).toArray.size ≤ 1000000000
          have := Q12.out.1
          rw [List.size_toArray]
          omega
        generalize (⟨(bytesR (l.take k)).toArray⟩ : ByteArray) = sp at q1 q2 y1
        generalize (⟨(bytesR (l.drop k)).toArray⟩ : ByteArray) = sq at q1 q3 y2
        have y4 : sp.size + sq.size ≤ 9223372036854775807 := by omega
        have y5 : (sp.size : Int) + (sq.size : Int) ≤ 9223372036854775807 := by omega
        clear h htl hnt HBP
        go_wp2_with (go_at_call 8; refine (HAW.out _ B12.out).mono ?_; rintro e w13 ⟨rfl, hb13⟩)
        go_ret
        exact ⟨rfl, B12.out.trans (hb13.mono B12.out.size)⟩
end Go.Proofs.YtdgcihgohkgecaaDoor.RpLaw
