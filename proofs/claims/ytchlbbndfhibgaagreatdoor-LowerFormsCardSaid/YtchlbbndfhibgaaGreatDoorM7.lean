/-
  LwF + LwForms
-/
import Derived.Test.YtchlbbndfhibgaaGreatDoorM5
import Derived.Test.YtchlbbndfhibgaaGreatDoorM8
import Derived.Test.YtchlbbndfhibgaaGreatDoorM6
import Derived.Deep.RegionHeld3
import Derived.Test.YtchlbbndfhibgaaGreatDoorN6
import Derived.Test.YtchlbbndfhibgaaGreatDoorBxH
set_option linter.unusedVariables false
set_option linter.unusedSimpArgs false
namespace Go.Proofs.YtchlbbndfhibgaaGreatDoor.LwF
open Go.RowKit Go.Proofs.YtchlbbndfhibgaaGreatDoor.BxD Go.Proofs.YtchlbbndfhibgaaGreatDoor.BxKit Go.Proofs.YtchlbbndfhibgaaGreatDoor.BxC Go.Proofs.YtchlbbndfhibgaaGreatDoor.OlD Go.Proofs.YtchlbbndfhibgaaGreatDoor.PtK Go.Proofs.YtchlbbndfhibgaaGreatDoor.RwKit Go.Proofs.YtchlbbndfhibgaaGreatDoor.ImD Go.Proofs.YtchlbbndfhibgaaGreatDoor.ImK Go.Proofs.YtchlbbndfhibgaaGreatDoor.ImA Go.Proofs.YtchlbbndfhibgaaGreatDoor.ImL Go.Proofs.YtchlbbndfhibgaaGreatDoor.LwD Go.Proofs.YtchlbbndfhibgaaGreatDoor.LwL Go.Proofs.YtchlbbndfhibgaaGreatDoor.LwB Go.Proofs.YtchlbbndfhibgaaGreatDoor.LwS

theorem meas {j n : Nat} (h : j < n) : n - (intOf (Value.int .i64 ((j : Int) + 1))).toNat < n - (intOf (Value.int .i64 (j : Int))).toNat := by simp [intOf]; omega
theorem ne_zero {m : Int} (h : m ≠ 0) : (m != 0) = true := by simpa using h
set_option maxHeartbeats 4000000 in
set_option maxRecDepth 100000 in
theorem ref_losses_bad {v : Int} {w : World} {B wn wcp mn mcp : Nat} {WA MA : Option Addr} {b : Box} (h : Bad v b) (hx : StrsAt w B WA wn b.words) (hm : MsgsAt w B MA mn b.msgs) (hB : B ≤ w.heap.size) (hwc : wn ≤ wcp) :
    Calls Tryz.prog 26 #[.int .i64 v, .agg #[.string b.id, .int .i64 b.valid, .int .i64 b.next, .int .i64 b.high, .slice WA wn wcp, .slice MA mn mcp]] w (LosOut [] 1 w) := by
  have hb0 := (Below.refl w.heap.size w).alloc (Nat.le_refl _) (.cells #[.string b.id, .int .i64 b.valid, .int .i64 b.next, .int .i64 b.high, .slice WA wn wcp, .slice MA mn mcp] 25)
  have HB0 := Lib.hid hb0
  have HR0 := Lib.hid (heap_alloc_new w (.cells #[.string b.id, .int .i64 b.valid, .int .i64 b.next, .int .i64 b.high, .slice WA wn wcp, .slice MA mn mcp] 25))
  have km0 := BxB.ref_may (bid := b.id) (bv := b.valid) (bn := b.next) (bh := b.high) (wc := wcp) (mc := mcp) (StrsAt.below hx hb0 hB) (MsgsAt.below hm hb0 hB) (by simp; omega) hwc
  clear hb0 hx hm
  rcases h with h | ⟨h, h0⟩
  · clear km0
    rcases no_two h with ⟨h1, h2⟩ | h1
    all_goals (
      go_enter Tryz.func26, Tryz.ntmps26
      go_upto_region 1 with fail
      generalize (World.alloc w _) = w1 at HB0 HR0 ⊢
      go_wp2_with fail
      refine bodyPost_ret (v := .tuple #[.slice none 0 0, .int .i64 1]) (by rw [results_tmp2 (t := 4) (u := 5) rfl]; rfl) rfl ?_
      exact ⟨none, 0, 0, rfl, Nat.le_refl _, RowAt.nil _ _ _ _ _, HB0.out⟩)
  · have hk1 : decide (v < 1) = false := decide_eq_false (by omega)
    have hk2 : decide (3 < v) = false := decide_eq_false (by omega)
    have hne := ne_zero h0
    have e : mbE ⟨b.id, b.valid, b.next, b.high, b.words, b.msgs⟩ = mbE b := rfl
    rw [e] at km0
    obtain ⟨m, hm⟩ : ∃ m, m = mbE b := ⟨_, rfl⟩
    rw [← hm] at hne km0
    have KM := Lib.hid km0
    clear hm km0 h0 e h
    go_enter Tryz.func26, Tryz.ntmps26
    go_upto_region 1 with fail
    generalize (World.alloc w _) = w1 at HB0 HR0 KM ⊢
    obtain ⟨b0, b1, b2, b3, b4, b5, _⟩ := six_at HR0.out
    go_wp2_with (go_at_call 11; go_loud (
       refine KM.out.mono ?_
       rintro e w2 ⟨rfl, hb2⟩
       have HB2 := Lib.hid (HB0.out.trans (hb2.mono HB0.out.size))
       clear hb2 b0 b1 b2 b3 b4 b5))
    refine bodyPost_ret (v := .tuple #[.slice none 0 0, .int .i64 1]) (by rw [results_tmp2 (t := 4) (u := 5) rfl]; rfl) rfl ?_
    exact ⟨none, 0, 0, rfl, Nat.le_refl _, RowAt.nil _ _ _ _ _, HB2.out⟩
set_option maxHeartbeats 4000000 in
set_option maxRecDepth 100000 in
theorem ref_project_bad {v : Int} {w : World} {B wn wcp mn mcp : Nat} {WA MA : Option Addr} {b : Box} (h : Bad v b) (hx : StrsAt w B WA wn b.words) (hm : MsgsAt w B MA mn b.msgs) (hB : B ≤ w.heap.size) (hwc : wn ≤ wcp) :
    Calls Tryz.prog 24 #[.int .i64 v, .agg #[.string b.id, .int .i64 b.valid, .int .i64 b.next, .int .i64 b.high, .slice WA wn wcp, .slice MA mn mcp]] w (BoxOut nB 1 w) := by
  have P0 := Lib.hid (PI.start b.id b.valid b.next b.high w (.slice WA wn wcp) (.slice MA mn mcp))
  have km0 := BxB.ref_may (bid := b.id) (bv := b.valid) (bn := b.next) (bh := b.high) (wc := wcp) (mc := mcp) (StrsAt.below hx P0.out.bel hB) (MsgsAt.below hm P0.out.bel hB) (by have := P0.out.size; omega) hwc
  clear hx hm
  rcases h with h | ⟨h, h0⟩
  · clear km0
    rcases no_two h with ⟨h1, h2⟩ | h1
    all_goals (
      go_enter Tryz.func24, Tryz.ntmps24
      go_upto_region 1 with fail
      generalize (World.alloc (World.alloc w _) _) = w1 at P0 ⊢
      have HQ := Lib.hid P0.out.res
      have hs := P0.out.size
      obtain ⟨z0, z1, z2, z3, z4, z5, zf⟩ := zcells6 HQ.out
      have f0 := zf 0
      have f1 := zf 1
      have f2 := zf 2
      have f3 := zf 3
      have f4 := zf 4
      have f5 := zf 5
      clear zf
      go_wp2_with fail
      obtain ⟨W, hW, p0, p1, p2, p3, p4, p5, hWg⟩ := ret6 HQ.out (.string ⟨#[]⟩) (.int .i64 0) (.int .i64 0) (.int .i64 0) (.slice none 0 0) (.slice none 0 0)
      rw [← hW]
      refine bodyPost_ret (v := .tuple #[.agg #[.string ⟨#[]⟩, .int .i64 0, .int .i64 0, .int .i64 0, .slice none 0 0, .slice none 0 0], .int .i64 1]) (by simp [results, Tryz.results24, go_sem, p0, p1, p2, p3, p4, p5]) rfl ?_
      exact ⟨none, 0, 0, none, 0, 0, rfl, Nat.le_refl _, Nat.le_refl _, fun W2 _ _ => ⟨RowAt.nil _ _ _ _ _, RowAt.nil _ _ _ _ _⟩, P0.out.bel.grown hWg (by omega) (fun k e => by have : w.heap.size + 1 = k := Option.some.inj e; omega)⟩)
  · have hk1 : decide (v < 1) = false := decide_eq_false (by omega)
    have hk2 : decide (3 < v) = false := decide_eq_false (by omega)
    have hne := ne_zero h0
    have e : mbE ⟨b.id, b.valid, b.next, b.high, b.words, b.msgs⟩ = mbE b := rfl
    rw [e] at km0
    obtain ⟨m, hm⟩ : ∃ m, m = mbE b := ⟨_, rfl⟩
    rw [← hm] at hne km0
    have KM := Lib.hid km0
    clear hm km0 h0 e h
    go_enter Tryz.func24, Tryz.ntmps24
    go_upto_region 1 with fail
    generalize (World.alloc (World.alloc w _) _) = w1 at P0 KM ⊢
    obtain ⟨c0, c1, c2, c3, c4, c5⟩ := P0.out.cells
    go_wp2_with (go_at_call 11; go_loud (
       refine KM.out.mono ?_
       rintro e w2 ⟨rfl, hb2⟩
       have P2 := Lib.hid (P0.out.go hb2)
       have HQ := Lib.hid P2.out.res
       have hs := P2.out.size
       clear hb2 c0 c1 c2 c3 c4 c5
       obtain ⟨z0, z1, z2, z3, z4, z5, zf⟩ := zcells6 HQ.out
       have f0 := zf 0
       have f1 := zf 1
       have f2 := zf 2
       have f3 := zf 3
       have f4 := zf 4
       have f5 := zf 5
       clear zf))
    obtain ⟨W, hW, p0, p1, p2, p3, p4, p5, hWg⟩ := ret6 HQ.out (.string ⟨#[]⟩) (.int .i64 0) (.int .i64 0) (.int .i64 0) (.slice none 0 0) (.slice none 0 0)
    rw [← hW]
    refine bodyPost_ret (v := .tuple #[.agg #[.string ⟨#[]⟩, .int .i64 0, .int .i64 0, .int .i64 0, .slice none 0 0, .slice none 0 0], .int .i64 1]) (by simp [results, Tryz.results24, go_sem, p0, p1, p2, p3, p4, p5]) rfl ?_
    exact ⟨none, 0, 0, none, 0, 0, rfl, Nat.le_refl _, Nat.le_refl _, fun W2 _ _ => ⟨RowAt.nil _ _ _ _ _, RowAt.nil _ _ _ _ _⟩, P2.out.bel.grown hWg (by omega) (fun k e => by have : w.heap.size + 1 = k := Option.some.inj e; omega)⟩
/-- What the document's Project tells: a box somewhere in memory. -/
def PjOut (c : Box) (er : Int) (w : World) (e : Ending) (w' : World) : Prop :=
  ∃ A1 n1 k1 A2 n2 k2, e = .returned (.tuple #[.agg #[.string c.id, .int .i64 c.valid, .int .i64 c.next, .int .i64 c.high, .slice A1 n1 k1, .slice A2 n2 k2], .int .i64 er]) ∧ n1 ≤ k1 ∧ n2 ≤ k2 ∧ StrsAt w' w'.heap.size A1 n1 c.words ∧ MsgsAt w' w'.heap.size A2 n2 c.msgs ∧ Below w.heap.size w w'
theorem pjOut_of {c : Box} {er : Int} {w w' : World} {e : Ending} (h : BoxOut c er w e w') : PjOut c er w e w' := by
  obtain ⟨WA, wn, wc, MA, mn, mc, he, h1, h2, hl, hb⟩ := h
  obtain ⟨a, d⟩ := hl w' (Nat.le_refl _) fun _ _ _ => rfl
  exact ⟨WA, wn, wc, MA, mn, mc, he, h1, h2, a, d, hb⟩
theorem pbx_pj {b : Box} (h : mbE b = 0) : F3Pj.pbx b = pj fm3 b := (ImD.pj_three h).symm
theorem ref_project_ok {k : Nat} (hk : k = 1 ∨ k = 2 ∨ k = 3) {w : World} {B wn wcp mn mcp : Nat} {WA MA : Option Addr} {b : Box} (ht : BxO.Tab w) (hx : StrsAt w B WA wn b.words) (hm : MsgsAt w B MA mn b.msgs) (hB : B ≤ w.heap.size) (hwc : wn ≤ wcp) (h0 : mbE b = 0) :
    Calls Tryz.prog 24 #[.int .i64 (k : Nat), .agg #[.string b.id, .int .i64 b.valid, .int .i64 b.next, .int .i64 b.high, .slice WA wn wcp, .slice MA mn mcp]] w (PjOut (pj (fmI k) b) 0 w) := by
  rcases hk with rfl | rfl | rfl
  · refine (O1Pj.project_any (mc0 := mcp) ht hx hm hwc hB h0).mono ?_
    rintro e w' ⟨A1, k1, A2, k2, he, h1, h2, h3, h4, h5⟩
    exact ⟨A1, _, k1, A2, _, k2, he, h1, h2, h3, h4, h5⟩
  · refine (O2Pj.project_any (mc0 := mcp) ht hx hm hwc hB h0).mono ?_
    rintro e w' ⟨A1, k1, A2, k2, he, h1, h2, h3, h4, h5⟩
    exact ⟨A1, _, k1, A2, _, k2, he, h1, h2, h3, h4, h5⟩
  · refine (F3Pj.project_any (mc0 := mcp) hx hm hwc hB h0).mono ?_
    rw [pbx_pj h0]
    rintro e w' ⟨A1, k1, A2, k2, he, h1, h2, h3, h4, h5⟩
    exact ⟨A1, _, k1, A2, _, k2, he, h1, h2, h3, h4, h5⟩
/-- A box told, laid in a block of its own. -/
theorem sb_new {w w3 : World} {c : Box} {WA MA : Option Addr} {wn wc mn mc : Nat} (hb : Below w.heap.size w w3) (h1 : wn ≤ wc) (h2 : mn ≤ mc) (hx : StrsAt w3 w3.heap.size WA wn c.words) (hm : MsgsAt w3 w3.heap.size MA mn c.msgs) :
    Sb w (w3.alloc (.cells #[.string c.id, .int .i64 c.valid, .int .i64 c.next, .int .i64 c.high, .slice WA wn wc, .slice MA mn mc] 25)) w3.heap.size c WA wn wc MA mn mc := by
  refine ⟨hb.alloc hb.size _, hb.size, heap_alloc_new w3 _, fun w4 hs hk => ?_, h1, h2⟩
  have key : ∀ p : Addr, p.block < w3.heap.size → w4.cell? p = w3.cell? p := fun p hp => World.cell?_of_block ((hk p.block (by simp; omega) (by omega)).trans (Below.heap_alloc _ _ _ hp))
  exact ⟨StrsAt.more (StrsAt.keep hx (Nat.le_refl _) key) (by simp), MsgsAt.more (MsgsAt.keep hm (Nat.le_refl _) key) (by simp)⟩
set_option maxHeartbeats 4000000 in
set_option maxRecDepth 100000 in
theorem same_los {w : World} {A A2 : Option Addr} {n c n2 c2 B : Nat} {l : List Los} (h1 : LosAt w B A n l) (h2 : LosAt w B A2 n2 l) (hB : B ≤ w.heap.size) (hc : n ≤ c) :
    Calls Tryz.prog 28 #[.slice A n c, .slice A2 n2 c2] w fun e w' => e = .returned (.bool true) ∧ Below w.heap.size w w' := by
  obtain rfl : n2 = n := h2.len.symm.trans h1.len
  have hmx := h1.max
  have H1 := Lib.hid h1
  have H2 := Lib.hid h2
  clear h1 h2
  go_enter Tryz.func28, Tryz.ntmps28
  go_upto_region 4 with fail
  go_loopw [13] (fun s13 wr => ∃ j : Nat, j ≤ n2 ∧ s13 = .int .i64 j ∧ Hid (Below w.heap.size w wr)) (fun s13 _ => n2 - (intOf s13).toNat)
  case atStart => exact ⟨0, Nat.zero_le _, rfl, Lib.hid (Below.refl _ _)⟩
  case round =>
    obtain ⟨j, hj, rfl, BX⟩ := hrel
    by_cases hlt : j < n2
    · obtain ⟨ad, kd, u, tx, rfl, hab, e1, m0, m1, m2⟩ := LosAt.sp H1.out BX.out hB hlt
      obtain ⟨ad2, kd2, u2, tx2, rfl, hab2, e2, p0, p1, p2⟩ := LosAt.sp H2.out BX.out hB hlt
      rw [e1] at e2
      injection e2 with e2
      injection e2 with e3 e4 e5
      subst e3 e4 e5
      have g0 : (0 : Int) ≤ (j : Int) := by omega
      have g1 : (j : Int) < (n2 : Int) := by omega
      go_upto_region 6 with fail
      go_region_held3 (fun wx => (wx.cell? (ad.add (j * 3)) = some (.int .i64 kd) ∧ wx.cell? { block := (ad.add (j * 3)).block, off := (ad.add (j * 3)).off + 1 } = some (.int .i64 u) ∧ wx.cell? { block := (ad.add (j * 3)).block, off := (ad.add (j * 3)).off + 2 } = some (.string tx)) ∧ (wx.cell? (ad2.add (j * 3)) = some (.int .i64 kd) ∧ wx.cell? { block := (ad2.add (j * 3)).block, off := (ad2.add (j * 3)).off + 1 } = some (.int .i64 u) ∧ wx.cell? { block := (ad2.add (j * 3)).block, off := (ad2.add (j * 3)).off + 2 } = some (.string tx))) (with_reducible first | exact ⟨⟨m0, m1, m2⟩, p0, p1, p2⟩ | go_keep) (fail)
      rename_i hHeld
      clear hHeld
      go_wp2_with fail
      go_roundw
      case rel => exact ⟨j + 1, hlt, by go_num, Lib.hid BX.out.drew⟩
      case measure => exact meas hlt
    · go_wp2_with fail
      go_ret
      exact ⟨rfl, BX.out⟩
end Go.Proofs.YtchlbbndfhibgaaGreatDoor.LwF

namespace Go.Proofs.YtchlbbndfhibgaaGreatDoor.LwForms
open Go.RowKit Go.Proofs.YtchlbbndfhibgaaGreatDoor.BxD Go.Proofs.YtchlbbndfhibgaaGreatDoor.BxKit Go.Proofs.YtchlbbndfhibgaaGreatDoor.BxH Go.Proofs.YtchlbbndfhibgaaGreatDoor.OlD Go.Proofs.YtchlbbndfhibgaaGreatDoor.RwKit Go.Proofs.YtchlbbndfhibgaaGreatDoor.ImD Go.Proofs.YtchlbbndfhibgaaGreatDoor.ImL Go.Proofs.YtchlbbndfhibgaaGreatDoor.LwD Go.Proofs.YtchlbbndfhibgaaGreatDoor.LwL Go.Proofs.YtchlbbndfhibgaaGreatDoor.LwB Go.Proofs.YtchlbbndfhibgaaGreatDoor.LwS Go.Proofs.YtchlbbndfhibgaaGreatDoor.LwF Go.Proofs.YtchlbbndfhibgaaGreatDoor.LwG

/-- What the four calls tell, by version and box. -/
structure Four (v : Int) (b : Box) (P : Box) (er : Int) (L : List Los) : Prop where
  pa : ∀ {w wr : World} {B : Nat} {WA MA : Option Addr} {wn wcp mn mcp : Nat}, BxO.Tab wr → Sb w wr B b WA wn wcp MA mn mcp → Calls Tryz.prog 23 #[.int .i64 v, .agg #[.string b.id, .int .i64 b.valid, .int .i64 b.next, .int .i64 b.high, .slice WA wn wcp, .slice MA mn mcp]] wr (BoxOut P er wr)
  pb : ∀ {w wr : World} {B : Nat} {WA MA : Option Addr} {wn wcp mn mcp : Nat}, BxO.Tab wr → Sb w wr B b WA wn wcp MA mn mcp → Calls Tryz.prog 24 #[.int .i64 v, .agg #[.string b.id, .int .i64 b.valid, .int .i64 b.next, .int .i64 b.high, .slice WA wn wcp, .slice MA mn mcp]] wr (PjOut P er wr)
  pc : ∀ {w wr : World} {B : Nat} {WA MA : Option Addr} {wn wcp mn mcp : Nat}, BxO.Tab wr → Sb w wr B b WA wn wcp MA mn mcp → Calls Tryz.prog 25 #[.int .i64 v, .agg #[.string b.id, .int .i64 b.valid, .int .i64 b.next, .int .i64 b.high, .slice WA wn wcp, .slice MA mn mcp]] wr (LosOut L er wr)
  pd : ∀ {w wr : World} {B : Nat} {WA MA : Option Addr} {wn wcp mn mcp : Nat}, BxO.Tab wr → Sb w wr B b WA wn wcp MA mn mcp → Calls Tryz.prog 26 #[.int .i64 v, .agg #[.string b.id, .int .i64 b.valid, .int .i64 b.next, .int .i64 b.high, .slice WA wn wcp, .slice MA mn mcp]] wr (LosOut L er wr)
theorem four (v : Int) (b : Box) : ∃ P er L, Four v b P er L := by
  by_cases hv : v < 1 ∨ 3 < v
  · exact ⟨nB, 1, [], fun _ h => project_bad (.inl hv) h.ws h.ms (Nat.le_refl _) h.hwc, fun _ h => (ref_project_bad (.inl hv) h.ws h.ms (Nat.le_refl _) h.hwc).mono fun _ _ => pjOut_of,
      fun _ h => LwB.losses_bad (.inl hv) h.ws h.ms (Nat.le_refl _) h.hwc, fun _ h => ref_losses_bad (.inl hv) h.ws h.ms (Nat.le_refl _) h.hwc⟩
  by_cases h0 : mbE b = 0
  · obtain ⟨k, hk, rfl⟩ : ∃ k : Nat, (k = 1 ∨ k = 2 ∨ k = 3) ∧ v = (k : Int) := ⟨v.toNat, by omega, by omega⟩
    exact ⟨pj (fmI k) b, 0, ls (fmI k) b, fun ht h => project_sb hk ht h h0, fun ht h => ref_project_ok hk ht h.ws h.ms (Nat.le_refl _) h.hwc h0,
      fun ht h => losses_sb hk ht h h0, fun ht h => LwG.losses_ok hk ht h.ws h.ms (Nat.le_refl _) h.hwc h0⟩
  · have hb : Bad v b := .inr ⟨by omega, h0⟩
    exact ⟨nB, 1, [], fun _ h => project_bad hb h.ws h.ms (Nat.le_refl _) h.hwc, fun _ h => (ref_project_bad hb h.ws h.ms (Nat.le_refl _) h.hwc).mono fun _ _ => pjOut_of,
      fun _ h => LwB.losses_bad hb h.ws h.ms (Nat.le_refl _) h.hwc, fun _ h => ref_losses_bad hb h.ws h.ms (Nat.le_refl _) h.hwc⟩
set_option maxHeartbeats 8000000 in
set_option maxRecDepth 100000 in
theorem walk {b : Box} {WA MA : Option Addr} {wn wcp mn mcp : Nat} {x kd u : Int} {tx : ByteArray} {w : World} (ht : BxO.Tab w) (h1 : StrsAt w w.heap.size WA wn b.words) (h2 : MsgsAt w w.heap.size MA mn b.msgs) (hwc : wn ≤ wcp) (hmc : mn ≤ mcp) (z1 : b.id.size ≤ 140737488355328) (hu1 : -9223372036854775808 ≤ u) (hu2 : u ≤ 9223372036854775807) :
    Calls Tryz.prog 4 #[.int .i64 x, .agg #[.string b.id, .int .i64 b.valid, .int .i64 b.next, .int .i64 b.high, .slice WA wn wcp, .slice MA mn mcp], .agg #[.int .i64 kd, .int .i64 u, .string tx]] w fun e w' => e = .returned (.bool true) ∧ Below w.heap.size w w' := by
  have HAW := Lib.hid (fun (wr : World) (hb : Below w.heap.size w wr) => LwAw.awake (ht.below hb (Nat.le_refl _)))
  have hs0 : (w.alloc (.cells #[.string b.id, .int .i64 b.valid, .int .i64 b.next, .int .i64 b.high, .slice WA wn wcp, .slice MA mn mcp] 25)).heap.size = w.heap.size + 1 := by simp
  have SB0 := (Sb.first rfl (After.start w (.cells #[.string b.id, .int .i64 b.valid, .int .i64 b.next, .int .i64 b.high, .slice WA wn wcp, .slice MA mn mcp] 25)) h1 h2 hwc hmc).alloc (.cells #[.int .i64 kd, .int .i64 u, .string tx] 50)
  have hl0 := heap_alloc_new (w.alloc (.cells #[.string b.id, .int .i64 b.valid, .int .i64 b.next, .int .i64 b.high, .slice WA wn wcp, .slice MA mn mcp] 25)) (.cells #[.int .i64 kd, .int .i64 u, .string tx] 50)
  rw [hs0] at hl0
  have LB0 : LBk _ (w.heap.size + 1) kd u tx := hl0
  have HT := Lib.hid ht
  clear h1 h2 ht hwc hmc hl0
  have KH := heavy_any (bid := b.id) (bv := b.valid) (bn := b.next) (bh := b.high) (wc := wcp) (mc := mcp) SB0.ws SB0.ms (Nat.le_refl _) (Nat.le_refl _) z1
  have SB := Lib.hid SB0
  have LB := Lib.hid LB0
  obtain ⟨P, er, L, h4⟩ := four x b
  have H4 := Lib.hid h4
  clear SB0 LB0 h4 hs0
  rcases hv_or b.id b.words b.msgs with hh | ⟨hh, _, _, _⟩
  · rw [hh] at KH
    have K1 := Lib.hid KH
    clear KH hh
    go_enter Tryz.func4, Tryz.ntmps4
    go_upto_region 1 with fail
    generalize (World.alloc (World.alloc w _) _) = w1 at SB LB K1 ⊢
    obtain ⟨b0, b1, b2, b3, b4, b5, _⟩ := six_at SB.out.blk
    go_wp2_with (first
      | (go_at_call 8; go_loud (
         refine K1.out.mono ?_
         rintro e w2 ⟨rfl, hb2⟩
         have SB2 := Lib.hid (SB.out.go hb2)
         clear hb2 b0 b1 b2 b3 b4 b5))
      | (go_at_call 22; go_loud (
         refine (HAW.out _ SB2.out.bel).mono ?_
         rintro e wz ⟨rfl, hbz⟩
         have HBz := Lib.hid (SB2.out.bel.trans (hbz.mono SB2.out.bel.size))
         clear hbz)))
    go_ret
    exact ⟨rfl, HBz.out⟩
  rw [hh] at KH
  have K1 := Lib.hid KH
  clear KH hh
  by_cases hn : 300 < tx.size
  · have hn1 : decide ((300 : Int) < (tx.size : Int)) = true := decide_eq_true (by omega)
    go_enter Tryz.func4, Tryz.ntmps4
    go_upto_region 1 with fail
    generalize (World.alloc (World.alloc w _) _) = w1 at SB LB K1 ⊢
    obtain ⟨b0, b1, b2, b3, b4, b5, _⟩ := six_at SB.out.blk
    go_wp2_with (first
      | (go_at_call 8; go_loud (
         refine K1.out.mono ?_
         rintro e w2 ⟨rfl, hb2⟩
         have SB2 := Lib.hid (SB.out.go hb2)
         obtain ⟨l0, l1, l2, _⟩ := LBk.cells (LB.out.go hb2)
         clear hb2 b0 b1 b2 b3 b4 b5))
      | (go_at_call 22; go_loud (
         refine (HAW.out _ SB2.out.bel).mono ?_
         rintro e wz ⟨rfl, hbz⟩
         have HBz := Lib.hid (SB2.out.bel.trans (hbz.mono SB2.out.bel.size))
         clear hbz)))
    go_ret
    exact ⟨rfl, HBz.out⟩
  have hn1 : decide ((300 : Int) < (tx.size : Int)) = false := decide_eq_false (by omega)
  have hn2 : tx.size ≤ 1000000 := by omega
  clear hn
  go_enter Tryz.func4, Tryz.ntmps4
  go_upto_region 1 with fail
  generalize (World.alloc (World.alloc w _) _) = w1 at SB LB K1 ⊢
  obtain ⟨b0, b1, b2, b3, b4, b5, _⟩ := six_at SB.out.blk
  go_upto_region 3 with (go_at_call 8; go_loud (
     refine K1.out.mono ?_
     rintro e w2 ⟨rfl, hb2⟩
     have SB := Lib.hid (SB.out.go hb2)
     have LB := Lib.hid (LB.out.go hb2)
     obtain ⟨l0, l1, l2, _⟩ := LB.out.cells
     clear hb2 b0 b1 b2 b3 b4 b5))
  clear K1 l0 l1 l2 hn1
  have KP := Lib.hid (H4.out.pa (HT.out.below SB.out.bel (Nat.le_refl _)) SB.out)
  obtain ⟨b0, b1, b2, b3, b4, b5, _⟩ := six_at SB.out.blk
  go_upto_region 4 with (go_at_call 23; go_loud (
     refine KP.out.mono ?_
     rintro e w3 ⟨CA2, cn2, cc2, NA2, nn2, nc2, rfl, hcc, hnc, hl, hb⟩
     have hb0 := SB.out.bel.trans (hb.mono SB.out.bel.size)
     have S1 := Lib.hid (Sb.new (w := w) (c := P) hb0 hb.size hcc hnc hl)
     have hbx := hb.alloc hb.size (.cells #[.string P.id, .int .i64 P.valid, .int .i64 P.next, .int .i64 P.high, .slice CA2 cn2 cc2, .slice NA2 nn2 nc2] 25)
     have SB := Lib.hid (SB.out.go hbx)
     have LB := Lib.hid (LB.out.go hbx)
     clear hcc hnc hl hb hb0 hbx b0 b1 b2 b3 b4 b5))
  clear KP
  obtain ⟨Q2, hQ⟩ : ∃ Q, Q = w3.heap.size := ⟨_, rfl⟩
  rw [← hQ] at S1 ⊢
  clear hQ
  generalize (World.alloc w3 _) = w4 at S1 SB LB ⊢
  have KP := Lib.hid (H4.out.pb (HT.out.below SB.out.bel (Nat.le_refl _)) SB.out)
  obtain ⟨b0, b1, b2, b3, b4, b5, _⟩ := six_at SB.out.blk
  go_upto_region 5 with (go_at_call 24; go_loud (
     refine KP.out.mono ?_
     rintro e w5 ⟨CA4, cn4, cc4, NA4, nn4, nc4, rfl, hcc, hnc, hx, hm, hb⟩
     have hb0 := SB.out.bel.trans (hb.mono SB.out.bel.size)
     have S2 := Lib.hid (sb_new (w := w) (c := P) hb0 hcc hnc hx hm)
     have hbx := hb.alloc hb.size (.cells #[.string P.id, .int .i64 P.valid, .int .i64 P.next, .int .i64 P.high, .slice CA4 cn4 cc4, .slice NA4 nn4 nc4] 25)
     have SB := Lib.hid (SB.out.go hbx)
     have LB := Lib.hid (LB.out.go hbx)
     have S1 := Lib.hid (S1.out.go hbx)
     clear hcc hnc hx hm hb hb0 hbx b0 b1 b2 b3 b4 b5))
  clear KP
  obtain ⟨Q4, hQ⟩ : ∃ Q, Q = w5.heap.size := ⟨_, rfl⟩
  rw [← hQ] at S2 ⊢
  clear hQ
  generalize (World.alloc w5 _) = w6 at S2 SB LB S1 ⊢
  have KP := Lib.hid (H4.out.pc (HT.out.below SB.out.bel (Nat.le_refl _)) SB.out)
  obtain ⟨b0, b1, b2, b3, b4, b5, _⟩ := six_at SB.out.blk
  go_upto_region 6 with (go_at_call 25; go_loud (
     refine KP.out.mono ?_
     rintro e w7 ⟨LA6, ln6, lc6, rfl, hcc, hl, hb⟩
     have L1 := Lib.hid (Lk.mk hcc hl)
     have SB := Lib.hid (SB.out.go hb)
     have LB := Lib.hid (LB.out.go hb)
     have S1 := Lib.hid (S1.out.go hb)
     have S2 := Lib.hid (S2.out.go hb)
     clear hcc hl hb b0 b1 b2 b3 b4 b5))
  clear KP
  have KP := Lib.hid (H4.out.pd (HT.out.below SB.out.bel (Nat.le_refl _)) SB.out)
  obtain ⟨b0, b1, b2, b3, b4, b5, _⟩ := six_at SB.out.blk
  go_upto_region 7 with (go_at_call 26; go_loud (
     refine KP.out.mono ?_
     rintro e w8 ⟨LA7, ln7, lc7, rfl, hcc, hl, hb⟩
     have L2 := Lib.hid (Lk.mk hcc hl)
     have SB := Lib.hid (SB.out.go hb)
     have LB := Lib.hid (LB.out.go hb)
     have S1 := Lib.hid (S1.out.go hb)
     have S2 := Lib.hid (S2.out.go hb)
     have L1 := Lib.hid (L1.out.go hb)
     clear hcc hl hb b0 b1 b2 b3 b4 b5))
  clear KP
  obtain ⟨Q, hQQ⟩ : ∃ Q, Q = w.heap.size + 1 := ⟨_, rfl⟩
  rw [← hQQ] at LB ⊢
  clear hQQ
  have HWW := Lib.hid (show Below w.heap.size w w8 from SB.out.bel)
  have KS := Lib.hid (fun (wr : World) (hb : Below w8.heap.size w8 wr) => show Calls Tryz.prog 27 #[.agg #[.string P.id, .int .i64 P.valid, .int .i64 P.next, .int .i64 P.high, .slice CA2 cn2 cc2, .slice NA2 nn2 nc2], .agg #[.string P.id, .int .i64 P.valid, .int .i64 P.next, .int .i64 P.high, .slice CA4 cn4 cc4, .slice NA4 nn4 nc4]] wr (fun e w' => e = .returned (.bool true) ∧ Below w8.heap.size w8 w') from
    (same_eq (S1.out.go hb) (S2.out.go hb) rfl).mono fun e w' ⟨h1, h2⟩ => ⟨h1, hb.trans (h2.mono hb.size)⟩)
  have KL := Lib.hid (fun (wr : World) (hb : Below w8.heap.size w8 wr) => show Calls Tryz.prog 28 #[.slice LA6 ln6 lc6, .slice LA7 ln7 lc7] wr (fun e w' => e = .returned (.bool true) ∧ Below w8.heap.size w8 w') from
    (same_los (c2 := lc7) (L1.out.go hb).at_ (L2.out.go hb).at_ (Nat.le_refl _) L1.out.le).mono fun e w' ⟨h1, h2⟩ => ⟨h1, hb.trans (h2.mono hb.size)⟩)
  obtain ⟨t, hte⟩ : ∃ t, t = LwT.textL ⟨kd, u, tx⟩ := ⟨_, rfl⟩
  have KT := Lib.hid (fun (wr : World) (hb : Below w8.heap.size w8 wr) => show Calls Tryz.prog 29 #[.agg #[.int .i64 kd, .int .i64 u, .string tx]] wr (fun e w' => e = .returned (.string t) ∧ Below w8.heap.size w8 w') from
    (LwT.text_any (k := kd) (HT.out.below (HWW.out.trans (hb.mono HWW.out.size)) (Nat.le_refl _)) hu1 hu2 hn2).mono fun e w' ⟨h1, h2⟩ => ⟨h1.trans (by rw [hte]), hb.trans (h2.mono hb.size)⟩)
  have KQ := Lib.hid (fun (wr : World) (hb : Below w8.heap.size w8 wr) => show Calls Tryz.prog 30 #[.agg #[.int .i64 kd, .int .i64 u, .string tx]] wr (fun e w' => e = .returned (.string t) ∧ Below w8.heap.size w8 w') from
    (LwQ.text_any (k := kd) (HT.out.below (HWW.out.trans (hb.mono HWW.out.size)) (Nat.le_refl _)) hu1 hu2 hn2).mono fun e w' ⟨h1, h2⟩ => ⟨h1.trans (by rw [hte]), hb.trans (h2.mono hb.size)⟩)
  have KA := Lib.hid (fun (wr : World) (hb : Below w8.heap.size w8 wr) => show Calls Tryz.prog 22 #[] wr (fun e w' => e = .returned (.bool true) ∧ Below w8.heap.size w8 w') from
    (HAW.out wr (HWW.out.trans (hb.mono HWW.out.size))).mono fun e w' ⟨h1, h2⟩ => ⟨h1, hb.trans (h2.mono hb.size)⟩)
  have HC := Lib.hid (fun (wr : World) (hb : Below w8.heap.size w8 wr) => show (wr.cell? { block := Q2, off := 0 } = some (.string P.id) ∧ wr.cell? { block := Q2, off := 1 } = some (.int .i64 P.valid) ∧ wr.cell? { block := Q2, off := 2 } = some (.int .i64 P.next) ∧ wr.cell? { block := Q2, off := 3 } = some (.int .i64 P.high) ∧ wr.cell? { block := Q2, off := 4 } = some (.slice CA2 cn2 cc2) ∧ wr.cell? { block := Q2, off := 5 } = some (.slice NA2 nn2 nc2)) ∧ (wr.cell? { block := Q4, off := 0 } = some (.string P.id) ∧ wr.cell? { block := Q4, off := 1 } = some (.int .i64 P.valid) ∧ wr.cell? { block := Q4, off := 2 } = some (.int .i64 P.next) ∧ wr.cell? { block := Q4, off := 3 } = some (.int .i64 P.high) ∧ wr.cell? { block := Q4, off := 4 } = some (.slice CA4 cn4 cc4) ∧ wr.cell? { block := Q4, off := 5 } = some (.slice NA4 nn4 nc4)) ∧ (wr.cell? { block := Q, off := 0 } = some (.int .i64 kd) ∧ wr.cell? { block := Q, off := 1 } = some (.int .i64 u) ∧ wr.cell? { block := Q, off := 2 } = some (.string tx)) from by
    obtain ⟨a0, a1, a2, a3, a4, a5, _⟩ := six_at (S1.out.go hb).blk
    obtain ⟨c0, c1, c2, c3, c4, c5, _⟩ := six_at (S2.out.go hb).blk
    obtain ⟨l0, l1, l2, _⟩ := LBk.cells (LB.out.go hb)
    exact ⟨⟨a0, a1, a2, a3, a4, a5⟩, ⟨c0, c1, c2, c3, c4, c5⟩, l0, l1, l2⟩)
  have F0 := HC.out w8 (Below.refl _ _)
  have hee : (er == er) = true := beq_self_eq_true er
  have htt : (t.toList == t.toList) = true := beq_self_eq_true _
  clear hte
  have HB0 := Lib.hid (Below.refl w8.heap.size w8)
  go_region_held3 (fun wx => (wx.cell? { block := Q2, off := 0 } = some (.string P.id) ∧ wx.cell? { block := Q2, off := 1 } = some (.int .i64 P.valid) ∧ wx.cell? { block := Q2, off := 2 } = some (.int .i64 P.next) ∧ wx.cell? { block := Q2, off := 3 } = some (.int .i64 P.high) ∧ wx.cell? { block := Q2, off := 4 } = some (.slice CA2 cn2 cc2) ∧ wx.cell? { block := Q2, off := 5 } = some (.slice NA2 nn2 nc2)) ∧ (wx.cell? { block := Q4, off := 0 } = some (.string P.id) ∧ wx.cell? { block := Q4, off := 1 } = some (.int .i64 P.valid) ∧ wx.cell? { block := Q4, off := 2 } = some (.int .i64 P.next) ∧ wx.cell? { block := Q4, off := 3 } = some (.int .i64 P.high) ∧ wx.cell? { block := Q4, off := 4 } = some (.slice CA4 cn4 cc4) ∧ wx.cell? { block := Q4, off := 5 } = some (.slice NA4 nn4 nc4)) ∧ (wx.cell? { block := Q, off := 0 } = some (.int .i64 kd) ∧ wx.cell? { block := Q, off := 1 } = some (.int .i64 u) ∧ wx.cell? { block := Q, off := 2 } = some (.string tx))) (with_reducible first | exact F0 | exact F1 | exact F2 | exact F3 | exact F4 | exact F5 | go_keep) (first
    | (go_simp; go_at_call 27; go_loud (
       refine (KS.out _ (by (repeat (with_reducible first | exact HB0.out | refine Below.drew ?_)); done)).mono ?_
       rintro e v1 ⟨rfl, hbj⟩
       have HB1 := Lib.hid hbj
       have F1 := HC.out v1 hbj
       clear hbj
       dsimp only))
    | (go_simp; go_at_call 28; go_loud (
       refine (KL.out _ (by (repeat (with_reducible first | exact HB0.out | exact HB1.out | refine Below.drew ?_)); done)).mono ?_
       rintro e v2 ⟨rfl, hbj⟩
       have HB2 := Lib.hid hbj
       have F2 := HC.out v2 hbj
       clear hbj
       dsimp only))
    | (go_simp; go_at_call 29; go_loud (
       refine (KT.out _ (by (repeat (with_reducible first | exact HB0.out | exact HB1.out | exact HB2.out | refine Below.drew ?_)); done)).mono ?_
       rintro e v3 ⟨rfl, hbj⟩
       have HB3 := Lib.hid hbj
       have F3 := HC.out v3 hbj
       clear hbj
       dsimp only))
    | (go_simp; go_at_call 30; go_loud (
       refine (KQ.out _ (by (repeat (with_reducible first | exact HB0.out | exact HB1.out | exact HB2.out | exact HB3.out | refine Below.drew ?_)); done)).mono ?_
       rintro e v4 ⟨rfl, hbj⟩
       have HB4 := Lib.hid hbj
       have F4 := HC.out v4 hbj
       clear hbj
       dsimp only))
    | (go_simp; go_at_call 22; go_loud (
       refine (KA.out _ (by (repeat (with_reducible first | exact HB0.out | exact HB1.out | exact HB2.out | exact HB3.out | exact HB4.out | refine Below.drew ?_)); done)).mono ?_
       rintro e v5 ⟨rfl, hbj⟩
       have HB5 := Lib.hid hbj
       have F5 := HC.out v5 hbj
       clear hbj
       dsimp only)))
  rename_i hHeld
  clear hHeld
  go_wp2_with fail
  go_ret
  exact ⟨rfl, HWW.out.trans (HB5.out.mono HWW.out.size)⟩
end Go.Proofs.YtchlbbndfhibgaaGreatDoor.LwForms
