/-
  Form1Cut: bytes that are cut short, or have one more behind, are no form.
-/
import Derived.Test.YtfhdoecackdflaaDoorO1Aw
import Derived.Test.YtfhdoecackdflaaDoorOlW
import Derived.Test.YtfhdoecackdflaaDoorBxH
import Derived.Deep.CutBlock
set_option linter.unusedVariables false
set_option linter.unusedSimpArgs false
namespace Go.Proofs.YtfhdoecackdflaaDoor.O1Cut
open Go.Proofs.YtfhdoecackdflaaDoor.PtK
open Go.RowKit Go.Proofs.YtfhdoecackdflaaDoor.BxD Go.Proofs.YtfhdoecackdflaaDoor.BxKit Go.Proofs.YtfhdoecackdflaaDoor.BxB Go.Proofs.YtfhdoecackdflaaDoor.BxH Go.Proofs.YtfhdoecackdflaaDoor.OlD Go.Proofs.YtfhdoecackdflaaDoor.OlU Go.Proofs.YtfhdoecackdflaaDoor.OlY
open Go.Proofs.YtfhdoecackdflaaDoor.PkKit (BytesAt)

theorem pick_k (x : Int) {mn : Nat} (h0 : 0 < mn) (h : mn ≤ 140737488355328) : ∃ k : Nat, k < mn ∧ IntKind.i64.wrap ((IntKind.u64.wrap x).tmod (mn : Int)) = (k : Int) := by
  have h0 : 0 ≤ IntKind.u64.wrap x := by
    rw [show IntKind.u64.wrap x = x % 18446744073709551616 from rfl]
    exact Int.emod_nonneg _ (by decide)
  have h1 := Int.tmod_nonneg (mn : Int) h0
  have h2 := Int.tmod_lt_of_pos (IntKind.u64.wrap x) (show (0 : Int) < (mn : Int) by omega)
  refine ⟨((IntKind.u64.wrap x).tmod mn).toNat, by omega, ?_⟩
  rw [IntKind.wrap_i64]
  omega
theorem flat_le {α : Type} {f : α → List UInt8} {K : Nat} : ∀ {l : List α}, (∀ x ∈ l, (f x).length ≤ K) → (l.flatMap f).length ≤ l.length * K
  | [], _ => by simp
  | x :: l, h => by
    have h1 := h x (by simp)
    have h2 := flat_le (l := l) (fun y hy => h y (List.mem_cons_of_mem _ hy))
    rw [List.flatMap_cons, List.length_append, List.length_cons, Nat.add_mul]
    omega
theorem eb_len {b : Box} (h : mbE b = 0) : 3 ≤ (eb false b).length ∧ (eb false b).length ≤ 100000 := by
  have g := OlP.good_of h
  have h1 : ((b.words.take 32).flatMap PkB.tx).length ≤ (b.words.take 32).length * 306 := flat_le fun s hs => PkK.tx_len (by have := (atB_size (OlP.wordsB_at g.ws s (List.mem_of_mem_take hs))).2; omega)
  have h2 : (b.msgs.flatMap (em false)).length ≤ b.msgs.length * 321 := flat_le fun m hm => by
    obtain ⟨_, _, _, _, _, _, h7⟩ := OlP.mm_parts (g.ms m hm).1
    rw [OlC.em_len]; have := OlC.ch_le false m.mod; omega
  have h3 := g.ml
  have h4 : (b.words.take 32).length ≤ 32 := by rw [List.length_take]; omega
  unfold eb ebR
  simp only [List.length_append, fx_len]
  have e : (mk false).length = 3 := rfl
  have e7 := OlC.ch_le false b.high
  have h5 : (b.words.take 32).length * 306 ≤ 32 * 306 := Nat.mul_le_mul_right _ h4
  have h6 : b.msgs.length * 321 ≤ 60 * 321 := Nat.mul_le_mul_right _ h3
  omega
/-- A box in a block of its own, its cells laid one by one. -/
theorem six_below {B : Nat} {w wr : World} {P : Nat} (h : Below B w wr) (hP : B ≤ P) (c0 c1 c2 c3 c4 c5 : Value) : Below B w ((((((wr.setCell { block := P, off := 0 } c0).setCell { block := P, off := 1 } c1).setCell { block := P, off := 2 } c2).setCell { block := P, off := 3 } c3).setCell { block := P, off := 4 } c4).setCell { block := P, off := 5 } c5) :=
  (((((h.setCell hP _).setCell hP _).setCell hP _).setCell hP _).setCell hP _).setCell hP _
theorem six_cell {wr : World} {P : Nat} {p : Addr} (hp : p.block ≠ P) (c0 c1 c2 c3 c4 c5 : Value) : ((((((wr.setCell { block := P, off := 0 } c0).setCell { block := P, off := 1 } c1).setCell { block := P, off := 2 } c2).setCell { block := P, off := 3 } c3).setCell { block := P, off := 4 } c4).setCell { block := P, off := 5 } c5).cell? p = wr.cell? p := by
  refine World.cell?_of_block ?_
  iterate 6 rw [Below.heap_setCell _ _ _ _ (by show p.block ≠ P; exact hp)]
theorem nw {w : World} {o : Obj} {b : Nat} (hb : b = w.heap.size) : (w.alloc o).heap[b]? = some o := by subst hb; exact heap_alloc_new w o
theorem od {w : World} {o : Obj} {b : Nat} {x : Obj} (h : w.heap[b]? = some x) : (w.alloc o).heap[b]? = some x := (heap_alloc_old _ _ (Array.getElem?_eq_some_iff.1 h).1).trans h
theorem dr {w : World} {b : Nat} {x : Obj} (h : w.heap[b]? = some x) : w.drew.heap[b]? = some x := h
theorem cell_bel {w w5 W : World} {c0 c1 c2 c3 c4 c5 : Value} {t : TypeId} (h : After w (.cells #[c0, c1, c2, c3, c4, c5] t) w5) (hb : Below w5.heap.size w5 W) : W.cell? { block := w.heap.size, off := 0 } = some c0 ∧ Below w5.heap.size w5 W := ⟨(h.go hb).box.1, hb⟩
theorem own_go {w W : World} {base e sz n : Nat} {v : Value} {xs : List Value} (h : w.ownsRow base e sz v n xs) (hb : Below w.heap.size w W) : W.ownsRow base e sz v n xs := BxC.own_block h fun g e => hb.block g (h.lt g e).2
theorem ne_blk {w : World} {base e sz n b : Nat} {v : Value} {xs : List Value} {cs : Array Value} {t : TypeId} {fr : Nat × Nat} (h : w.ownsRow base e sz v n xs) (hb : w.heap[b]? = some (.cells cs t fr)) (he : e ≠ t := by decide) : some b ≠ v.ownBlock := by
  intro hv
  rcases h.2 with ⟨rfl, _⟩ | ⟨g1, cap, cur, rfl, _, hg, _⟩
  · simp [Value.ownBlock] at hv
  · obtain rfl : b = g1 := by simpa [Value.ownBlock] using hv
    rw [hb] at hg
    injection hg with hg
    injection hg with _ h2
    exact he h2.symm
theorem blk_go {W w' : World} {base e sz n b : Nat} {v : Value} {xs : List Value} {cs : Array Value} {t : TypeId} {fr : Nat × Nat} (hg : W.grownBy w' v.ownBlock) (ho : W.ownsRow base e sz v n xs) (hb : W.heap[b]? = some (.cells cs t fr)) (he : e ≠ t := by decide) : w'.heap[b]? = some (.cells cs t fr) :=
  (hg.block b (Array.getElem?_eq_some_iff.1 hb).1 (ne_blk ho hb he)).trans hb
theorem one_at {W : World} {b : Nat} {c : UInt8} (h : W.heap[b]? = some (.cells #[.int .u8 (c.toNat : Int)] 5 (0, 0))) : BytesAt W W.heap.size (some ⟨b, 0, none⟩) 1 [c] := by
  refine ⟨rfl, fun _ => ⟨_, rfl, (Array.getElem?_eq_some_iff.1 h).1, fun j x hj => ?_⟩⟩
  rw [BxR.add_new, cell_of_row W b j _ _ _ h]
  match j, hj with
  | 0, hj => simp at hj; subst hj; rfl
theorem empty_at {W : World} {base b : Nat} (h : W.heap[b]? = some (.cells #[] 5 (0, 0))) (hb : base ≤ b) : W.ownsRow base 5 1 (.slice (some ⟨b, 0, none⟩) 0 0) 0 (PkKit.by_ []) :=
  ⟨rfl, .inr ⟨b, 0, #[], rfl, hb, h, Nat.le_refl _, Nat.zero_le _, rfl, rfl⟩⟩
set_option maxHeartbeats 4000000 in
set_option maxRecDepth 100000 in
theorem walk {b : Box} {at_ : Int} {more : UInt8} {WA MA : Option Addr} {wn wcp mn mcp : Nat} {w : World} (ht : BxO.Tab w) (h1 : StrsAt w w.heap.size WA wn b.words) (h2 : MsgsAt w w.heap.size MA mn b.msgs) (hwc : wn ≤ wcp) (hmc : mn ≤ mcp) (z1 : b.id.size ≤ 140737488355328) :
    Calls Tryd.prog 5 #[.agg #[.string b.id, .int .i64 b.valid, .int .i64 b.next, .int .i64 b.high, .slice WA wn wcp, .slice MA mn mcp], .int .i64 at_, .int .u8 (more.toNat : Int)] w fun e w' => e = .returned (.bool true) ∧ Below w.heap.size w w' := by
  have KH := fun o => heavy_any (bid := b.id) (bv := b.valid) (bn := b.next) (bh := b.high) (wc := wcp) (mc := mcp) (StrsAt.below h1 ((Below.refl _ w).alloc (Nat.le_refl _) o) (Nat.le_refl _)) (MsgsAt.below h2 ((Below.refl _ w).alloc (Nat.le_refl _) o) (Nat.le_refl _)) (by simp) (by simp) z1
  have KM := fun (wr : World) (h : After w (.cells #[.string b.id, .int .i64 b.valid, .int .i64 b.next, .int .i64 b.high, .slice WA wn wcp, .slice MA mn mcp] 25) wr) => ref_may (bid := b.id) (bv := b.valid) (bn := b.next) (bh := b.high) (wc := wcp) (mc := mcp) (StrsAt.below h1 h.below (Nat.le_refl _)) (MsgsAt.below h2 h.below (Nat.le_refl _)) h.below.size hwc
  have HAW := Lib.hid (fun (wr : World) => O1Aw.awake wr)
  have HS := Lib.hid (After.start w (.cells #[.string b.id, .int .i64 b.valid, .int .i64 b.next, .int .i64 b.high, .slice WA wn wcp, .slice MA mn mcp] 25))
  have HX := Lib.hid h1
  have HM := Lib.hid h2
  have HT := Lib.hid ht
  have HWC := Lib.hid hwc
  have HMC := Lib.hid hmc
  clear h1 h2 ht hwc hmc
  rcases hv_or b.id b.words b.msgs with hh | ⟨hh, _, _, _⟩
  · simp only [hh] at KH
    have K1 := Lib.hid KH
    clear KH hh KM
    go_enter Tryd.func5, Tryd.ntmps5
    go_wp2_with fail
    refine (K1.out _).mono ?_
    rintro e w1 ⟨rfl, hb1⟩
    have HB := Lib.hid (HS.out.go hb1).below
    clear hb1
    go_wp2_with (go_at_call 12; refine (HAW.out _).mono ?_; rintro e w2 ⟨rfl, hb2⟩)
    go_ret
    exact ⟨rfl, HB.out.trans (hb2.mono HB.out.size)⟩
  simp only [hh] at KH
  have K1 := Lib.hid KH
  clear KH hh
  obtain ⟨em, hem⟩ : ∃ em, em = mbE b := ⟨_, rfl⟩
  simp only [show mbE ⟨b.id, b.valid, b.next, b.high, b.words, b.msgs⟩ = mbE b from rfl, ← hem] at KM
  have K2 := Lib.hid KM
  clear KM
  by_cases he : em = 0
  case neg =>
    have hne : (em != 0) = true := by simpa using he
    clear he hem
    go_enter Tryd.func5, Tryd.ntmps5
    go_wp2_with fail
    refine (K1.out _).mono ?_
    rintro e w1 ⟨rfl, hb1⟩
    have HB := Lib.hid (HS.out.go hb1)
    obtain ⟨b0, b1, b2, b3, b4, b5⟩ := HB.out.box
    clear hb1
    go_wp2_with fail
    refine (K2.out _ HB.out).mono ?_
    rintro e w2 ⟨rfl, hb2⟩
    have HB2 := Lib.hid (HB.out.go hb2).below
    clear hb2
    go_wp2_with (go_at_call 12; refine (HAW.out _).mono ?_; rintro e w2 ⟨rfl, hb2⟩)
    go_ret
    exact ⟨rfl, HB2.out.trans (hb2.mono HB2.out.size)⟩
  subst he
  have HE := Lib.hid hem.symm
  clear hem
  go_enter Tryd.func5, Tryd.ntmps5
  go_wp2_with fail
  refine (K1.out _).mono ?_
  rintro e w1 ⟨rfl, hb1⟩
  have HB := Lib.hid (HS.out.go hb1)
  obtain ⟨b0, b1, b2, b3, b4, b5⟩ := HB.out.box
  clear hb1 K1 HS
  go_upto_region 3 with (go_at_call 18; go_loud (
     refine (K2.out _ HB.out).mono ?_
     rintro e w2 ⟨rfl, hb2⟩
     have HB2 := Lib.hid (HB.out.go hb2)
     clear hb2 b0 b1 b2 b3 b4 b5))
  obtain ⟨b0, b1, b2, b3, b4, b5⟩ := HB2.out.box
  have KB := Lib.hid (OlW.bytes1_ok (b := b) (StrsAt.below HX.out HB2.out.below (Nat.le_refl _)) (MsgsAt.below HM.out HB2.out.below (Nat.le_refl _)) HWC.out HMC.out HB2.out.below.size HE.out)
  clear K2 HB
  go_upto_region 6 with (go_at_call 13; go_loud (
     refine KB.out.mono ?_
     rintro e w3 ⟨A, n, c, rfl, hc, hx, hb3⟩
     have HB3 := Lib.hid (HB2.out.go hb3)
     have HX3 := Lib.hid hx
     have hnl := hx.1
     obtain ⟨hn3, hn5⟩ := eb_len HE.out
     rw [hnl] at hn3 hn5
     have hn0 : ((n : Int) == 0) = false := by rw [beq_eq_false_iff_ne]; omega
     clear hnl
     clear hb3 hx b0 b1 b2 b3 b4 b5))
  obtain ⟨q, hq, hqq⟩ := pick_k at_ (mn := n) (by omega) (by omega)
  have hmw : IntKind.u64.wrap (n : Int) = (n : Int) := by
    rw [show IntKind.u64.wrap (n : Int) = (n : Int) % 18446744073709551616 from rfl]; omega
  have hz1 : ¬ (n : Int) = 0 := by omega
  have hz2 : ¬ n = 0 := by omega
  have g0 : (0 : Int) ≤ (q : Int) := by omega
  have g3 : (q : Int) ≤ (n : Int) := by omega
  have e0 := hqq
  clear hqq
  have g1 : (q : Int) ≤ (c : Int) := by omega
  have g2 : q ≤ c := by omega
  have hs3 := HB3.out.size
  have KP := Lib.hid (fun (wr : World) (hb : Below w3.heap.size w3 wr) => (OlW.parse1_any (cp := c) (id := b.id) (HT.out.below ((HB3.out.below).trans (hb.mono (by omega))) (Nat.le_refl _)) ((HX3.out.below hb (Nat.le_refl _)).take (k := q) (by omega)) hb.size (by omega) (by omega) (by have := (OlP.good_of HE.out).ids; omega)).mono (fun _ _ => PtK.ParseNew.out))
  have hcut := OlP.parse_cut (cg := false) (b := b) (q := q) HE.out (by rw [HX3.out.1]; exact hq)
  obtain ⟨f, hf⟩ : ∃ f, f = (parseS false ((eb false b).take q) b.id).2 := ⟨_, rfl⟩
  obtain ⟨bb, hbb⟩ : ∃ bb, bb = (parseS false ((eb false b).take q) b.id).1 := ⟨_, rfl⟩
  simp only [← hf, ← hbb] at KP
  rw [← hf] at hcut
  have HCUT := Lib.hid hcut
  clear hf hbb hcut
  obtain ⟨b0, b1, b2, b3, b4, b5⟩ := HB3.out.box
  go_cut [10] (fun s10 wx => s10 = .int .i64 f ∧ Hid (Below w3.heap.size w3 wx))
  case first =>
    go_region_held3 (fun wr => wr.cell? { block := w.heap.size, off := 0 } = some (.string b.id)) (with_reducible first | exact b0 | exact x0 | exact y0 _ _ _ _ _ _ | go_keep) (first
      | (go_at_call 15
         ((with_reducible refine (KP.out _ ?d1).mono ?_); rotate_left)
         case d1 => with_reducible first | exact (Below.refl _ _).drew | exact ((Below.refl _ _).alloc (Nat.le_refl _) _).drew | exact (Below.drew (Below.refl _ _)).alloc (Nat.le_refl _) _
         go_loud (
         rintro e w4 ⟨WA4, wn4, wc4, MA4, mn4, mc4, rfl, _, _, _, _, hb4⟩
         first
         | (have hbz : w4.heap[w3.heap.size]? = some (.cells #[.string ⟨#[]⟩, .int .i64 0, .int .i64 0, .int .i64 0, .slice none 0 0, .slice none 0 0] 25 (0, 0)) := (hb4.block w3.heap.size (by simp)).trans (by first | exact heap_alloc_new w3 _ | exact heap_alloc_new w3.drew _)
            obtain ⟨z0, z1, z2, z3, z4, z5, zf⟩ := zcells6 hbz
            have f0 := zf 0
            have f1 := zf 1
            have f2 := zf 2
            have f3 := zf 3
            have f4 := zf 4
            have f5 := zf 5
            have X4 := Lib.hid (show Below w3.heap.size w3 w4 from ((Below.drew (Below.refl _ _)).alloc (Nat.le_refl _) _).trans (hb4.mono (by simp)))
            clear zf hbz)
         | (have X4 := Lib.hid (show Below w3.heap.size w3 w4 from (Below.drew (Below.refl _ _)).trans hb4))
         have x0 := (HB3.out.go X4.out).box.1
         have y0 := fun c0 c1 c2 c3 c4 c5 => (six_cell (wr := w4) (P := w3.heap.size) (p := { block := w.heap.size, off := 0 }) (by show w.heap.size ≠ w3.heap.size; omega) c0 c1 c2 c3 c4 c5).trans x0
         clear hb4
         dsimp only)))
    all_goals
      go_step
      go_step
      go_meet
      exact ⟨rfl, by show Below _ _ _; with_reducible first | exact X4.out.alloc X4.out.size _ | exact six_below X4.out (Nat.le_refl _) _ _ _ _ _ _⟩
  case rest =>
    clear KP b0 b1 b2 b3 b4 b5
    obtain ⟨rfl, X5⟩ := hcut
    obtain ⟨w5, hw5⟩ : ∃ w5, w5 = wc := ⟨_, rfl⟩
    subst hw5
    have HB5 := Lib.hid (HB3.out.go X5.out)
    obtain ⟨b0, b1, b2, b3, b4, b5⟩ := HB5.out.box
    have hs5 := X5.out.size
    have HX5 := Lib.hid (HX3.out.below X5.out (Nat.le_refl _))
    have KP := Lib.hid (fun (wr : World) (B' : Nat) (A' : Option Addr) (c' : Nat) (hz : BytesAt wr B' A' (n + 1) (eb false b ++ [more])) (hB : B' ≤ wr.heap.size) (hb : Below w5.heap.size w5 wr) (hc' : n + 1 ≤ c') => (OlW.parse1_any (cp := c') (id := b.id) (HT.out.below ((HB5.out.below).trans (hb.mono (by omega))) (Nat.le_refl _)) hz hB hc' (by omega) (by have := (OlP.good_of HE.out).ids; omega)).mono (fun _ _ => PtK.ParseNew.out))
    have hmore := OlP.parse_more (cg := false) (b := b) HE.out more
    simp only [hmore] at KP
    clear hmore HX3 HB3
    go_upto_region 7 with fail
    go_cut [12] (fun s12 wx => s12 = .int .i64 3 ∧ Hid (Below w5.heap.size w5 wx))
    case first =>
      go_region_held3 (fun wr => wr.cell? { block := w.heap.size, off := 0 } = some (.string b.id) ∧ Below w5.heap.size w5 wr) (with_reducible first
          | exact ⟨b0, (Below.refl _ _).drew⟩ | exact hS6 | exact hS7 | exact hS8
          | exact cell_bel HB5.out (by (repeat (with_reducible first | exact Below.refl _ _ | exact X6.out | exact X7.out | exact X8.out | refine Below.drew ?_ | refine Below.alloc ?_ (by first | exact Nat.le_refl _ | omega | (simp; done) | (simp; omega)) _)); first | done | fail)
          | exact cell_bel HB5.out (six_below X8.out (by first | exact Nat.le_refl _ | omega | (simp; done) | (simp; omega)) _ _ _ _ _ _)) (first
        | (go_at_call 15; go_loud (
           refine (KP.out _ w7.heap.size _ _ (BytesAt.below (PkKit.bytesAt_own HO2.out) (show Below w7.heap.size w7 _ from (by (repeat (with_reducible first | exact Below.refl _ _ | refine Below.drew ?_ | refine Below.alloc ?_ (by first | exact Nat.le_refl _ | omega | (simp; done) | (simp; omega)) _)); first | done | fail)) (Nat.le_refl _)) (by first | exact Nat.le_refl _ | omega | (simp; done) | (simp; omega)) (by (repeat (with_reducible first | exact Below.refl _ _ | exact X7.out | refine Below.drew ?_ | refine Below.alloc ?_ (by first | exact Nat.le_refl _ | omega | (simp; done) | (simp; omega)) _)); first | done | fail) hc2).mono ?_
           rintro e w8 ⟨WA4, wn4, wc4, MA4, mn4, mc4, rfl, _, _, _, _, hb8⟩
           have X8 := Lib.hid (Below.trans (show Below w5.heap.size w5 _ from (by (repeat (with_reducible first | exact Below.refl _ _ | exact X7.out | refine Below.drew ?_ | refine Below.alloc ?_ (by first | exact Nat.le_refl _ | omega | (simp; done) | (simp; omega)) _)); first | done | fail)) (hb8.mono (by first | exact Nat.le_refl _ | omega | (simp; done) | (simp; omega))))
           have hS8 := cell_bel HB5.out X8.out
           have hs8 := X8.out.size
           have hs8' := hb8.size
           try simp at hs8'
           first | (have HZ8 := Lib.hid (show w8.heap[w5.heap.size]? = some (.cells #[.string ⟨#[]⟩, .int .i64 0, .int .i64 0, .int .i64 0, .slice none 0 0, .slice none 0 0] 25 (0, 0)) from (hb8.block w5.heap.size (by first | omega | (simp; done) | (simp; omega))).trans (by (repeat (with_reducible first | exact nw (by first | rfl | (simp; done) | (simp; omega)) | exact HZ7.out | refine dr ?_ | refine od ?_)); first | done | fail)); obtain ⟨z0, z1, z2, z3, z4, z5, zf⟩ := zcells6 HZ8.out; have f0 := zf 0; have f1 := zf 1; have f2 := zf 2; have f3 := zf 3; have f4 := zf 4; have f5 := zf 5; clear zf) | (have HZ8 := Lib.hid (show w8.heap[(w5.heap.size + 1)]? = some (.cells #[.string ⟨#[]⟩, .int .i64 0, .int .i64 0, .int .i64 0, .slice none 0 0, .slice none 0 0] 25 (0, 0)) from (hb8.block (w5.heap.size + 1) (by first | omega | (simp; done) | (simp; omega))).trans (by (repeat (with_reducible first | exact nw (by first | rfl | (simp; done) | (simp; omega)) | exact HZ7.out | refine dr ?_ | refine od ?_)); first | done | fail)); obtain ⟨z0, z1, z2, z3, z4, z5, zf⟩ := zcells6 HZ8.out; have f0 := zf 0; have f1 := zf 1; have f2 := zf 2; have f3 := zf 3; have f4 := zf 4; have f5 := zf 5; clear zf) | (have HZ8 := Lib.hid (show w8.heap[(w5.heap.size + 2)]? = some (.cells #[.string ⟨#[]⟩, .int .i64 0, .int .i64 0, .int .i64 0, .slice none 0 0, .slice none 0 0] 25 (0, 0)) from (hb8.block (w5.heap.size + 2) (by first | omega | (simp; done) | (simp; omega))).trans (by (repeat (with_reducible first | exact nw (by first | rfl | (simp; done) | (simp; omega)) | exact HZ7.out | refine dr ?_ | refine od ?_)); first | done | fail)); obtain ⟨z0, z1, z2, z3, z4, z5, zf⟩ := zcells6 HZ8.out; have f0 := zf 0; have f1 := zf 1; have f2 := zf 2; have f3 := zf 3; have f4 := zf 4; have f5 := zf 5; clear zf) | (have HZ8 := Lib.hid (show w8.heap[w6.heap.size]? = some (.cells #[.string ⟨#[]⟩, .int .i64 0, .int .i64 0, .int .i64 0, .slice none 0 0, .slice none 0 0] 25 (0, 0)) from (hb8.block w6.heap.size (by first | omega | (simp; done) | (simp; omega))).trans (by (repeat (with_reducible first | exact nw (by first | rfl | (simp; done) | (simp; omega)) | exact HZ7.out | refine dr ?_ | refine od ?_)); first | done | fail)); obtain ⟨z0, z1, z2, z3, z4, z5, zf⟩ := zcells6 HZ8.out; have f0 := zf 0; have f1 := zf 1; have f2 := zf 2; have f3 := zf 3; have f4 := zf 4; have f5 := zf 5; clear zf) | (have HZ8 := Lib.hid (show w8.heap[(w6.heap.size + 1)]? = some (.cells #[.string ⟨#[]⟩, .int .i64 0, .int .i64 0, .int .i64 0, .slice none 0 0, .slice none 0 0] 25 (0, 0)) from (hb8.block (w6.heap.size + 1) (by first | omega | (simp; done) | (simp; omega))).trans (by (repeat (with_reducible first | exact nw (by first | rfl | (simp; done) | (simp; omega)) | exact HZ7.out | refine dr ?_ | refine od ?_)); first | done | fail)); obtain ⟨z0, z1, z2, z3, z4, z5, zf⟩ := zcells6 HZ8.out; have f0 := zf 0; have f1 := zf 1; have f2 := zf 2; have f3 := zf 3; have f4 := zf 4; have f5 := zf 5; clear zf) | (have HZ8 := Lib.hid (show w8.heap[w7.heap.size]? = some (.cells #[.string ⟨#[]⟩, .int .i64 0, .int .i64 0, .int .i64 0, .slice none 0 0, .slice none 0 0] 25 (0, 0)) from (hb8.block w7.heap.size (by first | omega | (simp; done) | (simp; omega))).trans (by (repeat (with_reducible first | exact nw (by first | rfl | (simp; done) | (simp; omega)) | exact HZ7.out | refine dr ?_ | refine od ?_)); first | done | fail)); obtain ⟨z0, z1, z2, z3, z4, z5, zf⟩ := zcells6 HZ8.out; have f0 := zf 0; have f1 := zf 1; have f2 := zf 2; have f3 := zf 3; have f4 := zf 4; have f5 := zf 5; clear zf) | skip
           clear hb8
           dsimp only))
        | (show (if Region.wanted ⟨some 52, _, _, _, _, _⟩ _ = true then _ else _)
           go_loud (
           refine PkKit.step_by (base := w5.heap.size) (c := c) rfl (.tmp 50) (.tmp 51) rfl rfl rfl (empty_at (by (repeat (with_reducible first | exact nw (by first | rfl | (simp; done) | (simp; omega)) | refine dr ?_ | refine od ?_)); first | done | fail) (by first | exact Nat.le_refl _ | omega | (simp; done) | (simp; omega))) (HX5.out.below (by (repeat (with_reducible first | exact Below.refl _ _ | refine Below.drew ?_ | refine Below.alloc ?_ (by first | exact Nat.le_refl _ | omega | (simp; done) | (simp; omega)) _)); first | done | fail) (Nat.le_refl _)) (by omega) (by first | exact Nat.le_refl _ | omega | (simp; done) | (simp; omega)) ?_
           intro v1 w6 hown1 hg1 _
           have X6 := Lib.hid (Below.grown (show Below w5.heap.size w5 _ from (by (repeat (with_reducible first | exact Below.refl _ _ | refine Below.drew ?_ | refine Below.alloc ?_ (by first | exact Nat.le_refl _ | omega | (simp; done) | (simp; omega)) _)); first | done | fail)) hg1 (by first | exact Nat.le_refl _ | omega | (simp; done) | (simp; omega)) (fun k e => by have e2 := Option.some.inj e; dsimp only at e2; omega))
           have hS6 := cell_bel HB5.out X6.out
           rw [Nat.zero_add, show PkKit.by_ [] ++ PkKit.by_ (eb false b) = PkKit.by_ (eb false b) from List.nil_append _] at hown1
           have HO1 := Lib.hid hown1
           have hs6 := X6.out.size
           have hs6' := hg1.size
           try simp at hs6'
           first | (have hgE : World.grownBy _ w6 (some w5.heap.size) := hg1) | (have hgE : World.grownBy _ w6 (some (w5.heap.size + 1)) := hg1) | (have hgE : World.grownBy _ w6 (some (w5.heap.size + 2)) := hg1)
           first | (have HZ6 := Lib.hid (show w6.heap[w5.heap.size]? = some (.cells #[.string ⟨#[]⟩, .int .i64 0, .int .i64 0, .int .i64 0, .slice none 0 0, .slice none 0 0] 25 (0, 0)) from (hgE.block w5.heap.size (by first | omega | (simp; done) | (simp; omega)) (fun e => by have := Option.some.inj e; omega)).trans (by (repeat (with_reducible first | exact nw (by first | rfl | (simp; done) | (simp; omega)) | refine dr ?_ | refine od ?_)); first | done | fail))) | (have HZ6 := Lib.hid (show w6.heap[(w5.heap.size + 1)]? = some (.cells #[.string ⟨#[]⟩, .int .i64 0, .int .i64 0, .int .i64 0, .slice none 0 0, .slice none 0 0] 25 (0, 0)) from (hgE.block (w5.heap.size + 1) (by first | omega | (simp; done) | (simp; omega)) (fun e => by have := Option.some.inj e; omega)).trans (by (repeat (with_reducible first | exact nw (by first | rfl | (simp; done) | (simp; omega)) | refine dr ?_ | refine od ?_)); first | done | fail))) | (have HZ6 := Lib.hid (show w6.heap[(w5.heap.size + 2)]? = some (.cells #[.string ⟨#[]⟩, .int .i64 0, .int .i64 0, .int .i64 0, .slice none 0 0, .slice none 0 0] 25 (0, 0)) from (hgE.block (w5.heap.size + 2) (by first | omega | (simp; done) | (simp; omega)) (fun e => by have := Option.some.inj e; omega)).trans (by (repeat (with_reducible first | exact nw (by first | rfl | (simp; done) | (simp; omega)) | refine dr ?_ | refine od ?_)); first | done | fail))) | skip
           first | (have HM6 := Lib.hid (show w6.heap[w5.heap.size]? = some (.cells #[.int .u8 (more.toNat : Int)] 5 (0, 0)) from (hgE.block w5.heap.size (by first | omega | (simp; done) | (simp; omega)) (fun e => by have := Option.some.inj e; omega)).trans (by (repeat (with_reducible first | exact nw (by first | rfl | (simp; done) | (simp; omega)) | refine dr ?_ | refine od ?_)); first | done | fail))) | (have HM6 := Lib.hid (show w6.heap[(w5.heap.size + 1)]? = some (.cells #[.int .u8 (more.toNat : Int)] 5 (0, 0)) from (hgE.block (w5.heap.size + 1) (by first | omega | (simp; done) | (simp; omega)) (fun e => by have := Option.some.inj e; omega)).trans (by (repeat (with_reducible first | exact nw (by first | rfl | (simp; done) | (simp; omega)) | refine dr ?_ | refine od ?_)); first | done | fail))) | (have HM6 := Lib.hid (show w6.heap[(w5.heap.size + 2)]? = some (.cells #[.int .u8 (more.toNat : Int)] 5 (0, 0)) from (hgE.block (w5.heap.size + 2) (by first | omega | (simp; done) | (simp; omega)) (fun e => by have := Option.some.inj e; omega)).trans (by (repeat (with_reducible first | exact nw (by first | rfl | (simp; done) | (simp; omega)) | refine dr ?_ | refine od ?_)); first | done | fail))) | skip
           clear hown1 hg1 hgE
           dsimp only))
        | (show (if Region.wanted ⟨some 55, _, _, _, _, _⟩ _ = true then _ else _)
           go_loud (
           refine PkKit.step_by (base := w5.heap.size) (c := 1) rfl (.tmp 52) (.tmp 54) rfl rfl rfl (own_go HO1.out (show Below w6.heap.size w6 _ from (by (repeat (with_reducible first | exact Below.refl _ _ | refine Below.drew ?_ | refine Below.alloc ?_ (by first | exact Nat.le_refl _ | omega | (simp; done) | (simp; omega)) _)); first | done | fail))) (one_at (by (repeat (with_reducible first | exact nw (by first | rfl | (simp; done) | (simp; omega)) | exact HM6.out | refine dr ?_ | refine od ?_)); first | done | fail)) (by omega) (by first | exact Nat.le_refl _ | omega | (simp; done) | (simp; omega)) ?_
           intro v2 w7 hown2 hg2 _
           obtain ⟨A2, c2, rfl, hc2⟩ := PkKit.own_slice hown2
           have X7 := Lib.hid (Below.grown (show Below w5.heap.size w5 _ from (by (repeat (with_reducible first | exact Below.refl _ _ | exact X6.out | refine Below.drew ?_ | refine Below.alloc ?_ (by first | exact Nat.le_refl _ | omega | (simp; done) | (simp; omega)) _)); first | done | fail)) hg2 (by first | exact Nat.le_refl _ | omega | (simp; done) | (simp; omega)) (fun k e => (HO1.out.lt k e).1))
           have hS7 := cell_bel HB5.out X7.out
           rw [← PkKit.by_append] at hown2
           have HO2 := Lib.hid hown2
           have hs7 := X7.out.size
           have hs7' := hg2.size
           try simp at hs7'
           first | (have HZ7 := Lib.hid (show w7.heap[w5.heap.size]? = some (.cells #[.string ⟨#[]⟩, .int .i64 0, .int .i64 0, .int .i64 0, .slice none 0 0, .slice none 0 0] 25 (0, 0)) from blk_go hg2 (own_go HO1.out (show Below w6.heap.size w6 _ from (by (repeat (with_reducible first | exact Below.refl _ _ | refine Below.drew ?_ | refine Below.alloc ?_ (by first | exact Nat.le_refl _ | omega | (simp; done) | (simp; omega)) _)); first | done | fail))) (by (repeat (with_reducible first | exact nw (by first | rfl | (simp; done) | (simp; omega)) | exact HZ6.out | refine dr ?_ | refine od ?_)); first | done | fail))) | (have HZ7 := Lib.hid (show w7.heap[(w5.heap.size + 1)]? = some (.cells #[.string ⟨#[]⟩, .int .i64 0, .int .i64 0, .int .i64 0, .slice none 0 0, .slice none 0 0] 25 (0, 0)) from blk_go hg2 (own_go HO1.out (show Below w6.heap.size w6 _ from (by (repeat (with_reducible first | exact Below.refl _ _ | refine Below.drew ?_ | refine Below.alloc ?_ (by first | exact Nat.le_refl _ | omega | (simp; done) | (simp; omega)) _)); first | done | fail))) (by (repeat (with_reducible first | exact nw (by first | rfl | (simp; done) | (simp; omega)) | exact HZ6.out | refine dr ?_ | refine od ?_)); first | done | fail))) | (have HZ7 := Lib.hid (show w7.heap[(w5.heap.size + 2)]? = some (.cells #[.string ⟨#[]⟩, .int .i64 0, .int .i64 0, .int .i64 0, .slice none 0 0, .slice none 0 0] 25 (0, 0)) from blk_go hg2 (own_go HO1.out (show Below w6.heap.size w6 _ from (by (repeat (with_reducible first | exact Below.refl _ _ | refine Below.drew ?_ | refine Below.alloc ?_ (by first | exact Nat.le_refl _ | omega | (simp; done) | (simp; omega)) _)); first | done | fail))) (by (repeat (with_reducible first | exact nw (by first | rfl | (simp; done) | (simp; omega)) | exact HZ6.out | refine dr ?_ | refine od ?_)); first | done | fail))) | (have HZ7 := Lib.hid (show w7.heap[w6.heap.size]? = some (.cells #[.string ⟨#[]⟩, .int .i64 0, .int .i64 0, .int .i64 0, .slice none 0 0, .slice none 0 0] 25 (0, 0)) from blk_go hg2 (own_go HO1.out (show Below w6.heap.size w6 _ from (by (repeat (with_reducible first | exact Below.refl _ _ | refine Below.drew ?_ | refine Below.alloc ?_ (by first | exact Nat.le_refl _ | omega | (simp; done) | (simp; omega)) _)); first | done | fail))) (by (repeat (with_reducible first | exact nw (by first | rfl | (simp; done) | (simp; omega)) | exact HZ6.out | refine dr ?_ | refine od ?_)); first | done | fail))) | (have HZ7 := Lib.hid (show w7.heap[(w6.heap.size + 1)]? = some (.cells #[.string ⟨#[]⟩, .int .i64 0, .int .i64 0, .int .i64 0, .slice none 0 0, .slice none 0 0] 25 (0, 0)) from blk_go hg2 (own_go HO1.out (show Below w6.heap.size w6 _ from (by (repeat (with_reducible first | exact Below.refl _ _ | refine Below.drew ?_ | refine Below.alloc ?_ (by first | exact Nat.le_refl _ | omega | (simp; done) | (simp; omega)) _)); first | done | fail))) (by (repeat (with_reducible first | exact nw (by first | rfl | (simp; done) | (simp; omega)) | exact HZ6.out | refine dr ?_ | refine od ?_)); first | done | fail))) | skip
           clear hown2 hg2
           dsimp only)))
      all_goals
        go_step
        go_step
        go_meet
        exact ⟨rfl, by show Below _ _ _; with_reducible first | exact X8.out.alloc X8.out.size _ | exact six_below X8.out (by first | exact Nat.le_refl _ | omega | (simp; done) | (simp; omega)) _ _ _ _ _ _⟩
    case rest =>
      obtain ⟨rfl, X9⟩ := hcut
      have HW9 := Lib.hid (HB5.out.below.trans (X9.out.mono HB5.out.below.size))
      clear KP b0 b1 b2 b3 b4 b5
      obtain rfl | rfl := HCUT.out
      all_goals
        go_wp2_with (go_at_call 12; refine (HAW.out _).mono ?_; rintro e w7 ⟨rfl, hb7⟩)
        go_ret
        exact ⟨rfl, HW9.out.trans (hb7.mono HW9.out.size)⟩
end Go.Proofs.YtfhdoecackdflaaDoor.O1Cut
