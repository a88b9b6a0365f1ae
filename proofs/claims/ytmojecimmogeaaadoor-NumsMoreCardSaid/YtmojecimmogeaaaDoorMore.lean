/-
  NumsMore: the walk.
-/
import Derived.Test.YtmojecimmogeaaaDoorI
import Derived.Deep.RegionHeld3
import Derived.Deep.DeepCutAuto
import Derived.Deep.CutBlock
namespace Go.Proofs.YtmojecimmogeaaaDoor.numsMore
open Go.RowKit Go.Proofs.YtmojecimmogeaaaDoor.Kit Go.Proofs.YtmojecimmogeaaaDoor.A Go.Proofs.YtmojecimmogeaaaDoor.B Go.Proofs.YtmojecimmogeaaaDoor.F Go.Proofs.YtmojecimmogeaaaDoor.I

def Yes (w : World) (e : Ending) (w' : World) : Prop := e = .returned (.bool true) ∧ Below w.heap.size w w'
/-- The span that came in lies in its box. -/
def Bx (b : Nat) (x y : Int) (wx : World) : Prop := wx.cell? { block := b, off := 0 } = some (.int .i64 x) ∧ wx.cell? { block := b, off := 1 } = some (.int .i64 y)
theorem empty_at {W : World} {base b : Nat} (h : W.heap[b]? = some (.cells #[] 32 (0, 0))) (hb : base ≤ b) : W.ownsRow base 32 2 (.slice (some ⟨b, 0, none⟩) 0 0) 0 [] :=
  ⟨rfl, .inr ⟨b, 0, #[], rfl, hb, h, Nat.le_refl _, Nat.zero_le _, rfl, rfl⟩⟩
theorem spansAt_blk {W : World} {b : Nat} {x y : Int} (h : W.heap[b]? = some (.cells #[.int .i64 x, .int .i64 y] 32 (0, 0))) : SpansAt W (some ⟨b, 0, none⟩) 1 [(x, y)] := by
  refine ⟨rfl, fun _ => ⟨_, rfl, (Array.getElem?_eq_some_iff.1 h).1, fun j z hz => ?_⟩⟩
  match j, hz with
  | 0, hz =>
    obtain rfl : (x, y) = z := by simpa using hz
    simp [Addr.add, World.cell?, h]
  | j + 1, hz => simp at hz
theorem bx_blk {W : World} {b : Nat} {x y : Int} (h : W.heap[b]? = some (.cells #[.int .i64 x, .int .i64 y] 32 (0, 0))) : Bx b x y W := by
  constructor <;> simp [World.cell?, h]
theorem Bx.below {W W' : World} {b : Nat} {x y : Int} (h : Bx b x y W) (hb : Below W.heap.size W W') (hlt : b < W.heap.size) : Bx b x y W' :=
  ⟨(hb.cell (p := ⟨b, 0, none⟩) hlt).trans h.1, (hb.cell (p := ⟨b, 1, none⟩) hlt).trans h.2⟩
theorem below_two (w : World) (a b : Obj) : Below w.heap.size w ((w.alloc a).alloc b).drew := (((Below.refl _ _).alloc (Nat.le_refl _) a).alloc (by simp) b).drew
theorem below_three (w : World) (a b c : Obj) : Below w.heap.size w (((w.alloc a).alloc b).alloc c).drew := ((((Below.refl _ _).alloc (Nat.le_refl _) a).alloc (by simp) b).alloc (by simp; omega) c).drew
theorem at_one (w : World) (a b : Obj) : ((w.alloc a).alloc b).drew.heap[w.heap.size]? = some a ∧ ((w.alloc a).alloc b).drew.heap[w.heap.size + 1]? = some b ∧ ((w.alloc a).alloc b).drew.heap.size = w.heap.size + 2 := by
  refine ⟨?_, ?_, ?_⟩
  · show ((w.heap.push _).push _)[_]? = _
    rw [Array.getElem?_push, if_neg (by simp), Array.getElem?_push, if_pos rfl]
  · show ((w.heap.push _).push _)[_]? = _
    rw [Array.getElem?_push, if_pos (by simp)]
  · show ((w.heap.push _).push _).size = _
    simp
theorem at_two (w : World) (a b c : Obj) : (((w.alloc a).alloc b).alloc c).drew.heap[w.heap.size]? = some a ∧ (((w.alloc a).alloc b).alloc c).drew.heap[w.heap.size + 1]? = some b ∧ (((w.alloc a).alloc b).alloc c).drew.heap[w.heap.size + 2]? = some c ∧ (((w.alloc a).alloc b).alloc c).drew.heap.size = w.heap.size + 3 := by
  refine ⟨?_, ?_, ?_, ?_⟩
  · show (((w.heap.push _).push _).push _)[_]? = _
    rw [Array.getElem?_push, if_neg (by simp; omega), Array.getElem?_push, if_neg (by simp), Array.getElem?_push, if_pos rfl]
  · show (((w.heap.push _).push _).push _)[_]? = _
    rw [Array.getElem?_push, if_neg (by simp), Array.getElem?_push, if_pos (by simp)]
  · show (((w.heap.push _).push _).push _)[_]? = _
    rw [Array.getElem?_push, if_pos (by simp)]
  · show (((w.heap.push _).push _).push _).size = _
    simp

theorem has_more {ls : List Sp} {x y n most : Int} (h1 : mayB ls = true) (h2 : mayB (ls ++ [(x, y)]) = true) : hasB (ls ++ [(x, y)]) n most = (hasB ls n most || hasB [(x, y)] n most) := by
  have h3 : okS (x, y) = true := may_all h2 _ (by simp)
  have h4 : mayB [(x, y)] = true := by unfold mayB; simp [h3]
  unfold hasB
  rw [h1, h2, h4, List.any_append, Bool.and_true]
  cases decide (1 ≤ n) <;> rfl

set_option maxHeartbeats 4000000 in
set_option maxRecDepth 100000 in
theorem walk (A : Option Addr) (n cp : Nat) (ls : List Sp) (x y i most : Int) (w : World) (ht : Tab w) (hz : SpansAt w A n ls) (hn : n ≤ 8796093021952) :
    Calls Tryd.prog 7 #[.slice A n cp, .agg #[.int .i64 x, .int .i64 y], .int .i64 i, .int .i64 most] w (Yes w) := by
  have HT := Lib.hid ht
  have HZ := Lib.hid hz
  have HL := Lib.hid hz.1
  clear ht hz
  go_enter Tryd.func7, Tryd.ntmps7
  go_wp2_with fail
  go_cut [9] (fun s9 wx => ∃ (A9 : Option Addr) (c9 : Nat), s9 = .slice A9 (n + 1) c9 ∧ Hid (Below w.heap.size w wx) ∧ Hid (SpansAt wx A9 (n + 1) (ls ++ [(x, y)])) ∧ Hid (Bx w.heap.size x y wx) ∧ Hid (w.heap.size < wx.heap.size))
  case first =>
    have HA := Lib.hid (at_one w (.cells #[.int .i64 x, .int .i64 y] 32) (.cells #[] 32))
    have HBB := Lib.hid (at_two w (.cells #[.int .i64 x, .int .i64 y] 32) (.cells #[] 32) (.cells #[.int .i64 x, .int .i64 y] 32))
    have HC := Lib.hid (at_two w (.cells #[.int .i64 x, .int .i64 y] 32) (.cells #[.int .i64 x, .int .i64 y] 32) (.cells #[] 32))
    have LA := Lib.hid (below_two w (.cells #[.int .i64 x, .int .i64 y] 32) (.cells #[] 32))
    have LB := Lib.hid (below_three w (.cells #[.int .i64 x, .int .i64 y] 32) (.cells #[] 32) (.cells #[.int .i64 x, .int .i64 y] 32))
    have LC := Lib.hid (below_three w (.cells #[.int .i64 x, .int .i64 y] 32) (.cells #[.int .i64 x, .int .i64 y] 32) (.cells #[] 32))
    go_region_held3 (fun w' => w'.cell? { block := w.heap.size, off := 0 } = some (.int .i64 x) ∧ w'.cell? { block := w.heap.size, off := 1 } = some (.int .i64 y)) (first | exact hS3 | exact hS2 | go_keep) (first
      | (refine step_sp rfl (.tmp 10) (.tmp 11) rfl (c := cp) (by simp [Act.eval]) (by simp [Act.eval]) (empty_at (base := w.heap.size + 1) (b := w.heap.size + 1) HA.out.2.1 (by omega)) (HZ.out.below LA.out) (by omega) (by show w.heap.size + 1 ≤ _; rw [HA.out.2.2]; omega) ?_
         intro v1 w2 hown1 hg1 hat1
         have HL1 := Lib.hid (LA.out.grown hg1 LA.out.size (fun g e => by cases e; show w.heap.size ≤ w.heap.size + 1; omega))
         have hz2 : w2.heap[w.heap.size]? = _ := (hg1.block w.heap.size (by rw [HA.out.2.2]; omega) (by simp [Value.ownBlock])).trans HA.out.1
         have hS2 := bx_blk hz2
         have HO1 := Lib.hid hown1
         have H2 := Lib.hid hz2
         clear hz2 hown1 hg1 hat1
         unfold Bx at hS2)
      | (refine step_sp rfl (.tmp 10) (.tmp 11) rfl (c := cp) (by simp [Act.eval]) (by simp [Act.eval]) (empty_at (base := w.heap.size + 1) (b := w.heap.size + 1) HBB.out.2.1 (by omega)) (HZ.out.below LB.out) (by omega) (by show w.heap.size + 1 ≤ _; rw [HBB.out.2.2.2]; omega) ?_
         intro v1 w2 hown1 hg1 hat1
         have HL1 := Lib.hid (LB.out.grown hg1 LB.out.size (fun g e => by cases e; show w.heap.size ≤ w.heap.size + 1; omega))
         have hz2 : w2.heap[w.heap.size]? = _ := (hg1.block w.heap.size (by rw [HBB.out.2.2.2]; omega) (by simp [Value.ownBlock])).trans HBB.out.1
         have HX := Lib.hid ((hg1.block (w.heap.size + 2) (by rw [HBB.out.2.2.2]; omega) (by simp [Value.ownBlock])).trans HBB.out.2.2.1)
         have hS2 := bx_blk hz2
         have HO1 := Lib.hid hown1
         have H2 := Lib.hid hz2
         clear hz2 hown1 hg1 hat1
         unfold Bx at hS2)
      | (refine step_sp rfl (.tmp 10) (.tmp 11) rfl (c := cp) (by simp [Act.eval]) (by simp [Act.eval]) (empty_at (base := w.heap.size + 1) (b := w.heap.size + 2) HC.out.2.2.1 (by omega)) (HZ.out.below LC.out) (by omega) (by show w.heap.size + 1 ≤ _; rw [HC.out.2.2.2]; omega) ?_
         intro v1 w2 hown1 hg1 hat1
         have HL1 := Lib.hid (LC.out.grown hg1 LC.out.size (fun g e => by cases e; show w.heap.size ≤ w.heap.size + 2; omega))
         have hz2 : w2.heap[w.heap.size]? = _ := (hg1.block w.heap.size (by rw [HC.out.2.2.2]; omega) (by simp [Value.ownBlock])).trans HC.out.1
         have HX := Lib.hid ((hg1.block (w.heap.size + 1) (by rw [HC.out.2.2.2]; omega) (by simp [Value.ownBlock])).trans HC.out.2.1)
         have hS2 := bx_blk hz2
         have HO1 := Lib.hid hown1
         have H2 := Lib.hid hz2
         clear hz2 hown1 hg1 hat1
         unfold Bx at hS2)
      | (refine step_sp rfl (.tmp 12) (.tmp 14) rfl (c := 1) (by simp [Act.eval]) (by simp [Act.eval]) (HO1.out.alloc _) (spansAt_new w2 x y rfl) (by omega) (by simp; have := (Array.getElem?_eq_some_iff.1 H2.out).1; omega) ?_
         intro v2 w3 hown2 hg2 hat2
         have HL3 := Lib.hid ((HL1.out.alloc HL1.out.size _).grown hg2 (HL1.out.alloc HL1.out.size _).size (fun g e => Nat.le_of_succ_le (HO1.out.lt g e).1))
         have hz3 : w3.heap[w.heap.size]? = _ := (hg2.block w.heap.size (by simp; have := (Array.getElem?_eq_some_iff.1 H2.out).1; omega) (fun e => by have := (HO1.out.lt _ e.symm).1; omega)).trans ((Below.heap_alloc _ _ _ (Array.getElem?_eq_some_iff.1 H2.out).1).trans H2.out)
         have hS3 := bx_blk hz3
         have HLT := Lib.hid (Array.getElem?_eq_some_iff.1 hz3).1
         rw [show 0 + n + 1 = n + 1 by omega, List.nil_append, ← cells_append] at hown2
         obtain ⟨A9, c9, hv9, hc9⟩ := own_slice hown2
         subst hv9
         have HS9 := Lib.hid (spansAt_own hown2)
         clear hz3 hown2 hg2 hat2
         unfold Bx at hS3)
      | (refine step_sp rfl (.tmp 12) (.tmp 14) rfl (c := 1) (by simp [Act.eval]) (by simp [Act.eval]) HO1.out (spansAt_blk HX.out) (by omega) (Nat.succ_le_of_lt (Array.getElem?_eq_some_iff.1 H2.out).1) ?_
         intro v2 w3 hown2 hg2 hat2
         have HL3 := Lib.hid (HL1.out.grown hg2 HL1.out.size (fun g e => Nat.le_of_succ_le (HO1.out.lt g e).1))
         have hz3 : w3.heap[w.heap.size]? = _ := (hg2.block w.heap.size (Array.getElem?_eq_some_iff.1 H2.out).1 (fun e => by have := (HO1.out.lt _ e.symm).1; omega)).trans H2.out
         have hS3 := bx_blk hz3
         have HLT := Lib.hid (Array.getElem?_eq_some_iff.1 hz3).1
         rw [show 0 + n + 1 = n + 1 by omega, List.nil_append, ← cells_append] at hown2
         obtain ⟨A9, c9, hv9, hc9⟩ := own_slice hown2
         subst hv9
         have HS9 := Lib.hid (spansAt_own hown2)
         clear hz3 hown2 hg2 hat2
         unfold Bx at hS3))
    all_goals
      go_step
      go_step
      go_meet
      exact ⟨A9, c9, rfl, HL3, HS9, hS3, HLT⟩
  case rest =>
    obtain ⟨A9, c9, rfl, HB9, HS9, HX9, HLT⟩ := hcut
    have HZ9 := Lib.hid (HZ.out.below HB9.out)
    have HAW := Lib.hid (awake (HT.out.below HB9.out (Nat.le_refl _)))
    have hni : (n : Int) ≤ 8796093021952 := by omega
    by_cases hbig : 60 < n
    · have hb : 60 < (n : Int) := by omega
      clear hbig
      go_wp2_with (go_at_call 10; refine HAW.out.mono ?_; rintro e w' ⟨rfl, hb9⟩)
      go_ret
      exact ⟨rfl, HB9.out.trans (hb9.mono HB9.out.size)⟩
    have hb : (n : Int) ≤ 60 := by omega
    clear hbig
    have C := maysp_any (cp := cp) HZ9.out (by omega)
    cases hm : mayB ls with
    | false =>
      rw [hm] at C
      have HC := Lib.hid C
      clear C hm
      go_wp2_with fail
      refine HC.out.mono ?_
      rintro e w2 ⟨rfl, hb2⟩
      have HB2 := Lib.hid (HB9.out.trans (hb2.mono HB9.out.size))
      have HAW := Lib.hid (awake (HT.out.below HB2.out (Nat.le_refl _)))
      clear hb2
      go_wp2_with (go_at_call 10; refine HAW.out.mono ?_; rintro e w' ⟨rfl, hb9⟩)
      go_ret
      exact ⟨rfl, HB2.out.trans (hb9.mono HB2.out.size)⟩
    | true =>
      rw [hm] at C
      have HC := Lib.hid C
      have HM := Lib.hid hm
      clear C hm
      go_wp2_with fail
      refine HC.out.mono ?_
      rintro e w2 ⟨rfl, hb2⟩
      have HB2 := Lib.hid (HB9.out.trans (hb2.mono HB9.out.size))
      have HS2 := Lib.hid (HS9.out.below hb2)
      have HX2 := Lib.hid (HX9.out.below hb2 HLT.out)
      have HL2 := Lib.hid (Nat.lt_of_lt_of_le HLT.out hb2.size)
      have C := maysp_any (cp := c9) HS2.out (by omega)
      clear hb2 HB9 HS9 HX9 HLT HAW HZ9
      cases hm2 : mayB (ls ++ [(x, y)]) with
      | false =>
        rw [hm2] at C
        have HC := Lib.hid C
        clear C hm2
        go_wp2_with fail
        refine HC.out.mono ?_
        rintro e w3 ⟨rfl, hb3⟩
        have HB3 := Lib.hid (HB2.out.trans (hb3.mono HB2.out.size))
        have HAW := Lib.hid (awake (HT.out.below HB3.out (Nat.le_refl _)))
        clear hb3
        go_wp2_with (go_at_call 10; refine HAW.out.mono ?_; rintro e w' ⟨rfl, hb9⟩)
        go_ret
        exact ⟨rfl, HB3.out.trans (hb9.mono HB3.out.size)⟩
      | true =>
        rw [hm2] at C
        have HC := Lib.hid C
        have HM2 := Lib.hid hm2
        clear C hm2
        go_wp2_with fail
        refine HC.out.mono ?_
        rintro e w3 ⟨rfl, hb3⟩
        have HB3 := Lib.hid (HB2.out.trans (hb3.mono HB2.out.size))
        have HS3 := Lib.hid (HS2.out.below hb3)
        have HX3 := Lib.hid (HX2.out.below hb3 HL2.out)
        have HL3 := Lib.hid (Nat.lt_of_lt_of_le HL2.out hb3.size)
        have HEQ := Lib.hid (has_more (n := i) (most := most) HM.out HM2.out)
        have C := has_any (cp := c9) (n := i) (most := most) HS3.out
        obtain ⟨q, hq⟩ : ∃ q, q = hasB (ls ++ [(x, y)]) i most := ⟨_, rfl⟩
        rw [← hq] at C
        have HC := Lib.hid C
        have HQ := Lib.hid hq
        clear hb3 C HB2 HS2 HX2 HL2 hq
        go_wp2_with fail
        refine HC.out.mono ?_
        rintro e w4 ⟨rfl, hb4⟩
        have HB4 := Lib.hid (HB3.out.trans (hb4.mono HB3.out.size))
        have HX4 := Lib.hid (HX3.out.below hb4 HL3.out)
        have HL4 := Lib.hid (Nat.lt_of_lt_of_le HL3.out hb4.size)
        have C := has_any (cp := cp) (n := i) (most := most) (HZ.out.below HB4.out)
        clear hb4 HB3 HS3 HX3 HL3
        cases h1 : hasB ls i most with
        | true =>
          rw [h1] at C
          obtain rfl : q = true := by rw [HQ.out, HEQ.out, h1]; rfl
          have HC := Lib.hid C
          clear C h1
          go_wp2_with fail
          refine HC.out.mono ?_
          rintro e w5 ⟨rfl, hb5⟩
          have HB5 := Lib.hid (HB4.out.trans (hb5.mono HB4.out.size))
          have HAW := Lib.hid (awake (HT.out.below HB5.out (Nat.le_refl _)))
          clear hb5
          go_wp2_with (go_at_call 10; refine HAW.out.mono ?_; rintro e w' ⟨rfl, hb9⟩)
          go_ret
          exact ⟨rfl, HB5.out.trans (hb9.mono HB5.out.size)⟩
        | false =>
          rw [h1] at C
          have HC := Lib.hid C
          have HQ2 := Lib.hid (show q = hasB [(x, y)] i most by rw [HQ.out, HEQ.out, h1]; rfl)
          clear C h1
          go_wp2_with fail
          refine HC.out.mono ?_
          rintro e w5 ⟨rfl, hb5⟩
          have HB5 := Lib.hid (HB4.out.trans (hb5.mono HB4.out.size))
          obtain ⟨hc1, hc2⟩ := HX4.out.below hb5 HL4.out
          have C := has_any (cp := 1) (n := i) (most := most) (spansAt_new w5 x y rfl)
          rw [← HQ2.out] at C
          have HC := Lib.hid C
          have hqq : (q == q) = true := by simp
          clear hb5 C
          go_wp2_with fail
          refine HC.out.mono ?_
          rintro e w6 ⟨rfl, hb6⟩
          have HB6 := Lib.hid ((HB5.out.alloc HB5.out.size _).trans (hb6.mono (by have := HB5.out.size; simp; omega)))
          have HAW := Lib.hid (awake (HT.out.below HB6.out (Nat.le_refl _)))
          clear hb6 hc1 hc2
          go_wp2_with (go_at_call 10; refine HAW.out.mono ?_; rintro e w' ⟨rfl, hb9⟩)
          go_ret
          exact ⟨rfl, HB6.out.trans (hb9.mono HB6.out.size)⟩
end Go.Proofs.YtmojecimmogeaaaDoor.numsMore
