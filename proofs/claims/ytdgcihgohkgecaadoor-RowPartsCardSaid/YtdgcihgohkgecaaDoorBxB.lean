/-
  May, of the program and of the document.
-/
import Derived.Test.YtdgcihgohkgecaaDoorBxW
namespace Go.Proofs.YtdgcihgohkgecaaDoor.BxB
open Go.RowKit Go.Proofs.YtdgcihgohkgecaaDoor.BxD Go.Proofs.YtdgcihgohkgecaaDoor.BxKit Go.Proofs.YtdgcihgohkgecaaDoor.BxA Go.Proofs.YtdgcihgohkgecaaDoor.BxAtom Go.Proofs.YtdgcihgohkgecaaDoor.BxM Go.Proofs.YtdgcihgohkgecaaDoor.BxW

theorem head_bad {b : Box} (h : atB b.id = false ∨ 12 < b.id.size ∨ inB 1 b.valid 1000000 = false ∨ inB 1 b.high 1000000 = false ∨ inB 1 b.next 1000000 = false) : mbE b = 1 := by
  have : headB b = false := by
    unfold headB
    rcases h with h | h | h | h | h
    · rw [h]; rfl
    · rw [decide_eq_false (show ¬ b.id.size ≤ 12 by omega)]; simp
    all_goals (rw [h]; simp)
  unfold mbE
  rw [this]; rfl
theorem head_good {b : Box} (h1 : atB b.id = true) (h2 : b.id.size ≤ 12) (h3 : inB 1 b.valid 1000000 = true) (h4 : inB 1 b.high 1000000 = true) (h5 : inB 1 b.next 1000000 = true) : headB b = true := by
  unfold headB
  rw [h1, decide_eq_true h2, h3, h4, h5]; rfl
theorem mb_full {b : Box} (h : headB b = true) (h2 : 64 < b.words.length ∨ 60 < b.msgs.length) : mbE b = 4 := by unfold mbE; rw [if_pos h, if_pos h2]
theorem mb_words {b : Box} (h : headB b = true) (h2 : ¬ (64 < b.words.length ∨ 60 < b.msgs.length)) (h3 : wordsB b.words = false) : mbE b = 1 := by unfold mbE; rw [if_pos h, if_neg h2, h3]; rfl
theorem mb_msgs {b : Box} (h : headB b = true) (h2 : ¬ (64 < b.words.length ∨ 60 < b.msgs.length)) (h3 : wordsB b.words = true) : mbE b = msE b := by unfold mbE msE; rw [if_pos h, if_neg h2, if_pos h3]
theorem one_below (w : World) (o1 : Obj) : Below w.heap.size w (w.alloc o1) := (Below.refl _ _).alloc (Nat.le_refl _) _

set_option maxHeartbeats 2000000 in
set_option maxRecDepth 100000 in
theorem may_box {bid : ByteArray} {bv bn bh : Int} {WA MA : Option Addr} {wn wc mn mc B0 : Nat} {ws : List ByteArray} {ms : List Msg} {w : World} (hx : StrsAt w B0 WA wn ws) (hm : MsgsAt w B0 MA mn ms) (hB : B0 ≤ w.heap.size) (hwc : wn ≤ wc) :
    Calls Tryd.prog 24 #[.agg #[.string bid, .int .i64 bv, .int .i64 bn, .int .i64 bh, .slice WA wn wc, .slice MA mn mc]] w fun e w' => e = .returned (.int .i64 (mbE ⟨bid, bv, bn, bh, ws, ms⟩)) ∧ Below w.heap.size w w' := by
  have hwn := hx.max
  have HWL := Lib.hid hx.len
  have HML := Lib.hid hm.len
  have KW := Lib.hid (fun o => mayWords_any (cp := wc) (StrsAt.below hx (one_below w o) hB) hwc)
  have KM := Lib.hid (fun o => mayMsgs_any (bid := bid) (bv := bv) (bn := bn) (bh := bh) (WA := WA) (wc := wc) (mc := mc) (MsgsAt.below hm (one_below w o) hB) (by simp; omega) hx.len hwn)
  clear hx hm
  by_cases t0 : atB bid = false
  · have HF := Lib.hid (head_bad (b := ⟨bid, bv, bn, bh, ws, ms⟩) (.inl t0))
    go_enter Tryd.func24, Tryd.ntmps24
    go_wp2_with (first | (go_at_call 61; refine (within_any _ _ _ _).mono ?_; rintro e w' ⟨rfl, rfl⟩) | (go_at_call 60; refine (atom_any _ _).mono ?_; rintro e w' ⟨rfl, rfl⟩))
    go_ret
    exact ⟨ret_int HF.out.symm, one_below _ _⟩
  have h0 : atB bid = true := by simpa using t0
  clear t0
  by_cases t1 : 12 < bid.size
  · have HF := Lib.hid (head_bad (b := ⟨bid, bv, bn, bh, ws, ms⟩) (.inr (.inl t1)))
    have t1a : 12 < (bid.size : Int) := by omega
    clear t1
    go_enter Tryd.func24, Tryd.ntmps24
    go_wp2_with (first | (go_at_call 61; refine (within_any _ _ _ _).mono ?_; rintro e w' ⟨rfl, rfl⟩) | (go_at_call 60; refine (atom_any _ _).mono ?_; rintro e w' ⟨rfl, rfl⟩))
    go_ret
    exact ⟨ret_int HF.out.symm, one_below _ _⟩
  have t1a : (bid.size : Int) ≤ 12 := by omega
  have H1 := Lib.hid (show bid.size ≤ 12 by omega)
  clear t1
  by_cases t2 : inB 1 bv 1000000 = false
  · have HF := Lib.hid (head_bad (b := ⟨bid, bv, bn, bh, ws, ms⟩) (.inr (.inr (.inl t2))))
    go_enter Tryd.func24, Tryd.ntmps24
    go_wp2_with (first | (go_at_call 61; refine (within_any _ _ _ _).mono ?_; rintro e w' ⟨rfl, rfl⟩) | (go_at_call 60; refine (atom_any _ _).mono ?_; rintro e w' ⟨rfl, rfl⟩))
    go_ret
    exact ⟨ret_int HF.out.symm, one_below _ _⟩
  have h2 : inB 1 bv 1000000 = true := by simpa using t2
  clear t2
  by_cases t3 : inB 1 bh 1000000 = false
  · have HF := Lib.hid (head_bad (b := ⟨bid, bv, bn, bh, ws, ms⟩) (.inr (.inr (.inr (.inl t3)))))
    go_enter Tryd.func24, Tryd.ntmps24
    go_wp2_with (first | (go_at_call 61; refine (within_any _ _ _ _).mono ?_; rintro e w' ⟨rfl, rfl⟩) | (go_at_call 60; refine (atom_any _ _).mono ?_; rintro e w' ⟨rfl, rfl⟩))
    go_ret
    exact ⟨ret_int HF.out.symm, one_below _ _⟩
  have h3 : inB 1 bh 1000000 = true := by simpa using t3
  clear t3
  by_cases t4 : inB 1 bn 1000000 = false
  · have HF := Lib.hid (head_bad (b := ⟨bid, bv, bn, bh, ws, ms⟩) (.inr (.inr (.inr (.inr (t4))))))
    go_enter Tryd.func24, Tryd.ntmps24
    go_wp2_with (first | (go_at_call 61; refine (within_any _ _ _ _).mono ?_; rintro e w' ⟨rfl, rfl⟩) | (go_at_call 60; refine (atom_any _ _).mono ?_; rintro e w' ⟨rfl, rfl⟩))
    go_ret
    exact ⟨ret_int HF.out.symm, one_below _ _⟩
  have h4 : inB 1 bn 1000000 = true := by simpa using t4
  clear t4
  have HH := Lib.hid (head_good (b := ⟨bid, bv, bn, bh, ws, ms⟩) h0 H1.out h2 h3 h4)
  by_cases f1 : 64 < wn
  · have HF := Lib.hid (mb_full HH.out (.inl (show 64 < ws.length by have := HWL.out; omega)))
    have f1a : 64 < (wn : Int) := by omega
    go_enter Tryd.func24, Tryd.ntmps24
    go_wp2_with (first | (go_at_call 61; refine (within_any _ _ _ _).mono ?_; rintro e w' ⟨rfl, rfl⟩) | (go_at_call 60; refine (atom_any _ _).mono ?_; rintro e w' ⟨rfl, rfl⟩))
    go_ret
    exact ⟨ret_int HF.out.symm, one_below _ _⟩
  by_cases f2 : 60 < mn
  · have HF := Lib.hid (mb_full HH.out (.inr (show 60 < ms.length by have := HML.out; omega)))
    have f1a : (wn : Int) ≤ 64 := by omega
    have f2a : 60 < (mn : Int) := by omega
    go_enter Tryd.func24, Tryd.ntmps24
    go_wp2_with (first | (go_at_call 61; refine (within_any _ _ _ _).mono ?_; rintro e w' ⟨rfl, rfl⟩) | (go_at_call 60; refine (atom_any _ _).mono ?_; rintro e w' ⟨rfl, rfl⟩))
    go_ret
    exact ⟨ret_int HF.out.symm, one_below _ _⟩
  have f1a : (wn : Int) ≤ 64 := by omega
  have f2a : (mn : Int) ≤ 60 := by omega
  have HN := Lib.hid (show ¬ (64 < ws.length ∨ 60 < ms.length) by have := HWL.out; have := HML.out; omega)
  clear f1 f2
  by_cases t5 : wordsB ws = false
  · have HF := Lib.hid (mb_words HH.out HN.out t5)
    go_enter Tryd.func24, Tryd.ntmps24
    go_wp2_with (first | (go_at_call 61; refine (within_any _ _ _ _).mono ?_; rintro e w' ⟨rfl, rfl⟩) | (go_at_call 60; refine (atom_any _ _).mono ?_; rintro e w' ⟨rfl, rfl⟩) | (go_at_call 62; refine (KW.out _).mono ?_; rintro e w' ⟨rfl, rfl⟩))
    go_ret
    exact ⟨ret_int HF.out.symm, one_below _ _⟩
  have h5 : wordsB ws = true := by simpa using t5
  have HF := Lib.hid (mb_msgs HH.out HN.out h5)
  clear t5
  go_enter Tryd.func24, Tryd.ntmps24
  go_wp2_with (first | (go_at_call 61; refine (within_any _ _ _ _).mono ?_; rintro e w' ⟨rfl, rfl⟩) | (go_at_call 60; refine (atom_any _ _).mono ?_; rintro e w' ⟨rfl, rfl⟩) | (go_at_call 62; refine (KW.out _).mono ?_; rintro e w' ⟨rfl, rfl⟩) | (go_at_call 63; refine (KM.out _).mono ?_; rintro e w1 ⟨rfl, hb1⟩))
  go_ret
  exact ⟨ret_int HF.out.symm, (one_below _ _).trans (hb1.mono (by simp))⟩

set_option maxHeartbeats 4000000 in
set_option maxRecDepth 100000 in
theorem ref_may {bid : ByteArray} {bv bn bh : Int} {WA MA : Option Addr} {wn wc mn mc B0 : Nat} {ws : List ByteArray} {ms : List Msg} {w : World} (hx : StrsAt w B0 WA wn ws) (hm : MsgsAt w B0 MA mn ms) (hB : B0 ≤ w.heap.size) (hwc : wn ≤ wc) :
    Calls Tryd.prog 20 #[.agg #[.string bid, .int .i64 bv, .int .i64 bn, .int .i64 bh, .slice WA wn wc, .slice MA mn mc]] w fun e w' => e = .returned (.int .i64 (mbE ⟨bid, bv, bn, bh, ws, ms⟩)) ∧ Below w.heap.size w w' := by
  have hwn := hx.max
  have hmn := hm.max
  have HWL := Lib.hid hx.len
  have HML := Lib.hid hm.len
  have HX := Lib.hid hx
  have HM := Lib.hid hm
  clear hx hm
  by_cases t0 : atB bid = false
  · have HF := Lib.hid (head_bad (b := ⟨bid, bv, bn, bh, ws, ms⟩) (.inl (t0)))
    go_enter Tryd.func20, Tryd.ntmps20
    go_wp2_with ((go_at_call 53; refine (refAtom_any _ _).mono ?_; rintro e w' ⟨rfl, rfl⟩))
    go_ret
    exact ⟨ret_int HF.out.symm, one_below _ _⟩
  have h0 : atB bid = true := by simpa using t0
  clear t0
  by_cases t1 : 12 < bid.size
  · have HF := Lib.hid (head_bad (b := ⟨bid, bv, bn, bh, ws, ms⟩) (.inr (.inl (t1))))
    have t1a : 12 < (bid.size : Int) := by omega
    clear t1
    go_enter Tryd.func20, Tryd.ntmps20
    go_wp2_with ((go_at_call 53; refine (refAtom_any _ _).mono ?_; rintro e w' ⟨rfl, rfl⟩))
    go_ret
    exact ⟨ret_int HF.out.symm, one_below _ _⟩
  have t1a : (bid.size : Int) ≤ 12 := by omega
  have H1 := Lib.hid (show bid.size ≤ 12 by omega)
  clear t1
  by_cases t2 : bv < 1
  · have HF := Lib.hid (head_bad (b := ⟨bid, bv, bn, bh, ws, ms⟩) (.inr (.inr (.inl (inB_false (.inl t2))))))
    go_enter Tryd.func20, Tryd.ntmps20
    go_wp2_with ((go_at_call 53; refine (refAtom_any _ _).mono ?_; rintro e w' ⟨rfl, rfl⟩))
    go_ret
    exact ⟨ret_int HF.out.symm, one_below _ _⟩
  have t2a : 1 ≤ bv := by omega
  clear t2
  by_cases r2 : 1000000 < bv
  · have HF := Lib.hid (head_bad (b := ⟨bid, bv, bn, bh, ws, ms⟩) (.inr (.inr (.inl (inB_false (.inr r2))))))
    go_enter Tryd.func20, Tryd.ntmps20
    go_wp2_with ((go_at_call 53; refine (refAtom_any _ _).mono ?_; rintro e w' ⟨rfl, rfl⟩))
    go_ret
    exact ⟨ret_int HF.out.symm, one_below _ _⟩
  have r2a : bv ≤ 1000000 := by omega
  clear r2
  have H2 := Lib.hid (show inB 1 bv 1000000 = true from inB_true (by omega) (by omega))
  by_cases t3 : bh < 1
  · have HF := Lib.hid (head_bad (b := ⟨bid, bv, bn, bh, ws, ms⟩) (.inr (.inr (.inr (.inl (inB_false (.inl t3)))))))
    go_enter Tryd.func20, Tryd.ntmps20
    go_wp2_with ((go_at_call 53; refine (refAtom_any _ _).mono ?_; rintro e w' ⟨rfl, rfl⟩))
    go_ret
    exact ⟨ret_int HF.out.symm, one_below _ _⟩
  have t3a : 1 ≤ bh := by omega
  clear t3
  by_cases r3 : 1000000 < bh
  · have HF := Lib.hid (head_bad (b := ⟨bid, bv, bn, bh, ws, ms⟩) (.inr (.inr (.inr (.inl (inB_false (.inr r3)))))))
    go_enter Tryd.func20, Tryd.ntmps20
    go_wp2_with ((go_at_call 53; refine (refAtom_any _ _).mono ?_; rintro e w' ⟨rfl, rfl⟩))
    go_ret
    exact ⟨ret_int HF.out.symm, one_below _ _⟩
  have r3a : bh ≤ 1000000 := by omega
  clear r3
  have H3 := Lib.hid (show inB 1 bh 1000000 = true from inB_true (by omega) (by omega))
  by_cases t4 : bn < 1
  · have HF := Lib.hid (head_bad (b := ⟨bid, bv, bn, bh, ws, ms⟩) (.inr (.inr (.inr (.inr (inB_false (.inl t4)))))))
    go_enter Tryd.func20, Tryd.ntmps20
    go_wp2_with ((go_at_call 53; refine (refAtom_any _ _).mono ?_; rintro e w' ⟨rfl, rfl⟩))
    go_ret
    exact ⟨ret_int HF.out.symm, one_below _ _⟩
  have t4a : 1 ≤ bn := by omega
  clear t4
  by_cases r4 : 1000000 < bn
  · have HF := Lib.hid (head_bad (b := ⟨bid, bv, bn, bh, ws, ms⟩) (.inr (.inr (.inr (.inr (inB_false (.inr r4)))))))
    go_enter Tryd.func20, Tryd.ntmps20
    go_wp2_with ((go_at_call 53; refine (refAtom_any _ _).mono ?_; rintro e w' ⟨rfl, rfl⟩))
    go_ret
    exact ⟨ret_int HF.out.symm, one_below _ _⟩
  have r4a : bn ≤ 1000000 := by omega
  clear r4
  have H4 := Lib.hid (show inB 1 bn 1000000 = true from inB_true (by omega) (by omega))
  have HH := Lib.hid (head_good (b := ⟨bid, bv, bn, bh, ws, ms⟩) h0 H1.out H2.out H3.out H4.out)
  by_cases f1 : 64 < wn
  · have HF := Lib.hid (mb_full HH.out (.inl (show 64 < ws.length by have := HWL.out; omega)))
    have f1a : 64 < (wn : Int) := by omega
    go_enter Tryd.func20, Tryd.ntmps20
    go_wp2_with ((go_at_call 53; refine (refAtom_any _ _).mono ?_; rintro e w' ⟨rfl, rfl⟩))
    go_ret
    exact ⟨ret_int HF.out.symm, one_below _ _⟩
  have f1a : (wn : Int) ≤ 64 := by omega
  by_cases f2 : 60 < mn
  · have HF := Lib.hid (mb_full HH.out (.inr (show 60 < ms.length by have := HML.out; omega)))
    have f2a : 60 < (mn : Int) := by omega
    go_enter Tryd.func20, Tryd.ntmps20
    go_wp2_with ((go_at_call 53; refine (refAtom_any _ _).mono ?_; rintro e w' ⟨rfl, rfl⟩))
    go_ret
    exact ⟨ret_int HF.out.symm, one_below _ _⟩
  have f2a : (mn : Int) ≤ 60 := by omega
  have HN := Lib.hid (show ¬ (64 < ws.length ∨ 60 < ms.length) by have := HWL.out; have := HML.out; omega)
  clear f1 f2
  go_enter Tryd.func20, Tryd.ntmps20
  go_wp2_with ((go_at_call 53; refine (refAtom_any _ _).mono ?_; rintro e w' ⟨rfl, rfl⟩))
  have HB1 := Lib.hid (After.start w (.cells #[.string bid, .int .i64 bv, .int .i64 bn, .int .i64 bh, .slice WA wn wc, .slice MA mn mc] 25))
  go_loopw [62] (fun s62 wr => ∃ k : Nat, k ≤ wn ∧ s62 = .int .i64 k ∧ Hid (∀ i, i < k → okW ws i) ∧ Hid (After w (.cells #[.string bid, .int .i64 bv, .int .i64 bn, .int .i64 bh, .slice WA wn wc, .slice MA mn mc] 25) wr)) (fun s62 _ => wn - (intOf s62).toNat)
  case atStart => exact ⟨0, Nat.zero_le _, rfl, fun i hi => absurd hi (Nat.not_lt_zero _), HB1⟩
  case round =>
    obtain ⟨k, hk, rfl, HT, HA⟩ := hrel
    by_cases hlt : k < wn
    · obtain ⟨ad1, x1, rfl, e1, hc1⟩ := StrsAt.at_ HX.out HA.out.below hB hlt
      obtain ⟨b0, b1, b2, b3, b4, b5⟩ := HA.out.box
      have g1 : (0 : Int) ≤ (k : Int) := by omega
      have g2 : (k : Int) ≤ (wc : Int) := by omega
      cases ha : atB x1 with
      | false =>
        have HF := Lib.hid (mb_words HH.out HN.out (wordsB_bad e1 (.inl ha)))
        clear e1
        go_wp2_with ((go_at_call 53; refine (refAtom_any _ _).mono ?_; rintro e w' ⟨rfl, rfl⟩))
        go_ret
        exact ⟨ret_int HF.out.symm, HA.out.below⟩
      | true =>
        have HQ := Lib.hid ha
        have D := has_any (cp := wc) x1 (RowAt.take (StrsAt.below HX.out HA.out.below hB) hk)
        by_cases hm : x1 ∈ ws.take k
        · have HF := Lib.hid (mb_words HH.out HN.out (wordsB_bad e1 (.inr hm)))
          rw [decide_eq_true hm] at D
          have L := Lib.hid D
          clear D hm e1
          go_wp2_with (first | (go_at_call 53; refine (refAtom_any _ _).mono ?_; rintro e w' ⟨rfl, rfl⟩) | (go_at_call 54; refine L.out.mono ?_; rintro e w' ⟨rfl, rfl⟩))
          go_ret
          exact ⟨ret_int HF.out.symm, HA.out.below⟩
        · have HT2 := Lib.hid (okW_next HT.out e1 HQ.out hm)
          rw [decide_eq_false hm] at D
          have L := Lib.hid D
          clear D hm e1
          go_wp2_with (first | (go_at_call 53; refine (refAtom_any _ _).mono ?_; rintro e w' ⟨rfl, rfl⟩) | (go_at_call 54; refine L.out.mono ?_; rintro e w' ⟨rfl, rfl⟩))
          go_roundw
          case rel => exact ⟨k + 1, by omega, by go_num, HT2, HA⟩
          case measure => simp [intOf]; omega
    · obtain rfl : wn = k := by omega
      have HWB := Lib.hid (show wordsB ws = true from wordsB_good (by have := HWL.out; omega) HT.out)
      have HMS := Lib.hid (mb_msgs (b := ⟨bid, bv, bn, bh, ws, ms⟩) HH.out HN.out HWB.out)
      obtain ⟨b0, b1, b2, b3, b4, b5⟩ := HA.out.box
      go_wp2_with fail
      clear b0 b1 b2 b3 b4 b5
      go_loopw [5, 82] (fun s5 s82 wr => ∃ k : Nat, k ≤ mn ∧ s82 = .int .i64 k ∧ (∃ lo : Int, s5 = .int .i64 lo ∧ Hid (lo = pu ms k)) ∧ Hid (∀ i, i < k → okM ⟨bid, bv, bn, bh, ws, ms⟩ i) ∧ Hid (After w (.cells #[.string bid, .int .i64 bv, .int .i64 bn, .int .i64 bh, .slice WA wn wc, .slice MA mn mc] 25) wr)) (fun _ s82 _ => mn - (intOf s82).toNat)
      case atStart => exact ⟨0, Nat.zero_le _, rfl, ⟨0, rfl, rfl⟩, fun i hi => absurd hi (Nat.not_lt_zero _), HA⟩
      case round =>
        obtain ⟨k2, hk2, rfl, ⟨lo, rfl, HL⟩, HT, HA⟩ := hrel
        rename_i wr
        by_cases hlt : k2 < mn
        · obtain ⟨ad, u, md, d, id, fl, ks, tx, K, kn, kc, rfl, _, e1, c0, c1, c2, c3, c4, c5, c6, hkc, hks, _, _⟩ := MsgsAt.sp HM.out HA.out.below hB hlt
          obtain ⟨b0, b1, b2, b3, b4, b5⟩ := (HA.out.alloc (.cells #[.int .i64 u, .int .i64 md, .int .i64 d, .string id, .int .i64 fl, .slice K kn kc, .string tx] 28)).box
          have C : ∀ o, Calls Tryd.prog 37 #[.agg #[.string bid, .int .i64 bv, .int .i64 bn, .int .i64 bh, .slice WA wn wc, .slice (some ad) mn mc], .agg #[.int .i64 u, .int .i64 md, .int .i64 d, .string id, .int .i64 fl, .slice K kn kc, .string tx]] (wr.alloc o)
              fun e w' => e = .returned (.int .i64 (mmE wn ⟨u, md, d, id, fl, ks, tx⟩)) ∧ Below (wr.alloc o).heap.size (wr.alloc o) w' := fun o =>
            refMayMsg_cells (IntsAt.below hks ((Below.refl wr.heap.size _).alloc (Nat.le_refl _) o) (by have := HA.out.size; omega)) (by have := HA.out.size; simp; omega) hwn
          have HC := Lib.hid (fun o => (HA.out.alloc o))
          clear hks
          cases hq : mmB wn ⟨u, md, d, id, fl, ks, tx⟩ with
          | false =>
            have HF := Lib.hid (msE_bad (b := ⟨bid, bv, bn, bh, ws, ms⟩) e1 (.inl (by have := HWL.out; subst this; exact hq)))
            rw [mmE_false hq] at C
            have K1 := Lib.hid C
            clear C hq e1
            go_wp2_with (go_at_call 37; refine (K1.out _).mono ?_; rintro e w1 ⟨rfl, hb1⟩)
            go_ret
            exact ⟨ret_int (HMS.out.trans HF.out).symm, ((HC.out _).go hb1).below⟩
          | true =>
            have HQ := Lib.hid hq
            rw [mmE_true hq] at C
            have K1 := Lib.hid C
            clear C hq
            by_cases h1 : u ≤ lo
            · have HF := Lib.hid (msE_bad (b := ⟨bid, bv, bn, bh, ws, ms⟩) e1 (.inr (.inl (by have := HL.out; subst this; exact h1))))
              clear e1
              go_wp2_with fail
              refine (K1.out _).mono ?_
              rintro e w1 ⟨rfl, hb1⟩
              have HD := Lib.hid ((HC.out _).go hb1)
              obtain ⟨d0, d1, d2, d3, d4, d5, d6⟩ := msg_new hb1
              clear hb1
              go_wp2_with fail
              go_ret
              exact ⟨ret_int (HMS.out.trans HF.out).symm, HD.out.below⟩
            by_cases h2 : bn ≤ u
            · have HF := Lib.hid (msE_bad (b := ⟨bid, bv, bn, bh, ws, ms⟩) e1 (.inr (.inr (.inl h2))))
              have h1' : lo < u := by omega
              clear e1 h1
              go_wp2_with fail
              refine (K1.out _).mono ?_
              rintro e w1 ⟨rfl, hb1⟩
              have HD := Lib.hid ((HC.out _).go hb1)
              obtain ⟨d0, d1, d2, d3, d4, d5, d6⟩ := msg_new hb1
              obtain ⟨f0, f1, f2, f3, f4, f5⟩ := HD.out.box
              clear hb1
              go_wp2_with fail
              go_ret
              exact ⟨ret_int (HMS.out.trans HF.out).symm, HD.out.below⟩
            by_cases h3 : bh < md
            · have HF := Lib.hid (msE_bad (b := ⟨bid, bv, bn, bh, ws, ms⟩) e1 (.inr (.inr (.inr h3))))
              have h1' : lo < u := by omega
              have h2' : u < bn := by omega
              clear e1 h1 h2
              go_wp2_with fail
              refine (K1.out _).mono ?_
              rintro e w1 ⟨rfl, hb1⟩
              have HD := Lib.hid ((HC.out _).go hb1)
              obtain ⟨d0, d1, d2, d3, d4, d5, d6⟩ := msg_new hb1
              obtain ⟨f0, f1, f2, f3, f4, f5⟩ := HD.out.box
              clear hb1
              go_wp2_with fail
              go_ret
              exact ⟨ret_int (HMS.out.trans HF.out).symm, HD.out.below⟩
            · have h1' : lo < u := by omega
              have h2' : u < bn := by omega
              have h3' : md ≤ bh := by omega
              have HT2 := Lib.hid (okM_next HT.out e1 (by have := HWL.out; subst this; exact HQ.out) (by have := HL.out; subst this; exact h1') h2' h3')
              have HP := Lib.hid (pu_succ e1)
              clear e1 h1 h2 h3
              go_wp2_with fail
              refine (K1.out _).mono ?_
              rintro e w1 ⟨rfl, hb1⟩
              have HD := Lib.hid ((HC.out _).go hb1)
              obtain ⟨d0, d1, d2, d3, d4, d5, d6⟩ := msg_new hb1
              obtain ⟨f0, f1, f2, f3, f4, f5⟩ := HD.out.box
              clear hb1
              go_wp2_with fail
              go_roundw
              case rel => exact ⟨k2 + 1, by omega, by go_num, ⟨_, rfl, HP.out.symm⟩, HT2, HD⟩
              case measure => simp [intOf]; omega
        · obtain rfl : mn = k2 := by omega
          have HF := Lib.hid (HMS.out.trans (msE_good (b := ⟨bid, bv, bn, bh, ws, ms⟩) (k := mn) (by have := HML.out; show ms.length ≤ mn; omega) HT.out))
          go_wp2_with fail
          go_ret
          exact ⟨ret_int HF.out.symm, HA.out.below⟩

end Go.Proofs.YtdgcihgohkgecaaDoor.BxB
