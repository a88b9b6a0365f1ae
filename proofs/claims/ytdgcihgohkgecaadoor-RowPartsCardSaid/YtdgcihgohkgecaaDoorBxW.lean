/-
  The words of a box; its messages; May, of the program and of the document.
-/
import Derived.Test.YtdgcihgohkgecaaDoorBxM
namespace Go.Proofs.YtdgcihgohkgecaaDoor.BxW
open Go.RowKit Go.Proofs.YtdgcihgohkgecaaDoor.BxD Go.Proofs.YtdgcihgohkgecaaDoor.BxKit Go.Proofs.YtdgcihgohkgecaaDoor.BxA Go.Proofs.YtdgcihgohkgecaaDoor.BxAtom Go.Proofs.YtdgcihgohkgecaaDoor.BxM

set_option maxHeartbeats 1000000 in
theorem mayWords_any {A : Option Addr} {n cp B0 : Nat} {ws : List ByteArray} {w : World} (hx : StrsAt w B0 A n ws) (hcp : n ≤ cp) :
    Calls Tryd.prog 62 #[.slice A n cp] w fun e w' => e = .returned (.bool (wordsB ws)) ∧ w = w' := by
  have HX := Lib.hid hx
  have hn := hx.max
  clear hx
  go_enter Tryd.func62, Tryd.ntmps62
  go_wp2_with fail
  go_loop [7] (fun s7 => ∃ k : Nat, k ≤ n ∧ s7 = .int .i64 k ∧ Hid (∀ i, i < k → okW ws i)) (fun s7 => n - (intOf s7).toNat)
  case atStart => exact ⟨0, Nat.zero_le _, rfl, fun i hi => absurd hi (Nat.not_lt_zero _)⟩
  case round =>
    obtain ⟨k, hk, rfl, HT⟩ := hrel
    by_cases hlt : k < n
    · obtain ⟨ad1, x1, rfl, e1, hc1⟩ := StrsAt.at_ HX.out (Below.refl B0 w) (Nat.le_refl _) hlt
      have g1 : (0 : Int) ≤ (k : Int) := by omega
      have g2 : (k : Int) ≤ (cp : Int) := by omega
      have C := may_any x1 w
      cases ha : atB x1 with
      | false =>
        have HF := Lib.hid (wordsB_bad e1 (.inl ha))
        rw [ha] at C
        have K := Lib.hid C
        clear C ha e1
        go_wp2_with (go_at_call 90; refine K.out.mono ?_; rintro e w' ⟨rfl, rfl⟩)
        go_ret
        exact ⟨ret_bool HF.out.symm, rfl⟩
      | true =>
        rw [ha] at C
        have K := Lib.hid C
        have HA := Lib.hid ha
        have D := contains_any (cp := cp) x1 (RowAt.take HX.out hk)
        clear C ha
        by_cases hm : x1 ∈ ws.take k
        · have HF := Lib.hid (wordsB_bad e1 (.inr hm))
          rw [decide_eq_true hm] at D
          have L := Lib.hid D
          clear D hm e1
          go_wp2_with (first | (go_at_call 90; refine K.out.mono ?_; rintro e w' ⟨rfl, rfl⟩) | (go_at_call 65; refine L.out.mono ?_; rintro e w' ⟨rfl, rfl⟩))
          go_ret
          exact ⟨ret_bool HF.out.symm, rfl⟩
        · have HT2 := Lib.hid (okW_next HT.out e1 HA.out hm)
          rw [decide_eq_false hm] at D
          have L := Lib.hid D
          clear D hm e1
          go_wp2_with (first | (go_at_call 90; refine K.out.mono ?_; rintro e w' ⟨rfl, rfl⟩) | (go_at_call 65; refine L.out.mono ?_; rintro e w' ⟨rfl, rfl⟩))
          go_round
          case rel => exact ⟨k + 1, by omega, by go_num, HT2⟩
          case measure => simp [intOf]; omega
    · obtain rfl : k = n := by omega
      have HF := Lib.hid (wordsB_good (by have := HX.out.len; omega) HT.out)
      go_wp2_with fail
      go_ret
      exact ⟨ret_bool HF.out.symm, rfl⟩

def msE (b : Box) : Int := if msgsB b then 0 else 1
theorem msE_bad {b : Box} {i : Nat} {m : Msg} (hx : b.msgs[i]? = some m) (h : mmB b.words.length m = false ∨ m.uid ≤ pu b.msgs i ∨ b.next ≤ m.uid ∨ b.high < m.mod) : msE b = 1 := by unfold msE; rw [msgsB_bad hx h]; rfl
theorem msE_good {b : Box} {k : Nat} (hk : b.msgs.length ≤ k) (h : ∀ i, i < k → okM b i) : msE b = 0 := by unfold msE; rw [msgsB_good hk h]; rfl

set_option maxHeartbeats 2000000 in
set_option maxRecDepth 100000 in
theorem mayMsgs_any {bid : ByteArray} {bv bn bh : Int} {WA MA : Option Addr} {wn wc mn mc B0 : Nat} {ws : List ByteArray} {ms : List Msg} {w : World} (hm : MsgsAt w B0 MA mn ms) (hB : B0 ≤ w.heap.size) (hwl : ws.length = wn) (hwn : wn ≤ 140737488355328) :
    Calls Tryd.prog 63 #[.agg #[.string bid, .int .i64 bv, .int .i64 bn, .int .i64 bh, .slice WA wn wc, .slice MA mn mc]] w fun e w' => e = .returned (.int .i64 (msE ⟨bid, bv, bn, bh, ws, ms⟩)) ∧ Below w.heap.size w w' := by
  have HM := Lib.hid hm
  have hn := hm.max
  have HW := Lib.hid hwl
  clear hm hwl
  go_enter Tryd.func63, Tryd.ntmps63
  go_wp2_with fail
  go_loopw [3, 10] (fun s3 s10 wr => ∃ k : Nat, k ≤ mn ∧ s10 = .int .i64 k ∧ (∃ lo : Int, s3 = .int .i64 lo ∧ Hid (lo = pu ms k)) ∧ Hid (∀ i, i < k → okM ⟨bid, bv, bn, bh, ws, ms⟩ i) ∧
    Hid (After w (.cells #[.string bid, .int .i64 bv, .int .i64 bn, .int .i64 bh, .slice WA wn wc, .slice MA mn mc] 25) wr)) (fun _ s10 _ => mn - (intOf s10).toNat)
  case atStart => exact ⟨0, Nat.zero_le _, rfl, ⟨0, rfl, rfl⟩, fun i hi => absurd hi (Nat.not_lt_zero _), After.start _ _⟩
  case round =>
    obtain ⟨k, hk, rfl, ⟨lo, rfl, HL⟩, HT, HA⟩ := hrel
    by_cases hlt : k < mn
    · obtain ⟨ad, u, md, d, id, fl, ks, tx, K, kn, kc, rfl, _, e1, c0, c1, c2, c3, c4, c5, c6, hkc, hks, _, _⟩ := MsgsAt.sp HM.out HA.out.below hB hlt
      obtain ⟨b0, b1, b2, b3, b4, b5⟩ := (HA.out.alloc (.cells #[.int .i64 u, .int .i64 md, .int .i64 d, .string id, .int .i64 fl, .slice K kn kc, .string tx] 28)).box
      have C : ∀ o, Calls Tryd.prog 30 #[.agg #[.string bid, .int .i64 bv, .int .i64 bn, .int .i64 bh, .slice WA wn wc, .slice (some ad) mn mc], .agg #[.int .i64 u, .int .i64 md, .int .i64 d, .string id, .int .i64 fl, .slice K kn kc, .string tx]] (wr.alloc o)
          fun e w' => e = .returned (.int .i64 (mmE wn ⟨u, md, d, id, fl, ks, tx⟩)) ∧ Below (wr.alloc o).heap.size (wr.alloc o) w' := fun o =>
        mayMsg_cells (IntsAt.below hks ((Below.refl wr.heap.size _).alloc (Nat.le_refl _) o) (by have := HA.out.size; omega)) (by have := HA.out.size; simp; omega) hwn
      have HC := Lib.hid (fun o => (HA.out.alloc o))
      clear hks
      cases hq : mmB wn ⟨u, md, d, id, fl, ks, tx⟩ with
      | false =>
        have HF := Lib.hid (msE_bad (b := ⟨bid, bv, bn, bh, ws, ms⟩) e1 (.inl (by have := HW.out; subst this; exact hq)))
        rw [mmE_false hq] at C
        have K1 := Lib.hid C
        clear C hq e1
        go_wp2_with (go_at_call 30; refine (K1.out _).mono ?_; rintro e w1 ⟨rfl, hb1⟩)
        go_ret
        exact ⟨ret_int HF.out.symm, ((HC.out _).go hb1).below⟩
      | true =>
        have HQ := Lib.hid hq
        rw [mmE_true hq] at C
        have K1 := Lib.hid C
        clear C hq
        by_cases h1 : u ≤ lo
        · have HF := Lib.hid (msE_bad (b := ⟨bid, bv, bn, bh, ws, ms⟩) e1 (.inr (.inl (by have := HL.out; subst this; exact h1))))
          clear e1
          go_wp2_with fail
          refine (K1.out _).mono ?_
          rintro e w1 ⟨rfl, hb1⟩
          have HD := Lib.hid ((HC.out _).go hb1)
          obtain ⟨d0, d1, d2, d3, d4, d5, d6⟩ := msg_new hb1
          clear hb1
          go_wp2_with fail
          go_ret
          exact ⟨ret_int HF.out.symm, HD.out.below⟩
        by_cases h2 : bn ≤ u
        · have HF := Lib.hid (msE_bad (b := ⟨bid, bv, bn, bh, ws, ms⟩) e1 (.inr (.inr (.inl h2))))
          have h1' : lo < u := by omega
          clear e1 h1
          go_wp2_with fail
          refine (K1.out _).mono ?_
          rintro e w1 ⟨rfl, hb1⟩
          have HD := Lib.hid ((HC.out _).go hb1)
          obtain ⟨d0, d1, d2, d3, d4, d5, d6⟩ := msg_new hb1
          obtain ⟨f0, f1, f2, f3, f4, f5⟩ := HD.out.box
          clear hb1
          go_wp2_with fail
          go_ret
          exact ⟨ret_int HF.out.symm, HD.out.below⟩
        by_cases h3 : bh < md
        · have HF := Lib.hid (msE_bad (b := ⟨bid, bv, bn, bh, ws, ms⟩) e1 (.inr (.inr (.inr h3))))
          have h1' : lo < u := by omega
          have h2' : u < bn := by omega
          clear e1 h1 h2
          go_wp2_with fail
          refine (K1.out _).mono ?_
          rintro e w1 ⟨rfl, hb1⟩
          have HD := Lib.hid ((HC.out _).go hb1)
          obtain ⟨d0, d1, d2, d3, d4, d5, d6⟩ := msg_new hb1
          obtain ⟨f0, f1, f2, f3, f4, f5⟩ := HD.out.box
          clear hb1
          go_wp2_with fail
          go_ret
          exact ⟨ret_int HF.out.symm, HD.out.below⟩
        · have h1' : lo < u := by omega
          have h2' : u < bn := by omega
          have h3' : md ≤ bh := by omega
          have HT2 := Lib.hid (okM_next HT.out e1 (by have := HW.out; subst this; exact HQ.out) (by have := HL.out; subst this; exact h1') h2' h3')
          have HP := Lib.hid (pu_succ e1)
          clear e1 h1 h2 h3
          go_wp2_with fail
          refine (K1.out _).mono ?_
          rintro e w1 ⟨rfl, hb1⟩
          have HD := Lib.hid ((HC.out _).go hb1)
          obtain ⟨d0, d1, d2, d3, d4, d5, d6⟩ := msg_new hb1
          obtain ⟨f0, f1, f2, f3, f4, f5⟩ := HD.out.box
          clear hb1
          go_wp2_with fail
          go_roundw
          case rel => exact ⟨k + 1, by omega, by go_num, ⟨_, rfl, HP.out.symm⟩, HT2, HD⟩
          case measure => simp [intOf]; omega
    · obtain rfl : k = mn := by omega
      have HF := Lib.hid (msE_good (b := ⟨bid, bv, bn, bh, ws, ms⟩) (k := k) (by have := HM.out.len; show ms.length ≤ k; omega) HT.out)
      go_wp2_with fail
      go_ret
      exact ⟨ret_int HF.out.symm, HA.out.below⟩
end Go.Proofs.YtdgcihgohkgecaaDoor.BxW
