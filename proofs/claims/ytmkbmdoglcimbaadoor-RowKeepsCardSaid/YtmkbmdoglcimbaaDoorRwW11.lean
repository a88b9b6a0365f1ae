/-
  Apply: one row done to a box.
-/
import Derived.Test.YtmkbmdoglcimbaaDoorRwW10
namespace Go.Proofs.YtmkbmdoglcimbaaDoor.RwW11
open Go.RowKit Go.Proofs.YtmkbmdoglcimbaaDoor.BxD Go.Proofs.YtmkbmdoglcimbaaDoor.BxKit Go.Proofs.YtmkbmdoglcimbaaDoor.BxA Go.Proofs.YtmkbmdoglcimbaaDoor.BxR Go.Proofs.YtmkbmdoglcimbaaDoor.BxC Go.Proofs.YtmkbmdoglcimbaaDoor.BxOp Go.Proofs.YtmkbmdoglcimbaaDoor.RwD Go.Proofs.YtmkbmdoglcimbaaDoor.RwKit Go.Proofs.YtmkbmdoglcimbaaDoor.RwOwn Go.Proofs.YtmkbmdoglcimbaaDoor.RwW1 Go.Proofs.YtmkbmdoglcimbaaDoor.RwMb Go.Proofs.YtmkbmdoglcimbaaDoor.RwW10

theorem three (w : World) (o1 o2 o3 : Obj) : Below w.heap.size w (((w.alloc o1).alloc o2).alloc o3) ∧ (((w.alloc o1).alloc o2).alloc o3).heap[w.heap.size]? = some o1 ∧ (((w.alloc o1).alloc o2).alloc o3).heap[w.heap.size + 1]? = some o2 ∧ (((w.alloc o1).alloc o2).alloc o3).heap[w.heap.size + 2]? = some o3 := by
  refine ⟨(((Below.refl _ _).alloc (Nat.le_refl _) _).alloc (by simp) _).alloc (by simp; omega) _, (heap_alloc_old _ _ (by simp; omega)).trans ((heap_alloc_old _ _ (by simp)).trans (heap_alloc_new w _)), ?_, ?_⟩
  · have := heap_alloc_new (w.alloc o1) o2
    rw [show (w.alloc o1).heap.size = w.heap.size + 1 by simp] at this
    exact (heap_alloc_old _ _ (by simp)).trans this
  · have := heap_alloc_new ((w.alloc o1).alloc o2) o3
    rwa [show ((w.alloc o1).alloc o2).heap.size = w.heap.size + 2 by simp] at this
theorem Lie.out {lo lo' hi hi' : Nat} {w w' : World} {WA MA : Option Addr} {wn mn : Nat} {ws : List ByteArray} {ms : List Msg} (h : Lie lo' hi' w WA wn ws MA mn ms) (h1 : lo ≤ lo') (h2 : hi' ≤ hi) (hw : ∀ k, lo' ≤ k → k < hi' → w'.heap[k]? = w.heap[k]?) : Lie lo hi w' WA wn ws MA mn ms := by
  intro w2 hs hk
  obtain ⟨a, b⟩ := h w2 (by omega) fun k k1 k2 => (hk k (by omega) (by omega)).trans (hw k k1 k2)
  exact ⟨StrsAt.more a h2, MsgsAt.more b h2⟩
theorem allP_one (b : Box) (r : Row) : allP b [r] = ap b r := by
  unfold allP ap
  by_cases h0 : mbE b = 0
  · rw [if_pos h0, allG_cons]; rfl
  · rw [if_neg h0]
    have : apE b r = 1 := by unfold apE; rw [if_pos h0]
    rw [this, if_neg (by decide)]
/-- The one row in its slice. -/
theorem one_row {w : World} {B : Nat} {r : Row} {J : Option Addr} {jc : Nat} (hj : IntsAt w B J r.msg.keys.length r.msg.keys) (hB : B ≤ w.heap.size) (hc : r.msg.keys.length ≤ jc) (z1 : r.msg.id.size ≤ 140737488355328) (z2 : r.msg.text.size ≤ 140737488355328) (z3 : r.text.size ≤ 140737488355328) :
    RowsAt (w.alloc (.cells #[.int .i64 r.kind, .int .i64 r.uid, .int .i64 r.mod, .int .i64 r.msg.uid, .int .i64 r.msg.mod, .int .i64 r.msg.date, .string r.msg.id, .int .i64 r.msg.flags, .slice J r.msg.keys.length jc, .string r.msg.text, .string r.text] 50)) (w.heap.size + 1) (some ⟨w.heap.size, 0, none⟩) 1 [r] := by
  refine ⟨rfl, by decide, fun _ => ⟨_, rfl, Nat.lt_succ_self _, fun j x hj2 => ?_⟩⟩
  match j, hj2 with
  | 0, hj2 =>
    obtain rfl : r = x := by simpa using hj2
    rw [add_new]
    refine ⟨by simp, ?_, ?_, ?_, ?_, ?_, ?_, ?_, ⟨J, jc, ?_, hc, ?_⟩, ?_, ?_, z1, z2, z3⟩
    · simp [fld]
    · simp [fld]
    · simp [fld]
    · simp [fld]
    · simp [fld]
    · simp [fld]
    · simp [fld]
    · simp [fld]
    · exact IntsAt.more (IntsAt.below hj ((Below.refl _ _).alloc (Nat.le_refl _) _) hB) (by omega)
    · simp [fld]
    · simp [fld]
set_option maxHeartbeats 4000000 in
set_option maxRecDepth 100000 in
theorem apply_row {w : World} {b : Box} {r : Row} {WA MA J : Option Addr} {wn wc mn mcp jc B : Nat} (hx : StrsAt w B WA wn b.words) (hm : MsgsAt w B MA mn b.msgs) (hwc : wn ≤ wc) (hmc : mn ≤ mcp) (hB : B ≤ w.heap.size) (hj : IntsAt w B J r.msg.keys.length r.msg.keys) (hc : r.msg.keys.length ≤ jc) (z1 : r.msg.id.size ≤ 140737488355328) (z2 : r.msg.text.size ≤ 140737488355328) (z3 : r.text.size ≤ 140737488355328) (h6 : r.msg.keys.length ≤ 1000000) :
    Calls Tryd.prog 23 #[.agg #[.string b.id, .int .i64 b.valid, .int .i64 b.next, .int .i64 b.high, .slice WA wn wc, .slice MA mn mcp], .agg #[.int .i64 r.kind, .int .i64 r.uid, .int .i64 r.mod, .int .i64 r.msg.uid, .int .i64 r.msg.mod, .int .i64 r.msg.date, .string r.msg.id, .int .i64 r.msg.flags, .slice J r.msg.keys.length jc, .string r.msg.text, .string r.text]] w (BoxOut (ap b r).1 (ap b r).2 w) := by
  rw [← allP_one]
  obtain ⟨hb1, e0, e1, e2⟩ := three w (.cells #[.string b.id, .int .i64 b.valid, .int .i64 b.next, .int .i64 b.high, .slice WA wn wc, .slice MA mn mcp] 25) (.cells #[.int .i64 r.kind, .int .i64 r.uid, .int .i64 r.mod, .int .i64 r.msg.uid, .int .i64 r.msg.mod, .int .i64 r.msg.date, .string r.msg.id, .int .i64 r.msg.flags, .slice J r.msg.keys.length jc, .string r.msg.text, .string r.text] 50) (.cells #[.string ⟨#[]⟩, .int .i64 0, .int .i64 0, .int .i64 0, .slice none 0 0, .slice none 0 0] 25)
  have L1 := Lib.hid (show LB _ (w.heap.size + 1) r J jc from e1)
  have E0 := Lib.hid e0
  have E2 := Lib.hid e2
  have HB1 := Lib.hid hb1
  have hj1 := IntsAt.below hj hb1 hB
  have hx1 := StrsAt.below hx hb1 hB
  have hm1 := MsgsAt.below hm hb1 hB
  have HJ1 := Lib.hid hj1
  have HX1 := Lib.hid hx1
  have HM1 := Lib.hid hm1
  obtain ⟨C, hC⟩ : ∃ C, C = (allP b [r]).1 := ⟨_, rfl⟩
  obtain ⟨E, hE⟩ : ∃ E, E = (allP b [r]).2 := ⟨_, rfl⟩
  have HC := Lib.hid hC
  have HE := Lib.hid hE
  rw [← hC, ← hE]
  have hs : (((w.alloc (.cells #[.string b.id, .int .i64 b.valid, .int .i64 b.next, .int .i64 b.high, .slice WA wn wc, .slice MA mn mcp] 25)).alloc (.cells #[.int .i64 r.kind, .int .i64 r.uid, .int .i64 r.mod, .int .i64 r.msg.uid, .int .i64 r.msg.mod, .int .i64 r.msg.date, .string r.msg.id, .int .i64 r.msg.flags, .slice J r.msg.keys.length jc, .string r.msg.text, .string r.text] 50)).alloc (.cells #[.string ⟨#[]⟩, .int .i64 0, .int .i64 0, .int .i64 0, .slice none 0 0, .slice none 0 0] 25)).heap.size = w.heap.size + 3 := by simp
  clear hb1 e0 e1 e2 hj hx hm hj1 hx1 hm1 hC hE
  go_enter Tryd.func23, Tryd.ntmps23
  go_upto_region 1 with fail
  generalize (World.alloc (World.alloc (World.alloc w _) _) _) = w1 at L1 E0 E2 HB1 HJ1 HX1 HM1 hs ⊢
  have hs1 : w.heap.size + 3 ≤ w1.heap.size := by omega
  clear hs
  obtain ⟨c0, c1, c2, c3, c4, c5, _⟩ := six_at E0.out
  obtain ⟨r0, r1, r2, r3, r4, r5, r6, r7, r8, r9, r10⟩ := L1.out.facts
  have hbw := (Below.refl w1.heap.size w1).alloc (Nat.le_refl _) (.cells #[.int .i64 r.kind, .int .i64 r.uid, .int .i64 r.mod, .int .i64 r.msg.uid, .int .i64 r.msg.mod, .int .i64 r.msg.date, .string r.msg.id, .int .i64 r.msg.flags, .slice J r.msg.keys.length jc, .string r.msg.text, .string r.text] 50)
  have kc := all_any (w := w1.alloc (.cells #[.int .i64 r.kind, .int .i64 r.uid, .int .i64 r.mod, .int .i64 r.msg.uid, .int .i64 r.msg.mod, .int .i64 r.msg.date, .string r.msg.id, .int .i64 r.msg.flags, .slice J r.msg.keys.length jc, .string r.msg.text, .string r.text] 50)) (b := b) (l := [r]) (wc := wc) (mcp := mcp) (A := some ⟨w1.heap.size, 0, none⟩) (n := 1) (cp := 1) (B := w1.heap.size + 1) (StrsAt.more (StrsAt.below HX1.out hbw (by omega)) (by omega)) (MsgsAt.more (MsgsAt.below HM1.out hbw (by omega)) (by omega)) hwc hmc (by simp) (one_row HJ1.out (by omega) hc z1 z2 z3) (Nat.le_refl _) (fun x hx => by obtain rfl := List.mem_singleton.1 hx; exact h6)
  rw [← HC.out, ← HE.out] at kc
  have KC := Lib.hid kc
  have HBW := Lib.hid hbw
  clear kc hbw
  go_wp2_with (go_at_call 19; go_loud (
               refine KC.out.mono ?_
               rintro e w2 ⟨WA2, wn2, wc2, MA2, mn2, mc2, rfl, h1, h2, hlie, hbel⟩
               have hb12 := HBW.out.trans (hbel.mono (by simp))
               have hR := (hb12.block (w.heap.size + 2) (by omega)).trans E2.out
               have HR := Lib.hid hR
               have HB2 := Lib.hid (HB1.out.trans (hb12.mono (show w.heap.size ≤ w1.heap.size by omega)))
               have HLI := Lib.hid hlie
               have hs2 := hb12.size
               clear hlie hbel hb12 hR c0 c1 c2 c3 c4 c5 r0 r1 r2 r3 r4 r5 r6 r7 r8 r9 r10
               obtain ⟨d0, d1, d2, d3, d4, d5, f0, f1, f2, f3, f4, f5⟩ := six_at HR.out))
  generalize hWW : put6 w2 (w.heap.size + 2) (.string C.id) (.int .i64 C.valid) (.int .i64 C.next) (.int .i64 C.high) (.slice WA2 wn2 wc2) (.slice MA2 mn2 mc2) = W
  have hRW : W.heap[w.heap.size + 2]? = some (.cells #[.string C.id, .int .i64 C.valid, .int .i64 C.next, .int .i64 C.high, .slice WA2 wn2 wc2, .slice MA2 mn2 mc2] 25 (0, 0)) := by
    rw [← hWW]; unfold put6; simp [World.setCell, Array.getElem?_modify, HR.out]
  obtain ⟨q0, q1, q2, q3, q4, q5, _⟩ := six_at hRW
  have hoth : ∀ k, k ≠ w.heap.size + 2 → W.heap[k]? = w2.heap[k]? := fun k hk => by rw [← hWW]; exact put6_other hk _ _ _ _ _ _
  have hsz : W.heap.size = w2.heap.size := by rw [← hWW]; exact put6_size _ _ _ _ _ _ _ _
  have hbel : Below w.heap.size w W := by
    rw [← hWW]
    unfold put6
    have hb : w.heap.size ≤ w.heap.size + 2 := by omega
    exact (((((HB2.out.setCell hb _).setCell hb _).setCell hb _).setCell hb _).setCell hb _).setCell hb _
  unfold put6 at hWW
  rw [show w.heap.size + 1 + 1 = w.heap.size + 2 from rfl] at *
  rw [hWW]
  refine bodyPost_ret (v := .tuple #[.agg #[.string C.id, .int .i64 C.valid, .int .i64 C.next, .int .i64 C.high, .slice WA2 wn2 wc2, .slice MA2 mn2 mc2], .int .i64 E]) (by simp [results, Tryd.results23, go_sem, q0, q1, q2, q3, q4, q5]) rfl ?_
  exact ⟨WA2, wn2, wc2, MA2, mn2, mc2, rfl, h1, h2, Lie.out HLI.out (by simp; omega) (by omega) fun k k1 k2 => hoth k (by simp at k1; omega), hbel⟩
end Go.Proofs.YtmkbmdoglcimbaaDoor.RwW11
