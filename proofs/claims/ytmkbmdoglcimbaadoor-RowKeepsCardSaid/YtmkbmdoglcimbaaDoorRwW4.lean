/-
  A message changed by a row.
-/
import Derived.Test.YtmkbmdoglcimbaaDoorRwMb
import Derived.Deep.RegionHeld3
namespace Go.Proofs.YtmkbmdoglcimbaaDoor.RwW4
open Go.RowKit Go.Proofs.YtmkbmdoglcimbaaDoor.BxD Go.Proofs.YtmkbmdoglcimbaaDoor.BxKit Go.Proofs.YtmkbmdoglcimbaaDoor.BxA Go.Proofs.YtmkbmdoglcimbaaDoor.BxR Go.Proofs.YtmkbmdoglcimbaaDoor.BxC Go.Proofs.YtmkbmdoglcimbaaDoor.RwD Go.Proofs.YtmkbmdoglcimbaaDoor.RwKit Go.Proofs.YtmkbmdoglcimbaaDoor.RwOwn Go.Proofs.YtmkbmdoglcimbaaDoor.RwW1 Go.Proofs.YtmkbmdoglcimbaaDoor.RwMb

def chM (m : Msg) (r : Row) : Msg :=
  if r.kind = 2 then ⟨m.uid, r.mod, m.date, m.id, r.msg.flags, r.msg.keys, m.text⟩
  else if r.kind = 5 then ⟨m.uid, m.mod, m.date, r.text, m.flags, m.keys, m.text⟩
  else if r.kind = 6 ∨ r.kind = 3 then ⟨m.uid, r.mod, m.date, m.id, m.flags, m.keys, m.text⟩ else m
/-- What changed tells. -/
def ChPost (m' : Msg) (base : Nat) (w : World) (e : Ending) (w' : World) : Prop :=
  ∃ K c, e = .returned (.agg #[.int .i64 m'.uid, .int .i64 m'.mod, .int .i64 m'.date, .string m'.id, .int .i64 m'.flags, .slice K m'.keys.length c, .string m'.text]) ∧
    w'.ownsRow base 3 1 (.slice K m'.keys.length c) m'.keys.length (m'.keys.map (Value.int .i64)) ∧ Below w.heap.size w w'
/-- The message, the row and the room for the answer. -/
structure CB (w wr : World) (m : Msg) (r : Row) (K J : Option Addr) (kc jc : Nat) : Prop where
  bel : Below w.heap.size w wr
  mb : MB wr w.heap.size m K kc
  lb : LB wr (w.heap.size + 1) r J jc
  rb : MB wr (w.heap.size + 2) noM none 0
section
variable {w wr w2 : World} {m : Msg} {r : Row} {K J : Option Addr} {kc jc : Nat}
theorem CB.start (w : World) (m : Msg) (r : Row) (K J : Option Addr) (kc jc : Nat) :
    CB w (((w.alloc (.cells #[.int .i64 m.uid, .int .i64 m.mod, .int .i64 m.date, .string m.id, .int .i64 m.flags, .slice K m.keys.length kc, .string m.text] 28)).alloc (.cells #[.int .i64 r.kind, .int .i64 r.uid, .int .i64 r.mod, .int .i64 r.msg.uid, .int .i64 r.msg.mod, .int .i64 r.msg.date, .string r.msg.id, .int .i64 r.msg.flags, .slice J r.msg.keys.length jc, .string r.msg.text, .string r.text] 50)).alloc
      (.cells #[.int .i64 0, .int .i64 0, .int .i64 0, .string ⟨#[]⟩, .int .i64 0, .slice none 0 0, .string ⟨#[]⟩] 28)) m r K J kc jc := by
  generalize hb1 : Obj.cells #[.int .i64 m.uid, .int .i64 m.mod, .int .i64 m.date, .string m.id, .int .i64 m.flags, .slice K m.keys.length kc, .string m.text] 28 = b1
  generalize ho : Obj.cells #[.int .i64 r.kind, .int .i64 r.uid, .int .i64 r.mod, .int .i64 r.msg.uid, .int .i64 r.msg.mod, .int .i64 r.msg.date, .string r.msg.id, .int .i64 r.msg.flags, .slice J r.msg.keys.length jc, .string r.msg.text, .string r.text] 50 = o
  generalize hz : Obj.cells #[.int .i64 0, .int .i64 0, .int .i64 0, .string ⟨#[]⟩, .int .i64 0, .slice none 0 0, .string ⟨#[]⟩] 28 = z
  have e0 : (((w.alloc b1).alloc o).alloc z).heap[w.heap.size]? = some b1 := (heap_alloc_old _ _ (by simp; omega)).trans ((heap_alloc_old _ _ (by simp)).trans (heap_alloc_new w _))
  have e1 : (((w.alloc b1).alloc o).alloc z).heap[w.heap.size + 1]? = some o := by
    have := heap_alloc_new (w.alloc b1) o
    rw [show (w.alloc b1).heap.size = w.heap.size + 1 by simp] at this
    exact (heap_alloc_old _ _ (by simp)).trans this
  have e2 : (((w.alloc b1).alloc o).alloc z).heap[w.heap.size + 2]? = some z := by
    have := heap_alloc_new ((w.alloc b1).alloc o) z
    rwa [show ((w.alloc b1).alloc o).heap.size = w.heap.size + 2 by simp] at this
  exact ⟨(((Below.refl _ _).alloc (Nat.le_refl _) _).alloc (by simp) _).alloc (by simp; omega) _, e0.trans (by rw [← hb1]), e1.trans (by rw [← ho]), e2.trans (by rw [← hz]; rfl)⟩
theorem CB.drew (h : CB w wr m r K J kc jc) : CB w wr.drew m r K J kc jc := ⟨h.bel.drew, h.mb, h.lb, h.rb⟩
theorem CB.size (h : CB w wr m r K J kc jc) : w.heap.size + 3 ≤ wr.heap.size := h.rb.lt
theorem CB.go (h : CB w wr m r K J kc jc) (hb : Below wr.heap.size wr w2) : CB w w2 m r K J kc jc := by
  have := h.size
  exact ⟨h.bel.trans (hb.mono (by omega)), h.mb.go hb, h.lb.go hb, h.rb.go hb⟩
/-- The message's cells turned into another's. -/
theorem CB.turn (h : CB w wr m r K J kc jc) {m' : Msg} {K' : Option Addr} {kc' : Nat} (hm : MB w2 w.heap.size m' K' kc') (ho : ∀ k, k ≠ w.heap.size → w2.heap[k]? = wr.heap[k]?) (hb : Below w.heap.size w w2) : CB w w2 m' r K' J kc' jc :=
  ⟨hb, hm, (ho _ (by omega)).trans h.lb, (ho _ (by omega)).trans h.rb⟩
/-- The answer laid. -/
theorem CB.ret (h : CB w wr m r K J kc jc) : ∃ W, W = (((((((wr.setCell { block := w.heap.size + 2, off := 0 } (.int .i64 m.uid)).setCell { block := w.heap.size + 2, off := 1 } (.int .i64 m.mod)).setCell { block := w.heap.size + 2, off := 2 } (.int .i64 m.date)).setCell { block := w.heap.size + 2, off := 3 } (.string m.id)).setCell { block := w.heap.size + 2, off := 4 } (.int .i64 m.flags)).setCell { block := w.heap.size + 2, off := 5 } (.slice K m.keys.length kc)).setCell { block := w.heap.size + 2, off := 6 } (.string m.text)) ∧
    W.cell? { block := w.heap.size + 2, off := 0 } = some (.int .i64 m.uid) ∧ W.cell? { block := w.heap.size + 2, off := 1 } = some (.int .i64 m.mod) ∧ W.cell? { block := w.heap.size + 2, off := 2 } = some (.int .i64 m.date) ∧ W.cell? { block := w.heap.size + 2, off := 3 } = some (.string m.id) ∧ W.cell? { block := w.heap.size + 2, off := 4 } = some (.int .i64 m.flags) ∧
    W.cell? { block := w.heap.size + 2, off := 5 } = some (.slice K m.keys.length kc) ∧ W.cell? { block := w.heap.size + 2, off := 6 } = some (.string m.text) ∧ Below w.heap.size w W ∧ ∀ k, k ≠ w.heap.size + 2 → W.heap[k]? = wr.heap[k]? := by
  refine ⟨_, rfl, ?_⟩
  have hr := h.rb
  unfold MB at hr
  have hR : (((((((wr.setCell { block := w.heap.size + 2, off := 0 } (.int .i64 m.uid)).setCell { block := w.heap.size + 2, off := 1 } (.int .i64 m.mod)).setCell { block := w.heap.size + 2, off := 2 } (.int .i64 m.date)).setCell { block := w.heap.size + 2, off := 3 } (.string m.id)).setCell { block := w.heap.size + 2, off := 4 } (.int .i64 m.flags)).setCell { block := w.heap.size + 2, off := 5 } (.slice K m.keys.length kc)).setCell { block := w.heap.size + 2, off := 6 } (.string m.text)).heap[w.heap.size + 2]? =
      some (.cells #[.int .i64 m.uid, .int .i64 m.mod, .int .i64 m.date, .string m.id, .int .i64 m.flags, .slice K m.keys.length kc, .string m.text] 28 (0, 0)) := by
    simp [World.setCell, Array.getElem?_modify, hr]
  obtain ⟨a0, a1, a2, a3, a4, a5, a6⟩ := MB.facts hR
  refine ⟨a0, a1, a2, a3, a4, a5, a6, ?_, fun k hk => ?_⟩
  · have hbR : w.heap.size ≤ w.heap.size + 2 := by omega
    exact ((((((h.bel.setCell hbR _).setCell hbR _).setCell hbR _).setCell hbR _).setCell hbR _).setCell hbR _).setCell hbR _
  · iterate 7 rw [Below.heap_setCell _ _ _ _ (by show k ≠ w.heap.size + 2; exact hk)]
end
/-- Keys stay where the answer is laid. -/
theorem own_far {w W : World} {base n Q : Nat} {v : Value} {xs : List Value} {cs : Array Value} (hr : w.heap[Q]? = some (.cells cs 28 (0, 0))) (h : w.ownsRow base 3 1 v n xs) (ho : ∀ k, k ≠ Q → W.heap[k]? = w.heap[k]?) : W.ownsRow base 3 1 v n xs :=
  own_block h fun g e => ho g fun e2 => own_ne_blk h hr (by decide) (by rw [← e2]; exact e)
set_option maxHeartbeats 2000000 in
set_option maxRecDepth 100000 in
theorem ch_none {w : World} {base B : Nat} {m : Msg} {r : Row} {K J : Option Addr} {kc jc : Nat} (hb : base ≤ w.heap.size) (hk : w.ownsRow base 3 1 (.slice K m.keys.length kc) m.keys.length (m.keys.map (Value.int .i64))) (hj : IntsAt w B J r.msg.keys.length r.msg.keys) (hB : B ≤ w.heap.size) (h6 : r.msg.keys.length ≤ 1000000) (h2 : r.kind ≠ 2) (h5 : r.kind ≠ 5) (h66 : r.kind ≠ 6) (h3 : r.kind ≠ 3) :
    Calls Tryd.prog 89 #[.agg #[.int .i64 m.uid, .int .i64 m.mod, .int .i64 m.date, .string m.id, .int .i64 m.flags, .slice K m.keys.length kc, .string m.text], .agg #[.int .i64 r.kind, .int .i64 r.uid, .int .i64 r.mod, .int .i64 r.msg.uid, .int .i64 r.msg.mod, .int .i64 r.msg.date, .string r.msg.id, .int .i64 r.msg.flags, .slice J r.msg.keys.length jc, .string r.msg.text, .string r.text]] w (ChPost m base w) := by
  have C0 := Lib.hid (CB.start w m r K J kc jc)
  have HJ := Lib.hid (IntsAt.below hj C0.out.bel hB)
  have HK := Lib.hid (own_block hk fun g e => C0.out.bel.block g (hk.lt g e).2)
  clear hj hk
  go_enter Tryd.func89, Tryd.ntmps89
  go_upto_region 1 with fail
  generalize (World.alloc (World.alloc (World.alloc w _) _) _) = w1 at C0 HJ HK ⊢
  have hsz := C0.out.size
  obtain ⟨m0, m1, m2, m3, m4, m5, m6⟩ := C0.out.mb.facts
  obtain ⟨r0, r1, r2, r3, r4, r5, r6, r7, r8, r9, r10⟩ := C0.out.lb.facts
  clear m0 m1 m2 m3 m4 m5 m6
  go_upto_region 9 with fail
  clear r0 r1 r2 r3 r4 r5 r6 r7 r8 r9 r10
  obtain ⟨m0, m1, m2, m3, m4, m5, m6⟩ := C0.out.mb.facts
  obtain ⟨d0, d1, d2, d3, d4, d5, d6⟩ := C0.out.rb.facts
  have f0 := C0.out.rb.free 0
  have f1 := C0.out.rb.free 1
  have f2 := C0.out.rb.free 2
  have f3 := C0.out.rb.free 3
  have f4 := C0.out.rb.free 4
  have f5 := C0.out.rb.free 5
  have f6 := C0.out.rb.free 6
  go_wp2_with fail
  obtain ⟨W, hW, q0, q1, q2, q3, q4, q5, q6, hWb, hWo⟩ := C0.out.ret
  try (dsimp only at hW q0 q1 q2 q3 q4 q5 q6)
  rw [← hW]
  refine bodyPost_ret (v := .agg #[.int .i64 m.uid, .int .i64 m.mod, .int .i64 m.date, .string m.id, .int .i64 m.flags, .slice K m.keys.length kc, .string m.text]) (by simp [results, Tryd.results89, go_sem, q0, q1, q2, q3, q4, q5, q6]) rfl ?_
  exact ⟨_, _, rfl, own_far C0.out.rb HK.out hWo, hWb⟩

set_option maxHeartbeats 2000000 in
set_option maxRecDepth 100000 in
theorem ch_name {w : World} {base B : Nat} {m : Msg} {r : Row} {K J : Option Addr} {kc jc : Nat} (hb : base ≤ w.heap.size) (hk : w.ownsRow base 3 1 (.slice K m.keys.length kc) m.keys.length (m.keys.map (Value.int .i64))) (hj : IntsAt w B J r.msg.keys.length r.msg.keys) (hB : B ≤ w.heap.size) (h6 : r.msg.keys.length ≤ 1000000) (h5 : r.kind = 5) :
    Calls Tryd.prog 89 #[.agg #[.int .i64 m.uid, .int .i64 m.mod, .int .i64 m.date, .string m.id, .int .i64 m.flags, .slice K m.keys.length kc, .string m.text], .agg #[.int .i64 r.kind, .int .i64 r.uid, .int .i64 r.mod, .int .i64 r.msg.uid, .int .i64 r.msg.mod, .int .i64 r.msg.date, .string r.msg.id, .int .i64 r.msg.flags, .slice J r.msg.keys.length jc, .string r.msg.text, .string r.text]] w (ChPost ⟨m.uid, m.mod, m.date, r.text, m.flags, m.keys, m.text⟩ base w) := by
  have C0 := Lib.hid (CB.start w m r K J kc jc)
  have HJ := Lib.hid (IntsAt.below hj C0.out.bel hB)
  have HK := Lib.hid (own_block hk fun g e => C0.out.bel.block g (hk.lt g e).2)
  clear hj hk
  have H5 := Lib.hid h5
  clear h5
  go_enter Tryd.func89, Tryd.ntmps89
  go_upto_region 1 with fail
  generalize (World.alloc (World.alloc (World.alloc w _) _) _) = w1 at C0 HJ HK ⊢
  have hsz := C0.out.size
  obtain ⟨m0, m1, m2, m3, m4, m5, m6⟩ := C0.out.mb.facts
  obtain ⟨r0, r1, r2, r3, r4, r5, r6, r7, r8, r9, r10⟩ := C0.out.lb.facts
  rw [H5.out] at r0
  have f := C0.out.mb.free 3
  go_upto_region 9 with fail
  have C1 := Lib.hid (show CB w (w1.setCell { block := w.heap.size, off := 3 } (.string r.text)) ⟨m.uid, m.mod, m.date, r.text, m.flags, m.keys, m.text⟩ r K J kc jc from C0.out.turn (by have := C0.out.mb; unfold MB at *; simp [World.setCell, Array.getElem?_modify, this]) (fun k hk => Below.heap_setCell _ _ _ _ (by show k ≠ w.heap.size; exact hk)) (C0.out.bel.setCell (Nat.le_refl _) _))
  have HK1 := Lib.hid (own_far C0.out.mb HK.out (fun k hk => Below.heap_setCell w1 { block := w.heap.size, off := 3 } (.string r.text) k hk))
  clear f C0 HK HJ m0 m1 m2 m3 m4 m5 m6 r0 r1 r2 r3 r4 r5 r6 r7 r8 r9 r10
  generalize (World.setCell w1 _ _) = w2 at C1 HK1 ⊢
  obtain ⟨m0, m1, m2, m3, m4, m5, m6⟩ := C1.out.mb.facts
  obtain ⟨d0, d1, d2, d3, d4, d5, d6⟩ := C1.out.rb.facts
  have f0 := C1.out.rb.free 0
  have f1 := C1.out.rb.free 1
  have f2 := C1.out.rb.free 2
  have f3 := C1.out.rb.free 3
  have f4 := C1.out.rb.free 4
  have f5 := C1.out.rb.free 5
  have f6 := C1.out.rb.free 6
  go_wp2_with fail
  obtain ⟨W, hW, q0, q1, q2, q3, q4, q5, q6, hWb, hWo⟩ := C1.out.ret
  try (dsimp only at hW q0 q1 q2 q3 q4 q5 q6)
  rw [← hW]
  refine bodyPost_ret (v := .agg #[.int .i64 m.uid, .int .i64 m.mod, .int .i64 m.date, .string r.text, .int .i64 m.flags, .slice K m.keys.length kc, .string m.text]) (by simp [results, Tryd.results89, go_sem, q0, q1, q2, q3, q4, q5, q6]) rfl ?_
  exact ⟨_, _, rfl, own_far C1.out.rb HK1.out hWo, hWb⟩

set_option maxHeartbeats 2000000 in
set_option maxRecDepth 100000 in
theorem ch_mod {w : World} {base B : Nat} {m : Msg} {r : Row} {K J : Option Addr} {kc jc : Nat} (hb : base ≤ w.heap.size) (hk : w.ownsRow base 3 1 (.slice K m.keys.length kc) m.keys.length (m.keys.map (Value.int .i64))) (hj : IntsAt w B J r.msg.keys.length r.msg.keys) (hB : B ≤ w.heap.size) (h6 : r.msg.keys.length ≤ 1000000) (h5 : r.kind = 6) :
    Calls Tryd.prog 89 #[.agg #[.int .i64 m.uid, .int .i64 m.mod, .int .i64 m.date, .string m.id, .int .i64 m.flags, .slice K m.keys.length kc, .string m.text], .agg #[.int .i64 r.kind, .int .i64 r.uid, .int .i64 r.mod, .int .i64 r.msg.uid, .int .i64 r.msg.mod, .int .i64 r.msg.date, .string r.msg.id, .int .i64 r.msg.flags, .slice J r.msg.keys.length jc, .string r.msg.text, .string r.text]] w (ChPost ⟨m.uid, r.mod, m.date, m.id, m.flags, m.keys, m.text⟩ base w) := by
  have C0 := Lib.hid (CB.start w m r K J kc jc)
  have HJ := Lib.hid (IntsAt.below hj C0.out.bel hB)
  have HK := Lib.hid (own_block hk fun g e => C0.out.bel.block g (hk.lt g e).2)
  clear hj hk
  have H5 := Lib.hid h5
  clear h5
  go_enter Tryd.func89, Tryd.ntmps89
  go_upto_region 1 with fail
  generalize (World.alloc (World.alloc (World.alloc w _) _) _) = w1 at C0 HJ HK ⊢
  have hsz := C0.out.size
  obtain ⟨m0, m1, m2, m3, m4, m5, m6⟩ := C0.out.mb.facts
  obtain ⟨r0, r1, r2, r3, r4, r5, r6, r7, r8, r9, r10⟩ := C0.out.lb.facts
  rw [H5.out] at r0
  have f := C0.out.mb.free 1
  go_upto_region 9 with fail
  have C1 := Lib.hid (show CB w (w1.setCell { block := w.heap.size, off := 1 } (.int .i64 r.mod)) ⟨m.uid, r.mod, m.date, m.id, m.flags, m.keys, m.text⟩ r K J kc jc from C0.out.turn (by have := C0.out.mb; unfold MB at *; simp [World.setCell, Array.getElem?_modify, this]) (fun k hk => Below.heap_setCell _ _ _ _ (by show k ≠ w.heap.size; exact hk)) (C0.out.bel.setCell (Nat.le_refl _) _))
  have HK1 := Lib.hid (own_far C0.out.mb HK.out (fun k hk => Below.heap_setCell w1 { block := w.heap.size, off := 1 } (.int .i64 r.mod) k hk))
  clear f C0 HK HJ m0 m1 m2 m3 m4 m5 m6 r0 r1 r2 r3 r4 r5 r6 r7 r8 r9 r10
  generalize (World.setCell w1 _ _) = w2 at C1 HK1 ⊢
  obtain ⟨m0, m1, m2, m3, m4, m5, m6⟩ := C1.out.mb.facts
  obtain ⟨d0, d1, d2, d3, d4, d5, d6⟩ := C1.out.rb.facts
  have f0 := C1.out.rb.free 0
  have f1 := C1.out.rb.free 1
  have f2 := C1.out.rb.free 2
  have f3 := C1.out.rb.free 3
  have f4 := C1.out.rb.free 4
  have f5 := C1.out.rb.free 5
  have f6 := C1.out.rb.free 6
  go_wp2_with fail
  obtain ⟨W, hW, q0, q1, q2, q3, q4, q5, q6, hWb, hWo⟩ := C1.out.ret
  try (dsimp only at hW q0 q1 q2 q3 q4 q5 q6)
  rw [← hW]
  refine bodyPost_ret (v := .agg #[.int .i64 m.uid, .int .i64 r.mod, .int .i64 m.date, .string m.id, .int .i64 m.flags, .slice K m.keys.length kc, .string m.text]) (by simp [results, Tryd.results89, go_sem, q0, q1, q2, q3, q4, q5, q6]) rfl ?_
  exact ⟨_, _, rfl, own_far C1.out.rb HK1.out hWo, hWb⟩

set_option maxHeartbeats 2000000 in
set_option maxRecDepth 100000 in
theorem ch_cut {w : World} {base B : Nat} {m : Msg} {r : Row} {K J : Option Addr} {kc jc : Nat} (hb : base ≤ w.heap.size) (hk : w.ownsRow base 3 1 (.slice K m.keys.length kc) m.keys.length (m.keys.map (Value.int .i64))) (hj : IntsAt w B J r.msg.keys.length r.msg.keys) (hB : B ≤ w.heap.size) (h6 : r.msg.keys.length ≤ 1000000) (h5 : r.kind = 3) :
    Calls Tryd.prog 89 #[.agg #[.int .i64 m.uid, .int .i64 m.mod, .int .i64 m.date, .string m.id, .int .i64 m.flags, .slice K m.keys.length kc, .string m.text], .agg #[.int .i64 r.kind, .int .i64 r.uid, .int .i64 r.mod, .int .i64 r.msg.uid, .int .i64 r.msg.mod, .int .i64 r.msg.date, .string r.msg.id, .int .i64 r.msg.flags, .slice J r.msg.keys.length jc, .string r.msg.text, .string r.text]] w (ChPost ⟨m.uid, r.mod, m.date, m.id, m.flags, m.keys, m.text⟩ base w) := by
  have C0 := Lib.hid (CB.start w m r K J kc jc)
  have HJ := Lib.hid (IntsAt.below hj C0.out.bel hB)
  have HK := Lib.hid (own_block hk fun g e => C0.out.bel.block g (hk.lt g e).2)
  clear hj hk
  have H5 := Lib.hid h5
  clear h5
  go_enter Tryd.func89, Tryd.ntmps89
  go_upto_region 1 with fail
  generalize (World.alloc (World.alloc (World.alloc w _) _) _) = w1 at C0 HJ HK ⊢
  have hsz := C0.out.size
  obtain ⟨m0, m1, m2, m3, m4, m5, m6⟩ := C0.out.mb.facts
  obtain ⟨r0, r1, r2, r3, r4, r5, r6, r7, r8, r9, r10⟩ := C0.out.lb.facts
  rw [H5.out] at r0
  have f := C0.out.mb.free 1
  go_upto_region 9 with fail
  have C1 := Lib.hid (show CB w (w1.setCell { block := w.heap.size, off := 1 } (.int .i64 r.mod)) ⟨m.uid, r.mod, m.date, m.id, m.flags, m.keys, m.text⟩ r K J kc jc from C0.out.turn (by have := C0.out.mb; unfold MB at *; simp [World.setCell, Array.getElem?_modify, this]) (fun k hk => Below.heap_setCell _ _ _ _ (by show k ≠ w.heap.size; exact hk)) (C0.out.bel.setCell (Nat.le_refl _) _))
  have HK1 := Lib.hid (own_far C0.out.mb HK.out (fun k hk => Below.heap_setCell w1 { block := w.heap.size, off := 1 } (.int .i64 r.mod) k hk))
  clear f C0 HK HJ m0 m1 m2 m3 m4 m5 m6 r0 r1 r2 r3 r4 r5 r6 r7 r8 r9 r10
  generalize (World.setCell w1 _ _) = w2 at C1 HK1 ⊢
  obtain ⟨m0, m1, m2, m3, m4, m5, m6⟩ := C1.out.mb.facts
  obtain ⟨d0, d1, d2, d3, d4, d5, d6⟩ := C1.out.rb.facts
  have f0 := C1.out.rb.free 0
  have f1 := C1.out.rb.free 1
  have f2 := C1.out.rb.free 2
  have f3 := C1.out.rb.free 3
  have f4 := C1.out.rb.free 4
  have f5 := C1.out.rb.free 5
  have f6 := C1.out.rb.free 6
  go_wp2_with fail
  obtain ⟨W, hW, q0, q1, q2, q3, q4, q5, q6, hWb, hWo⟩ := C1.out.ret
  try (dsimp only at hW q0 q1 q2 q3 q4 q5 q6)
  rw [← hW]
  refine bodyPost_ret (v := .agg #[.int .i64 m.uid, .int .i64 r.mod, .int .i64 m.date, .string m.id, .int .i64 m.flags, .slice K m.keys.length kc, .string m.text]) (by simp [results, Tryd.results89, go_sem, q0, q1, q2, q3, q4, q5, q6]) rfl ?_
  exact ⟨_, _, rfl, own_far C1.out.rb HK1.out hWo, hWb⟩

set_option maxHeartbeats 2000000 in
set_option maxRecDepth 100000 in
theorem ch_flags {w : World} {base B : Nat} {m : Msg} {r : Row} {K J : Option Addr} {kc jc : Nat} (hb : base ≤ w.heap.size) (hk : w.ownsRow base 3 1 (.slice K m.keys.length kc) m.keys.length (m.keys.map (Value.int .i64))) (hj : IntsAt w B J r.msg.keys.length r.msg.keys) (hB : B ≤ w.heap.size) (h6 : r.msg.keys.length ≤ 1000000) (h5 : r.kind = 2) :
    Calls Tryd.prog 89 #[.agg #[.int .i64 m.uid, .int .i64 m.mod, .int .i64 m.date, .string m.id, .int .i64 m.flags, .slice K m.keys.length kc, .string m.text], .agg #[.int .i64 r.kind, .int .i64 r.uid, .int .i64 r.mod, .int .i64 r.msg.uid, .int .i64 r.msg.mod, .int .i64 r.msg.date, .string r.msg.id, .int .i64 r.msg.flags, .slice J r.msg.keys.length jc, .string r.msg.text, .string r.text]] w (ChPost ⟨m.uid, r.mod, m.date, m.id, r.msg.flags, r.msg.keys, m.text⟩ base w) := by
  have C0 := Lib.hid (CB.start w m r K J kc jc)
  have HJ := Lib.hid (IntsAt.below hj C0.out.bel hB)
  have HK := Lib.hid (own_block hk fun g e => C0.out.bel.block g (hk.lt g e).2)
  clear hj hk
  have H5 := Lib.hid h5
  clear h5
  go_enter Tryd.func89, Tryd.ntmps89
  go_upto_region 1 with fail
  generalize (World.alloc (World.alloc (World.alloc w _) _) _) = w1 at C0 HJ HK ⊢
  have hsz := C0.out.size
  obtain ⟨m0, m1, m2, m3, m4, m5, m6⟩ := C0.out.mb.facts
  obtain ⟨r0, r1, r2, r3, r4, r5, r6, r7, r8, r9, r10⟩ := C0.out.lb.facts
  rw [H5.out] at r0
  have KC := Lib.hid (fun (w' : World) (hb : Below w1.heap.size w1 w') => cloned_any (kc := jc) (IntsAt.below HJ.out hb (by omega)) h6)
  go_upto_region 3 with fail
  go_region_held3 (fun wr => wr.cell? { block := w.heap.size + 1, off := 2 } = some (.int .i64 r.mod) ∧ wr.cell? { block := w.heap.size + 1, off := 7 } = some (.int .i64 r.msg.flags) ∧ wr.cell? { block := w.heap.size + 1, off := 8 } = some (.slice J r.msg.keys.length jc))
    (first | exact ⟨r2, r7, r8⟩ | exact ⟨C3.out.lb.facts.2.2.1, C3.out.lb.facts.2.2.2.2.2.2.2.1, C3.out.lb.facts.2.2.2.2.2.2.2.2.1⟩ | go_keep) (first
    | (go_at_call 88
       ((with_reducible refine (KC.out _ ?d1).mono ?_); rotate_left)
       case d1 => first | exact Below.refl _ _ | exact (Below.refl _ _).drew | exact below_drewN (Below.refl _ _) _
       rintro e w3 ⟨A1, k1, rfl, hown, hbel⟩
       have C3 := Lib.hid (show CB w w3 m r K J kc jc by first | exact C0.out.go hbel | exact C0.out.drew.go hbel)
       have HO3 := Lib.hid hown
       clear hown hbel m0 m1 m2 m3 m4 m5 m6
       obtain ⟨m0, m1, m2, m3, m4, m5, m6⟩ := C3.out.mb.facts
       have f1 := C3.out.mb.free 1
       have f4 := C3.out.mb.free 4
       have f5 := C3.out.mb.free 5
       dsimp only))
  rename_i hHeld
  clear hHeld f1 f4 f5 KC m0 m1 m2 m3 m4 m5 m6 r0 r1 r2 r3 r4 r5 r6 r7 r8 r9 r10
  have C4 := Lib.hid (show CB w (((w3.setCell { block := w.heap.size, off := 4 } (.int .i64 r.msg.flags)).setCell { block := w.heap.size, off := 5 } (.slice A1 r.msg.keys.length k1)).setCell { block := w.heap.size, off := 1 } (.int .i64 r.mod)) ⟨m.uid, r.mod, m.date, m.id, r.msg.flags, r.msg.keys, m.text⟩ r A1 J k1 jc from
    C3.out.turn (by have := C3.out.mb; unfold MB at *; simp [World.setCell, Array.getElem?_modify, this]) (fun k hk => by iterate 3 rw [Below.heap_setCell _ _ _ _ (by show k ≠ w.heap.size; exact hk)]) (((C3.out.bel.setCell (Nat.le_refl _) _).setCell (Nat.le_refl _) _).setCell (Nat.le_refl _) _))
  have HO4 := Lib.hid (own_far C3.out.mb (own_base HO3.out (show base ≤ w1.drew.heap.size by show base ≤ w1.heap.size; omega)) (W := (((w3.setCell { block := w.heap.size, off := 4 } (.int .i64 r.msg.flags)).setCell { block := w.heap.size, off := 5 } (.slice A1 r.msg.keys.length k1)).setCell { block := w.heap.size, off := 1 } (.int .i64 r.mod))) (fun k hk => by iterate 3 rw [Below.heap_setCell _ _ _ _ (by show k ≠ w.heap.size; exact hk)]))
  clear C0 HK HJ C3 HO3
  generalize (World.setCell (World.setCell (World.setCell w3 _ _) _ _) _ _) = w4 at C4 HO4 ⊢
  go_upto_region 9 with fail
  obtain ⟨m0, m1, m2, m3, m4, m5, m6⟩ := C4.out.mb.facts
  obtain ⟨d0, d1, d2, d3, d4, d5, d6⟩ := C4.out.rb.facts
  have f0 := C4.out.rb.free 0
  have f1 := C4.out.rb.free 1
  have f2 := C4.out.rb.free 2
  have f3 := C4.out.rb.free 3
  have f4 := C4.out.rb.free 4
  have f5 := C4.out.rb.free 5
  have f6 := C4.out.rb.free 6
  go_wp2_with fail
  obtain ⟨W, hW, q0, q1, q2, q3, q4, q5, q6, hWb, hWo⟩ := C4.out.ret
  try (dsimp only at hW q0 q1 q2 q3 q4 q5 q6)
  rw [← hW]
  refine bodyPost_ret (v := .agg #[.int .i64 m.uid, .int .i64 r.mod, .int .i64 m.date, .string m.id, .int .i64 r.msg.flags, .slice A1 r.msg.keys.length k1, .string m.text]) (by simp [results, Tryd.results89, go_sem, q0, q1, q2, q3, q4, q5, q6]) rfl ?_
  exact ⟨_, _, rfl, own_far C4.out.rb HO4.out hWo, hWb⟩

theorem changed_any {w : World} {base B : Nat} {m : Msg} {r : Row} {K J : Option Addr} {kc jc : Nat} (hb : base ≤ w.heap.size) (hk : w.ownsRow base 3 1 (.slice K m.keys.length kc) m.keys.length (m.keys.map (Value.int .i64))) (hj : IntsAt w B J r.msg.keys.length r.msg.keys) (hB : B ≤ w.heap.size) (h6 : r.msg.keys.length ≤ 1000000) :
    Calls Tryd.prog 89 #[.agg #[.int .i64 m.uid, .int .i64 m.mod, .int .i64 m.date, .string m.id, .int .i64 m.flags, .slice K m.keys.length kc, .string m.text], .agg #[.int .i64 r.kind, .int .i64 r.uid, .int .i64 r.mod, .int .i64 r.msg.uid, .int .i64 r.msg.mod, .int .i64 r.msg.date, .string r.msg.id, .int .i64 r.msg.flags, .slice J r.msg.keys.length jc, .string r.msg.text, .string r.text]] w (ChPost (chM m r) base w) := by
  unfold chM
  by_cases h2 : r.kind = 2
  · rw [if_pos h2]
    exact ch_flags hb hk hj hB h6 h2
  rw [if_neg h2]
  by_cases h5 : r.kind = 5
  · rw [if_pos h5]
    exact ch_name hb hk hj hB h6 h5
  rw [if_neg h5]
  by_cases h66 : r.kind = 6
  · rw [if_pos (.inl h66)]
    exact ch_mod hb hk hj hB h6 h66
  by_cases h3 : r.kind = 3
  · rw [if_pos (.inr h3)]
    exact ch_cut hb hk hj hB h6 h3
  · rw [if_neg (by omega)]
    exact ch_none hb hk hj hB h6 h2 h5 h66 h3
end Go.Proofs.YtmkbmdoglcimbaaDoor.RwW4
