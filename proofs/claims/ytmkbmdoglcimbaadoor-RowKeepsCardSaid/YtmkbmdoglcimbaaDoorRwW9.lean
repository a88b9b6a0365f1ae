/-
  A row done to a box of the call's own, by its kind; all rows, one after the other.
-/
import Derived.Test.YtmkbmdoglcimbaaDoorRwW8
namespace Go.Proofs.YtmkbmdoglcimbaaDoor.RwW9
open Go.RowKit Go.Proofs.YtmkbmdoglcimbaaDoor.BxD Go.Proofs.YtmkbmdoglcimbaaDoor.BxKit Go.Proofs.YtmkbmdoglcimbaaDoor.BxA Go.Proofs.YtmkbmdoglcimbaaDoor.BxR Go.Proofs.YtmkbmdoglcimbaaDoor.BxC Go.Proofs.YtmkbmdoglcimbaaDoor.BxOp Go.Proofs.YtmkbmdoglcimbaaDoor.RwD Go.Proofs.YtmkbmdoglcimbaaDoor.RwKit Go.Proofs.YtmkbmdoglcimbaaDoor.RwOwn Go.Proofs.YtmkbmdoglcimbaaDoor.BxM Go.Proofs.YtmkbmdoglcimbaaDoor.RwW1 Go.Proofs.YtmkbmdoglcimbaaDoor.RwMb Go.Proofs.YtmkbmdoglcimbaaDoor.RwMc Go.Proofs.YtmkbmdoglcimbaaDoor.RwW2 Go.Proofs.YtmkbmdoglcimbaaDoor.RwW3 Go.Proofs.YtmkbmdoglcimbaaDoor.RwW8

/-- What a call told, and the room for the answer. -/
structure RB (w wr : World) (base R : Nat) (b : Box) (vw vm : Value) (rs : List Raw) : Prop where
  bel : Below base w wr
  hb : base ≤ w.heap.size
  hR : w.heap.size ≤ R
  res : wr.heap[R]? = some (.cells #[.string ⟨#[]⟩, .int .i64 0, .int .i64 0, .int .i64 0, .slice none 0 0, .slice none 0 0] 25 (0, 0))
  own : OB wr base b vw vm rs
  ty : ∀ (k : Nat) (cs : Array Value) (t : TypeId) (fr : Nat × Nat), w.heap[k]? = some (.cells cs t fr) → t ≠ 9 → t ≠ 28 → wr.heap[k]? = w.heap[k]?
section
variable {w wr w2 : World} {base P R : Nat} {b c : Box} {vw vm vw' vm' : Value} {rs rs' : List Raw}
theorem RB.ret (h : RB w wr base R b vw vm rs) (er : Int) : ∃ W, W = put6 wr R (.string b.id) (.int .i64 b.valid) (.int .i64 b.next) (.int .i64 b.high) vw vm ∧
    W.cell? { block := R, off := 0 } = some (.string b.id) ∧ W.cell? { block := R, off := 1 } = some (.int .i64 b.valid) ∧ W.cell? { block := R, off := 2 } = some (.int .i64 b.next) ∧ W.cell? { block := R, off := 3 } = some (.int .i64 b.high) ∧ W.cell? { block := R, off := 4 } = some vw ∧ W.cell? { block := R, off := 5 } = some vm ∧
    WO b er base w (.returned (.tuple #[.agg #[.string b.id, .int .i64 b.valid, .int .i64 b.next, .int .i64 b.high, vw, vm], .int .i64 er])) W := by
  refine ⟨_, rfl, ?_⟩
  have hR : (put6 wr R (.string b.id) (.int .i64 b.valid) (.int .i64 b.next) (.int .i64 b.high) vw vm).heap[R]? = some (.cells #[.string b.id, .int .i64 b.valid, .int .i64 b.next, .int .i64 b.high, vw, vm] 25 (0, 0)) := by
    unfold put6; simp [World.setCell, Array.getElem?_modify, h.res]
  obtain ⟨a0, a1, a2, a3, a4, a5, _⟩ := six_at hR
  have hbR : base ≤ R := Nat.le_trans h.hb h.hR
  refine ⟨a0, a1, a2, a3, a4, a5, vw, vm, rs, rfl, ?_, ?_, fun k cs t fr hk h1 h2 => (put6_other (by have := (Array.getElem?_eq_some_iff.1 hk).1; have := h.hR; omega) _ _ _ _ _ _).trans (h.ty k cs t fr hk h1 h2)⟩
  · have ne : ∀ {e sz n : Nat} {v : Value} {xs : List Value}, wr.ownsRow base e sz v n xs → e ≠ 25 → (put6 wr R (.string b.id) (.int .i64 b.valid) (.int .i64 b.next) (.int .i64 b.high) vw vm).ownsRow base e sz v n xs := fun hx he =>
      own_block hx fun g e => put6_other (fun e2 => own_ne_blk hx h.res he (by rw [← e2]; exact e)) _ _ _ _ _ _
    exact ⟨ne h.own.ow (by decide), ne h.own.om (by decide), h.own.rm, fun r hr => ne (h.own.ko r hr) (by decide)⟩
  · unfold put6
    exact (((((h.bel.setCell hbR _).setCell hbR _).setCell hbR _).setCell hbR _).setCell hbR _).setCell hbR _
theorem RB.of (h : SB w wr base P R b vw vm rs) (ob : OB w2 base c vw' vm' rs') (bel : Below base wr w2) (ty : ∀ (k : Nat) (cs : Array Value) (t : TypeId) (fr : Nat × Nat), wr.heap[k]? = some (.cells cs t fr) → t ≠ 9 → t ≠ 28 → w2.heap[k]? = wr.heap[k]?) : RB w w2 base R c vw' vm' rs' :=
  ⟨h.bel.trans bel, h.hb, h.hR, (ty _ _ _ _ h.res (by decide) (by decide)).trans h.res, ob, fun k cs t fr hk h1 h2 => (ty k cs t fr ((h.ty k cs t fr hk h1 h2).trans hk) h1 h2).trans (h.ty k cs t fr hk h1 h2)⟩
end
set_option maxHeartbeats 4000000 in
set_option maxRecDepth 100000 in
theorem with_msg {w : World} {base B : Nat} {b : Box} {vw vm : Value} {rs : List Raw} {r : Row} {J : Option Addr} {jc : Nat} (h : OB w base b vw vm rs) (hf : Fit b) (hb : base ≤ w.heap.size) (hj : IntsAt w B J r.msg.keys.length r.msg.keys) (hB : B ≤ w.heap.size) (h6 : r.msg.keys.length ≤ 1000000) (h0 : mbE b = 0) (hk : r.kind = 1) :
    Calls Tryd.prog 51 #[.agg #[.string b.id, .int .i64 b.valid, .int .i64 b.next, .int .i64 b.high, vw, vm], .agg #[.int .i64 r.kind, .int .i64 r.uid, .int .i64 r.mod, .int .i64 r.msg.uid, .int .i64 r.msg.mod, .int .i64 r.msg.date, .string r.msg.id, .int .i64 r.msg.flags, .slice J r.msg.keys.length jc, .string r.msg.text, .string r.text]] w (WO (either (msgE b r.msg) (msgB b r.msg)) (msgE b r.msg) base w) := by
  obtain ⟨WA, wc, MA, mcp, rfl, rfl, hwc, hmc⟩ := h.slices
  have X0 := Lib.hid (XB.start h hb r J jc)
  have HJ := Lib.hid (IntsAt.below hj X0.out.low hB)
  have HF := Lib.hid hf
  have H0 := Lib.hid h0
  have HKI := Lib.hid hk
  clear h hf hj h0 hk
  obtain ⟨C, hC⟩ : ∃ C, C = either (msgE b r.msg) (msgB b r.msg) := ⟨_, rfl⟩
  obtain ⟨E, hE⟩ : ∃ E, E = (msgE b r.msg) := ⟨_, rfl⟩
  have HC := Lib.hid hC
  have HE := Lib.hid hE
  rw [← hC, ← hE]
  clear hC hE
  go_enter Tryd.func51, Tryd.ntmps51
  go_upto_region 1 with fail
  generalize (World.alloc (World.alloc (World.alloc w _) _) _) = w1 at X0 HJ ⊢
  have hs1 := X0.out.size
  have kc := withMsg_any (kc := jc) (m := r.msg) X0.out.sb.own HF.out X0.out.sb.base_le HJ.out (by omega) h6
  rw [← HC.out, ← HE.out] at kc
  have KC := Lib.hid kc
  clear kc
  obtain ⟨c0, c1, c2, c3, c4, c5⟩ := X0.out.sb.facts
  obtain ⟨r0, r1, r2, r3, r4, r5, r6, r7, r8, r9, r10⟩ := X0.out.lb.facts
  rw [HKI.out] at r0
  go_upto_region 3 with fail
  go_wp2_with (go_at_call 70; go_loud (
               refine KC.out.mono ?_
               rintro e w2 ⟨vw2, vm2, rs2, rfl, ob, bel, ty⟩
               obtain ⟨WA2, wc2, MA2, mc2, rfl, rfl, _, _⟩ := ob.slices
               have R2 := Lib.hid (RB.of X0.out.sb ob bel ty)
               clear ob bel ty c0 c1 c2 c3 c4 c5 r0 r1 r2 r3 r4 r5 r6 r7 r8 r9 r10
               obtain ⟨d0, d1, d2, d3, d4, d5, f0, f1, f2, f3, f4, f5⟩ := six_at R2.out.res))
  obtain ⟨W, hW, q0, q1, q2, q3, q4, q5, hO⟩ := R2.out.ret E
  unfold put6 at hW
  rw [← hW]
  exact bodyPost_ret (v := .tuple #[.agg #[.string C.id, .int .i64 C.valid, .int .i64 C.next, .int .i64 C.high, .slice WA2 C.words.length wc2, .slice MA2 C.msgs.length mc2], .int .i64 E]) (by simp [results, Tryd.results51, go_sem, q0, q1, q2, q3, q4, q5]) rfl hO
set_option maxHeartbeats 4000000 in
set_option maxRecDepth 100000 in
theorem with_word {w : World} {base B : Nat} {b : Box} {vw vm : Value} {rs : List Raw} {r : Row} {J : Option Addr} {jc : Nat} (h : OB w base b vw vm rs) (hf : Fit b) (hb : base ≤ w.heap.size) (hj : IntsAt w B J r.msg.keys.length r.msg.keys) (hB : B ≤ w.heap.size) (h6 : r.msg.keys.length ≤ 1000000) (h0 : mbE b = 0) (hk : r.kind = 4) :
    Calls Tryd.prog 51 #[.agg #[.string b.id, .int .i64 b.valid, .int .i64 b.next, .int .i64 b.high, vw, vm], .agg #[.int .i64 r.kind, .int .i64 r.uid, .int .i64 r.mod, .int .i64 r.msg.uid, .int .i64 r.msg.mod, .int .i64 r.msg.date, .string r.msg.id, .int .i64 r.msg.flags, .slice J r.msg.keys.length jc, .string r.msg.text, .string r.text]] w (WO (either (wordE b r.text) (wordB b r.text)) (wordE b r.text) base w) := by
  obtain ⟨WA, wc, MA, mcp, rfl, rfl, hwc, hmc⟩ := h.slices
  have X0 := Lib.hid (XB.start h hb r J jc)
  have HJ := Lib.hid (IntsAt.below hj X0.out.low hB)
  have HF := Lib.hid hf
  have H0 := Lib.hid h0
  have HKI := Lib.hid hk
  clear h hf hj h0 hk
  obtain ⟨C, hC⟩ : ∃ C, C = either (wordE b r.text) (wordB b r.text) := ⟨_, rfl⟩
  obtain ⟨E, hE⟩ : ∃ E, E = (wordE b r.text) := ⟨_, rfl⟩
  have HC := Lib.hid hC
  have HE := Lib.hid hE
  rw [← hC, ← hE]
  clear hC hE
  go_enter Tryd.func51, Tryd.ntmps51
  go_upto_region 1 with fail
  generalize (World.alloc (World.alloc (World.alloc w _) _) _) = w1 at X0 HJ ⊢
  have hs1 := X0.out.size
  have kc := withWord_any (x := r.text) X0.out.sb.own HF.out X0.out.sb.base_le
  rw [← HC.out, ← HE.out] at kc
  have KC := Lib.hid kc
  clear kc
  obtain ⟨c0, c1, c2, c3, c4, c5⟩ := X0.out.sb.facts
  obtain ⟨r0, r1, r2, r3, r4, r5, r6, r7, r8, r9, r10⟩ := X0.out.lb.facts
  rw [HKI.out] at r0
  go_upto_region 2 with fail
  go_wp2_with (go_at_call 72; go_loud (
               refine KC.out.mono ?_
               rintro e w2 ⟨vw2, vm2, rs2, rfl, ob, bel, ty⟩
               obtain ⟨WA2, wc2, MA2, mc2, rfl, rfl, _, _⟩ := ob.slices
               have R2 := Lib.hid (RB.of X0.out.sb ob bel ty)
               clear ob bel ty c0 c1 c2 c3 c4 c5 r0 r1 r2 r3 r4 r5 r6 r7 r8 r9 r10
               obtain ⟨d0, d1, d2, d3, d4, d5, f0, f1, f2, f3, f4, f5⟩ := six_at R2.out.res))
  obtain ⟨W, hW, q0, q1, q2, q3, q4, q5, hO⟩ := R2.out.ret E
  unfold put6 at hW
  rw [← hW]
  exact bodyPost_ret (v := .tuple #[.agg #[.string C.id, .int .i64 C.valid, .int .i64 C.next, .int .i64 C.high, .slice WA2 C.words.length wc2, .slice MA2 C.msgs.length mc2], .int .i64 E]) (by simp [results, Tryd.results51, go_sem, q0, q1, q2, q3, q4, q5]) rfl hO
set_option maxHeartbeats 4000000 in
set_option maxRecDepth 100000 in
theorem with_high {w : World} {base B : Nat} {b : Box} {vw vm : Value} {rs : List Raw} {r : Row} {J : Option Addr} {jc : Nat} (h : OB w base b vw vm rs) (hf : Fit b) (hb : base ≤ w.heap.size) (hj : IntsAt w B J r.msg.keys.length r.msg.keys) (hB : B ≤ w.heap.size) (h6 : r.msg.keys.length ≤ 1000000) (h0 : mbE b = 0) (hk : r.kind = 7) :
    Calls Tryd.prog 51 #[.agg #[.string b.id, .int .i64 b.valid, .int .i64 b.next, .int .i64 b.high, vw, vm], .agg #[.int .i64 r.kind, .int .i64 r.uid, .int .i64 r.mod, .int .i64 r.msg.uid, .int .i64 r.msg.mod, .int .i64 r.msg.date, .string r.msg.id, .int .i64 r.msg.flags, .slice J r.msg.keys.length jc, .string r.msg.text, .string r.text]] w (WO (either (highE r.mod) (highB b r.mod)) (highE r.mod) base w) := by
  obtain ⟨WA, wc, MA, mcp, rfl, rfl, hwc, hmc⟩ := h.slices
  have X0 := Lib.hid (XB.start h hb r J jc)
  have HJ := Lib.hid (IntsAt.below hj X0.out.low hB)
  have HF := Lib.hid hf
  have H0 := Lib.hid h0
  have HKI := Lib.hid hk
  clear h hf hj h0 hk
  obtain ⟨C, hC⟩ : ∃ C, C = either (highE r.mod) (highB b r.mod) := ⟨_, rfl⟩
  obtain ⟨E, hE⟩ : ∃ E, E = (highE r.mod) := ⟨_, rfl⟩
  have HC := Lib.hid hC
  have HE := Lib.hid hE
  rw [← hC, ← hE]
  clear hC hE
  go_enter Tryd.func51, Tryd.ntmps51
  go_upto_region 1 with fail
  generalize (World.alloc (World.alloc (World.alloc w _) _) _) = w1 at X0 HJ ⊢
  have hs1 := X0.out.size
  have kc := withHigh_any (m := r.mod) X0.out.sb.own X0.out.sb.base_le
  rw [← HC.out, ← HE.out] at kc
  have KC := Lib.hid kc
  clear kc
  obtain ⟨c0, c1, c2, c3, c4, c5⟩ := X0.out.sb.facts
  obtain ⟨r0, r1, r2, r3, r4, r5, r6, r7, r8, r9, r10⟩ := X0.out.lb.facts
  rw [HKI.out] at r0
  go_upto_region 2 with fail
  go_wp2_with (go_at_call 73; go_loud (
               refine KC.out.mono ?_
               rintro e w2 ⟨vw2, vm2, rs2, rfl, ob, bel, ty⟩
               obtain ⟨WA2, wc2, MA2, mc2, rfl, rfl, _, _⟩ := ob.slices
               have R2 := Lib.hid (RB.of X0.out.sb ob bel ty)
               clear ob bel ty c0 c1 c2 c3 c4 c5 r0 r1 r2 r3 r4 r5 r6 r7 r8 r9 r10
               obtain ⟨d0, d1, d2, d3, d4, d5, f0, f1, f2, f3, f4, f5⟩ := six_at R2.out.res))
  obtain ⟨W, hW, q0, q1, q2, q3, q4, q5, hO⟩ := R2.out.ret E
  unfold put6 at hW
  rw [← hW]
  exact bodyPost_ret (v := .tuple #[.agg #[.string C.id, .int .i64 C.valid, .int .i64 C.next, .int .i64 C.high, .slice WA2 C.words.length wc2, .slice MA2 C.msgs.length mc2], .int .i64 E]) (by simp [results, Tryd.results51, go_sem, q0, q1, q2, q3, q4, q5]) rfl hO
set_option maxHeartbeats 4000000 in
set_option maxRecDepth 100000 in
theorem with_k2 {w : World} {base B : Nat} {b : Box} {vw vm : Value} {rs : List Raw} {r : Row} {J : Option Addr} {jc : Nat} (h : OB w base b vw vm rs) (hf : Fit b) (hb : base ≤ w.heap.size) (hj : IntsAt w B J r.msg.keys.length r.msg.keys) (hB : B ≤ w.heap.size) (h6 : r.msg.keys.length ≤ 1000000) (h0 : mbE b = 0) (hk : r.kind = 2) :
    Calls Tryd.prog 51 #[.agg #[.string b.id, .int .i64 b.valid, .int .i64 b.next, .int .i64 b.high, vw, vm], .agg #[.int .i64 r.kind, .int .i64 r.uid, .int .i64 r.mod, .int .i64 r.msg.uid, .int .i64 r.msg.mod, .int .i64 r.msg.date, .string r.msg.id, .int .i64 r.msg.flags, .slice J r.msg.keys.length jc, .string r.msg.text, .string r.text]] w (WO (either (apE b r) (apB b r)) (apE b r) base w) := by
  obtain ⟨WA, wc, MA, mcp, rfl, rfl, hwc, hmc⟩ := h.slices
  have X0 := Lib.hid (XB.start h hb r J jc)
  have HJ := Lib.hid (IntsAt.below hj X0.out.low hB)
  have HF := Lib.hid hf
  have H0 := Lib.hid h0
  have HKI := Lib.hid hk
  clear h hf hj h0 hk
  obtain ⟨C, hC⟩ : ∃ C, C = either (apE b r) (apB b r) := ⟨_, rfl⟩
  obtain ⟨E, hE⟩ : ∃ E, E = (apE b r) := ⟨_, rfl⟩
  have HC := Lib.hid hC
  have HE := Lib.hid hE
  rw [← hC, ← hE]
  clear hC hE
  go_enter Tryd.func51, Tryd.ntmps51
  go_upto_region 1 with fail
  generalize (World.alloc (World.alloc (World.alloc w _) _) _) = w1 at X0 HJ ⊢
  have hs1 := X0.out.size
  have kc := withChange_any (jc := jc) X0.out.sb.own HF.out X0.out.sb.base_le HJ.out (by omega) h6 H0.out (.inl HKI.out)
  rw [← HC.out, ← HE.out] at kc
  rw [HKI.out] at kc
  have KC := Lib.hid kc
  clear kc
  obtain ⟨c0, c1, c2, c3, c4, c5⟩ := X0.out.sb.facts
  obtain ⟨r0, r1, r2, r3, r4, r5, r6, r7, r8, r9, r10⟩ := X0.out.lb.facts
  rw [HKI.out] at r0
  go_upto_region 2 with fail
  go_wp2_with (go_at_call 71; go_loud (
               refine KC.out.mono ?_
               rintro e w2 ⟨vw2, vm2, rs2, rfl, ob, bel, ty⟩
               obtain ⟨WA2, wc2, MA2, mc2, rfl, rfl, _, _⟩ := ob.slices
               have R2 := Lib.hid (RB.of X0.out.sb ob bel ty)
               clear ob bel ty c0 c1 c2 c3 c4 c5 r0 r1 r2 r3 r4 r5 r6 r7 r8 r9 r10
               obtain ⟨d0, d1, d2, d3, d4, d5, f0, f1, f2, f3, f4, f5⟩ := six_at R2.out.res))
  obtain ⟨W, hW, q0, q1, q2, q3, q4, q5, hO⟩ := R2.out.ret E
  unfold put6 at hW
  rw [← hW]
  exact bodyPost_ret (v := .tuple #[.agg #[.string C.id, .int .i64 C.valid, .int .i64 C.next, .int .i64 C.high, .slice WA2 C.words.length wc2, .slice MA2 C.msgs.length mc2], .int .i64 E]) (by simp [results, Tryd.results51, go_sem, q0, q1, q2, q3, q4, q5]) rfl hO
set_option maxHeartbeats 4000000 in
set_option maxRecDepth 100000 in
theorem with_k3 {w : World} {base B : Nat} {b : Box} {vw vm : Value} {rs : List Raw} {r : Row} {J : Option Addr} {jc : Nat} (h : OB w base b vw vm rs) (hf : Fit b) (hb : base ≤ w.heap.size) (hj : IntsAt w B J r.msg.keys.length r.msg.keys) (hB : B ≤ w.heap.size) (h6 : r.msg.keys.length ≤ 1000000) (h0 : mbE b = 0) (hk : r.kind = 3) :
    Calls Tryd.prog 51 #[.agg #[.string b.id, .int .i64 b.valid, .int .i64 b.next, .int .i64 b.high, vw, vm], .agg #[.int .i64 r.kind, .int .i64 r.uid, .int .i64 r.mod, .int .i64 r.msg.uid, .int .i64 r.msg.mod, .int .i64 r.msg.date, .string r.msg.id, .int .i64 r.msg.flags, .slice J r.msg.keys.length jc, .string r.msg.text, .string r.text]] w (WO (either (apE b r) (apB b r)) (apE b r) base w) := by
  obtain ⟨WA, wc, MA, mcp, rfl, rfl, hwc, hmc⟩ := h.slices
  have X0 := Lib.hid (XB.start h hb r J jc)
  have HJ := Lib.hid (IntsAt.below hj X0.out.low hB)
  have HF := Lib.hid hf
  have H0 := Lib.hid h0
  have HKI := Lib.hid hk
  clear h hf hj h0 hk
  obtain ⟨C, hC⟩ : ∃ C, C = either (apE b r) (apB b r) := ⟨_, rfl⟩
  obtain ⟨E, hE⟩ : ∃ E, E = (apE b r) := ⟨_, rfl⟩
  have HC := Lib.hid hC
  have HE := Lib.hid hE
  rw [← hC, ← hE]
  clear hC hE
  go_enter Tryd.func51, Tryd.ntmps51
  go_upto_region 1 with fail
  generalize (World.alloc (World.alloc (World.alloc w _) _) _) = w1 at X0 HJ ⊢
  have hs1 := X0.out.size
  have kc := withChange_any (jc := jc) X0.out.sb.own HF.out X0.out.sb.base_le HJ.out (by omega) h6 H0.out (.inr (.inl HKI.out))
  rw [← HC.out, ← HE.out] at kc
  rw [HKI.out] at kc
  have KC := Lib.hid kc
  clear kc
  obtain ⟨c0, c1, c2, c3, c4, c5⟩ := X0.out.sb.facts
  obtain ⟨r0, r1, r2, r3, r4, r5, r6, r7, r8, r9, r10⟩ := X0.out.lb.facts
  rw [HKI.out] at r0
  go_upto_region 2 with fail
  go_wp2_with (go_at_call 71; go_loud (
               refine KC.out.mono ?_
               rintro e w2 ⟨vw2, vm2, rs2, rfl, ob, bel, ty⟩
               obtain ⟨WA2, wc2, MA2, mc2, rfl, rfl, _, _⟩ := ob.slices
               have R2 := Lib.hid (RB.of X0.out.sb ob bel ty)
               clear ob bel ty c0 c1 c2 c3 c4 c5 r0 r1 r2 r3 r4 r5 r6 r7 r8 r9 r10
               obtain ⟨d0, d1, d2, d3, d4, d5, f0, f1, f2, f3, f4, f5⟩ := six_at R2.out.res))
  obtain ⟨W, hW, q0, q1, q2, q3, q4, q5, hO⟩ := R2.out.ret E
  unfold put6 at hW
  rw [← hW]
  exact bodyPost_ret (v := .tuple #[.agg #[.string C.id, .int .i64 C.valid, .int .i64 C.next, .int .i64 C.high, .slice WA2 C.words.length wc2, .slice MA2 C.msgs.length mc2], .int .i64 E]) (by simp [results, Tryd.results51, go_sem, q0, q1, q2, q3, q4, q5]) rfl hO
set_option maxHeartbeats 4000000 in
set_option maxRecDepth 100000 in
theorem with_k5 {w : World} {base B : Nat} {b : Box} {vw vm : Value} {rs : List Raw} {r : Row} {J : Option Addr} {jc : Nat} (h : OB w base b vw vm rs) (hf : Fit b) (hb : base ≤ w.heap.size) (hj : IntsAt w B J r.msg.keys.length r.msg.keys) (hB : B ≤ w.heap.size) (h6 : r.msg.keys.length ≤ 1000000) (h0 : mbE b = 0) (hk : r.kind = 5) :
    Calls Tryd.prog 51 #[.agg #[.string b.id, .int .i64 b.valid, .int .i64 b.next, .int .i64 b.high, vw, vm], .agg #[.int .i64 r.kind, .int .i64 r.uid, .int .i64 r.mod, .int .i64 r.msg.uid, .int .i64 r.msg.mod, .int .i64 r.msg.date, .string r.msg.id, .int .i64 r.msg.flags, .slice J r.msg.keys.length jc, .string r.msg.text, .string r.text]] w (WO (either (apE b r) (apB b r)) (apE b r) base w) := by
  obtain ⟨WA, wc, MA, mcp, rfl, rfl, hwc, hmc⟩ := h.slices
  have X0 := Lib.hid (XB.start h hb r J jc)
  have HJ := Lib.hid (IntsAt.below hj X0.out.low hB)
  have HF := Lib.hid hf
  have H0 := Lib.hid h0
  have HKI := Lib.hid hk
  clear h hf hj h0 hk
  obtain ⟨C, hC⟩ : ∃ C, C = either (apE b r) (apB b r) := ⟨_, rfl⟩
  obtain ⟨E, hE⟩ : ∃ E, E = (apE b r) := ⟨_, rfl⟩
  have HC := Lib.hid hC
  have HE := Lib.hid hE
  rw [← hC, ← hE]
  clear hC hE
  go_enter Tryd.func51, Tryd.ntmps51
  go_upto_region 1 with fail
  generalize (World.alloc (World.alloc (World.alloc w _) _) _) = w1 at X0 HJ ⊢
  have hs1 := X0.out.size
  have kc := withChange_any (jc := jc) X0.out.sb.own HF.out X0.out.sb.base_le HJ.out (by omega) h6 H0.out (.inr (.inr (.inl HKI.out)))
  rw [← HC.out, ← HE.out] at kc
  rw [HKI.out] at kc
  have KC := Lib.hid kc
  clear kc
  obtain ⟨c0, c1, c2, c3, c4, c5⟩ := X0.out.sb.facts
  obtain ⟨r0, r1, r2, r3, r4, r5, r6, r7, r8, r9, r10⟩ := X0.out.lb.facts
  rw [HKI.out] at r0
  go_upto_region 2 with fail
  go_wp2_with (go_at_call 71; go_loud (
               refine KC.out.mono ?_
               rintro e w2 ⟨vw2, vm2, rs2, rfl, ob, bel, ty⟩
               obtain ⟨WA2, wc2, MA2, mc2, rfl, rfl, _, _⟩ := ob.slices
               have R2 := Lib.hid (RB.of X0.out.sb ob bel ty)
               clear ob bel ty c0 c1 c2 c3 c4 c5 r0 r1 r2 r3 r4 r5 r6 r7 r8 r9 r10
               obtain ⟨d0, d1, d2, d3, d4, d5, f0, f1, f2, f3, f4, f5⟩ := six_at R2.out.res))
  obtain ⟨W, hW, q0, q1, q2, q3, q4, q5, hO⟩ := R2.out.ret E
  unfold put6 at hW
  rw [← hW]
  exact bodyPost_ret (v := .tuple #[.agg #[.string C.id, .int .i64 C.valid, .int .i64 C.next, .int .i64 C.high, .slice WA2 C.words.length wc2, .slice MA2 C.msgs.length mc2], .int .i64 E]) (by simp [results, Tryd.results51, go_sem, q0, q1, q2, q3, q4, q5]) rfl hO
set_option maxHeartbeats 4000000 in
set_option maxRecDepth 100000 in
theorem with_k6 {w : World} {base B : Nat} {b : Box} {vw vm : Value} {rs : List Raw} {r : Row} {J : Option Addr} {jc : Nat} (h : OB w base b vw vm rs) (hf : Fit b) (hb : base ≤ w.heap.size) (hj : IntsAt w B J r.msg.keys.length r.msg.keys) (hB : B ≤ w.heap.size) (h6 : r.msg.keys.length ≤ 1000000) (h0 : mbE b = 0) (hk : r.kind = 6) :
    Calls Tryd.prog 51 #[.agg #[.string b.id, .int .i64 b.valid, .int .i64 b.next, .int .i64 b.high, vw, vm], .agg #[.int .i64 r.kind, .int .i64 r.uid, .int .i64 r.mod, .int .i64 r.msg.uid, .int .i64 r.msg.mod, .int .i64 r.msg.date, .string r.msg.id, .int .i64 r.msg.flags, .slice J r.msg.keys.length jc, .string r.msg.text, .string r.text]] w (WO (either (apE b r) (apB b r)) (apE b r) base w) := by
  obtain ⟨WA, wc, MA, mcp, rfl, rfl, hwc, hmc⟩ := h.slices
  have X0 := Lib.hid (XB.start h hb r J jc)
  have HJ := Lib.hid (IntsAt.below hj X0.out.low hB)
  have HF := Lib.hid hf
  have H0 := Lib.hid h0
  have HKI := Lib.hid hk
  clear h hf hj h0 hk
  obtain ⟨C, hC⟩ : ∃ C, C = either (apE b r) (apB b r) := ⟨_, rfl⟩
  obtain ⟨E, hE⟩ : ∃ E, E = (apE b r) := ⟨_, rfl⟩
  have HC := Lib.hid hC
  have HE := Lib.hid hE
  rw [← hC, ← hE]
  clear hC hE
  go_enter Tryd.func51, Tryd.ntmps51
  go_upto_region 1 with fail
  generalize (World.alloc (World.alloc (World.alloc w _) _) _) = w1 at X0 HJ ⊢
  have hs1 := X0.out.size
  have kc := withChange_any (jc := jc) X0.out.sb.own HF.out X0.out.sb.base_le HJ.out (by omega) h6 H0.out (.inr (.inr (.inr HKI.out)))
  rw [← HC.out, ← HE.out] at kc
  rw [HKI.out] at kc
  have KC := Lib.hid kc
  clear kc
  obtain ⟨c0, c1, c2, c3, c4, c5⟩ := X0.out.sb.facts
  obtain ⟨r0, r1, r2, r3, r4, r5, r6, r7, r8, r9, r10⟩ := X0.out.lb.facts
  rw [HKI.out] at r0
  go_upto_region 2 with fail
  go_wp2_with (go_at_call 71; go_loud (
               refine KC.out.mono ?_
               rintro e w2 ⟨vw2, vm2, rs2, rfl, ob, bel, ty⟩
               obtain ⟨WA2, wc2, MA2, mc2, rfl, rfl, _, _⟩ := ob.slices
               have R2 := Lib.hid (RB.of X0.out.sb ob bel ty)
               clear ob bel ty c0 c1 c2 c3 c4 c5 r0 r1 r2 r3 r4 r5 r6 r7 r8 r9 r10
               obtain ⟨d0, d1, d2, d3, d4, d5, f0, f1, f2, f3, f4, f5⟩ := six_at R2.out.res))
  obtain ⟨W, hW, q0, q1, q2, q3, q4, q5, hO⟩ := R2.out.ret E
  unfold put6 at hW
  rw [← hW]
  exact bodyPost_ret (v := .tuple #[.agg #[.string C.id, .int .i64 C.valid, .int .i64 C.next, .int .i64 C.high, .slice WA2 C.words.length wc2, .slice MA2 C.msgs.length mc2], .int .i64 E]) (by simp [results, Tryd.results51, go_sem, q0, q1, q2, q3, q4, q5]) rfl hO
set_option maxHeartbeats 4000000 in
set_option maxRecDepth 100000 in
theorem with_none {w : World} {base B : Nat} {b : Box} {vw vm : Value} {rs : List Raw} {r : Row} {J : Option Addr} {jc : Nat} (h : OB w base b vw vm rs) (hf : Fit b) (hb : base ≤ w.heap.size) (hj : IntsAt w B J r.msg.keys.length r.msg.keys) (hB : B ≤ w.heap.size) (h6 : r.msg.keys.length ≤ 1000000) (h1 : r.kind ≠ 1) (h2 : r.kind ≠ 2) (h3 : r.kind ≠ 3) (h4 : r.kind ≠ 4) (h5 : r.kind ≠ 5) (h66 : r.kind ≠ 6) (h7 : r.kind ≠ 7) :
    Calls Tryd.prog 51 #[.agg #[.string b.id, .int .i64 b.valid, .int .i64 b.next, .int .i64 b.high, vw, vm], .agg #[.int .i64 r.kind, .int .i64 r.uid, .int .i64 r.mod, .int .i64 r.msg.uid, .int .i64 r.msg.mod, .int .i64 r.msg.date, .string r.msg.id, .int .i64 r.msg.flags, .slice J r.msg.keys.length jc, .string r.msg.text, .string r.text]] w (WO noB 1 base w) := by
  obtain ⟨WA, wc, MA, mcp, rfl, rfl, hwc, hmc⟩ := h.slices
  have X0 := Lib.hid (XB.start h hb r J jc)
  clear h hf hj
  go_enter Tryd.func51, Tryd.ntmps51
  go_upto_region 1 with fail
  generalize (World.alloc (World.alloc (World.alloc w _) _) _) = w1 at X0 ⊢
  obtain ⟨c0, c1, c2, c3, c4, c5⟩ := X0.out.sb.facts
  obtain ⟨r0, r1, r2, r3, r4, r5, r6, r7, r8, r9, r10⟩ := X0.out.lb.facts
  obtain ⟨d0, d1, d2, d3, d4, d5, f0, f1, f2, f3, f4, f5⟩ := X0.out.sb.room
  go_wp2_with fail
  obtain ⟨W, hW, q0, q1, q2, q3, q4, q5, hO⟩ := X0.out.sb.err 1
  unfold put6 at hW
  rw [← hW]
  exact bodyPost_ret (v := .tuple #[.agg #[.string ⟨#[]⟩, .int .i64 0, .int .i64 0, .int .i64 0, .slice none 0 0, .slice none 0 0], .int .i64 1]) (by simp [results, Tryd.results51, go_sem, q0, q1, q2, q3, q4, q5]) rfl hO
theorem with_any {w : World} {base B : Nat} {b : Box} {vw vm : Value} {rs : List Raw} {r : Row} {J : Option Addr} {jc : Nat} (h : OB w base b vw vm rs) (hf : Fit b) (hb : base ≤ w.heap.size) (hj : IntsAt w B J r.msg.keys.length r.msg.keys) (hB : B ≤ w.heap.size) (h6 : r.msg.keys.length ≤ 1000000) (h0 : mbE b = 0) :
    Calls Tryd.prog 51 #[.agg #[.string b.id, .int .i64 b.valid, .int .i64 b.next, .int .i64 b.high, vw, vm], .agg #[.int .i64 r.kind, .int .i64 r.uid, .int .i64 r.mod, .int .i64 r.msg.uid, .int .i64 r.msg.mod, .int .i64 r.msg.date, .string r.msg.id, .int .i64 r.msg.flags, .slice J r.msg.keys.length jc, .string r.msg.text, .string r.text]] w (WO (either (apE b r) (apB b r)) (apE b r) base w) := by
  by_cases k1 : r.kind = 1
  · have e1 : apE b r = msgE b r.msg := by unfold apE msgE; rw [if_neg (by omega), if_pos k1]
    have e2 : apB b r = msgB b r.msg := by unfold apB msgB; rw [if_pos k1]
    rw [e1, e2]
    exact with_msg h hf hb hj hB h6 h0 k1
  by_cases k2 : r.kind = 2
  · exact with_k2 h hf hb hj hB h6 h0 k2
  by_cases k3 : r.kind = 3
  · exact with_k3 h hf hb hj hB h6 h0 k3
  by_cases k4 : r.kind = 4
  · have e1 : apE b r = wordE b r.text := by unfold apE wordE; rw [if_neg (by omega), if_neg k1, if_pos k4]
    have e2 : apB b r = wordB b r.text := by unfold apB wordB; rw [if_neg k1, if_pos k4]
    rw [e1, e2]
    exact with_word h hf hb hj hB h6 h0 k4
  by_cases k5 : r.kind = 5
  · exact with_k5 h hf hb hj hB h6 h0 k5
  by_cases k6 : r.kind = 6
  · exact with_k6 h hf hb hj hB h6 h0 k6
  by_cases k7 : r.kind = 7
  · have e1 : apE b r = highE r.mod := by unfold apE highE; rw [if_neg (by omega), if_neg k1, if_neg k4, if_pos k7]
    have e2 : apB b r = highB b r.mod := by unfold apB highB; rw [if_neg k1, if_neg k4, if_pos k7]
    rw [e1, e2]
    exact with_high h hf hb hj hB h6 h0 k7
  · have e1 : apE b r = 1 := by unfold apE; rw [if_neg (by omega), if_neg k1, if_neg k4, if_neg k7, if_neg (by omega)]
    rw [e1]
    unfold either
    rw [if_neg (by decide)]
    exact with_none h hf hb hj hB h6 k1 k2 k3 k4 k5 k6 k7
end Go.Proofs.YtmkbmdoglcimbaaDoor.RwW9
