/-
  A message of a box of the call's own changed, or gone.
-/
import Derived.Test.YtmkbmdoglcimbaaDoorRwMc
import Derived.Test.YtmkbmdoglcimbaaDoorRwW4
import Derived.Test.YtmkbmdoglcimbaaDoorBxF
import Derived.Test.YtmkbmdoglcimbaaDoorBxOp
namespace Go.Proofs.YtmkbmdoglcimbaaDoor.RwW5
open Go.RowKit Go.Proofs.YtmkbmdoglcimbaaDoor.BxD Go.Proofs.YtmkbmdoglcimbaaDoor.BxKit Go.Proofs.YtmkbmdoglcimbaaDoor.BxA Go.Proofs.YtmkbmdoglcimbaaDoor.BxR Go.Proofs.YtmkbmdoglcimbaaDoor.BxC Go.Proofs.YtmkbmdoglcimbaaDoor.RwD Go.Proofs.YtmkbmdoglcimbaaDoor.RwKit Go.Proofs.YtmkbmdoglcimbaaDoor.RwOwn Go.Proofs.YtmkbmdoglcimbaaDoor.RwDel Go.Proofs.YtmkbmdoglcimbaaDoor.BxF Go.Proofs.YtmkbmdoglcimbaaDoor.BxM Go.Proofs.YtmkbmdoglcimbaaDoor.BxOp Go.Proofs.YtmkbmdoglcimbaaDoor.RwW1 Go.Proofs.YtmkbmdoglcimbaaDoor.RwMb Go.Proofs.YtmkbmdoglcimbaaDoor.RwMc Go.Proofs.YtmkbmdoglcimbaaDoor.RwW4

theorem chM_keys {m : Msg} {r : Row} (h : m.keys.length ≤ 60000) (h6 : r.msg.keys.length ≤ 1000000) : (chM m r).keys.length ≤ 1000000 := by
  unfold chM
  split
  · exact h6
  · split
    · show m.keys.length ≤ 1000000; omega
    · split
      · show m.keys.length ≤ 1000000; omega
      · omega
/-- A row of raw messages less one, or with one turned, keeps its keys' rows. -/
theorem less_keys {w : World} {base k : Nat} {rs : List Raw} : ∀ r ∈ rs.take k ++ rs.drop (k + 1), r ∈ rs ∨ w.ownsRow base 3 1 (.slice r.K r.m.keys.length r.c) r.m.keys.length (r.m.keys.map (Value.int .i64)) := fun r hr => by
  rcases List.mem_append.1 hr with hr | hr
  · exact .inl (List.mem_of_mem_take hr)
  · exact .inl (List.mem_of_mem_drop hr)
theorem set_keys {w : World} {base k : Nat} {rs : List Raw} {q : Raw} (h : w.ownsRow base 3 1 (.slice q.K q.m.keys.length q.c) q.m.keys.length (q.m.keys.map (Value.int .i64))) :
    ∀ r ∈ rs.set k q, r ∈ rs ∨ w.ownsRow base 3 1 (.slice r.K r.m.keys.length r.c) r.m.keys.length (r.m.keys.map (Value.int .i64)) := fun r hr => by
  rcases List.mem_or_eq_of_mem_set hr with hr | rfl
  · exact .inl hr
  · exact .inr h
/-- The message's block beside the rest. -/
theorem mb_new (w : World) (m : Msg) (K : Option Addr) (c : Nat) : MB (w.alloc (.cells #[.int .i64 m.uid, .int .i64 m.mod, .int .i64 m.date, .string m.id, .int .i64 m.flags, .slice K m.keys.length c, .string m.text] 28)) w.heap.size m K c := heap_alloc_new w _
set_option maxHeartbeats 4000000 in
set_option maxRecDepth 100000 in
theorem change_none {w : World} {base B : Nat} {b : Box} {vw vm : Value} {rs : List Raw} {r : Row} {J : Option Addr} {jc : Nat} (h : OB w base b vw vm rs) (hf : Fit b) (hb : base ≤ w.heap.size) (hj : IntsAt w B J r.msg.keys.length r.msg.keys) (hB : B ≤ w.heap.size) (h6 : r.msg.keys.length ≤ 1000000) (hfi : findI b.msgs r.uid = -1) :
    Calls Tryd.prog 71 #[.agg #[.string b.id, .int .i64 b.valid, .int .i64 b.next, .int .i64 b.high, vw, vm], .agg #[.int .i64 r.kind, .int .i64 r.uid, .int .i64 r.mod, .int .i64 r.msg.uid, .int .i64 r.msg.mod, .int .i64 r.msg.date, .string r.msg.id, .int .i64 r.msg.flags, .slice J r.msg.keys.length jc, .string r.msg.text, .string r.text]] w (WO noB 6 base w) := by
  obtain ⟨WA, wc, MA, mcp, rfl, rfl, hwc, hmc⟩ := h.slices
  have X0 := Lib.hid (XB.start h hb r J jc)
  have HJ := Lib.hid (IntsAt.below hj X0.out.low hB)
  have HF := Lib.hid hf
  have hwl := hf.wl
  have hml := hf.ml
  clear h hf hj
  have HFI := Lib.hid hfi
  clear hfi
  go_enter Tryd.func71, Tryd.ntmps71
  go_upto_region 1 with fail
  generalize (World.alloc (World.alloc (World.alloc w _) _) _) = w1 at X0 HJ ⊢
  have kf := find_any (bid := b.id) (bv := b.valid) (bn := b.next) (bh := b.high) (WA := WA) (wn := b.words.length) (wc := wc) (mc := mcp) (uid := r.uid) (X0.out.sb.own.at_ HF.out (B := w1.heap.size) (fun _ _ h => h)).2 (Nat.le_refl _)
  rw [HFI.out] at kf
  have KF := Lib.hid kf
  clear kf
  obtain ⟨c0, c1, c2, c3, c4, c5⟩ := X0.out.sb.facts
  obtain ⟨r0, r1, r2, r3, r4, r5, r6, r7, r8, r9, r10⟩ := X0.out.lb.facts
  go_upto_region 2 with (go_at_call 24; refine KF.out.mono ?_; rintro e w2 ⟨rfl, hb2⟩)
  have X1 := Lib.hid (X0.out.go hb2)
  have HJ1 := Lib.hid (IntsAt.below HJ.out hb2 (by have := X0.out.size; omega))
  clear hb2 X0 HJ KF c0 c1 c2 c3 c4 c5 r0 r1 r2 r3 r4 r5 r6 r7 r8 r9 r10
  obtain ⟨d0, d1, d2, d3, d4, d5, f0, f1, f2, f3, f4, f5⟩ := X1.out.sb.room
  go_wp2_with fail
  obtain ⟨W, hW, q0, q1, q2, q3, q4, q5, hO⟩ := X1.out.sb.err 6
  unfold put6 at hW
  rw [← hW]
  exact bodyPost_ret (v := .tuple #[.agg #[.string ⟨#[]⟩, .int .i64 0, .int .i64 0, .int .i64 0, .slice none 0 0, .slice none 0 0], .int .i64 6]) (by simp [results, Tryd.results71, go_sem, q0, q1, q2, q3, q4, q5]) rfl hO

set_option maxHeartbeats 4000000 in
set_option maxRecDepth 100000 in
theorem change_bad {w : World} {base B : Nat} {b : Box} {vw vm : Value} {rs : List Raw} {r : Row} {J : Option Addr} {jc : Nat} (h : OB w base b vw vm rs) (hf : Fit b) (hb : base ≤ w.heap.size) (hj : IntsAt w B J r.msg.keys.length r.msg.keys) (hB : B ≤ w.heap.size) (h6 : r.msg.keys.length ≤ 1000000) {k : Nat} {q : Raw} (hfi : findI b.msgs r.uid = (k : Int)) (hr : rs[k]? = some q) (hmm : mmB b.words.length (chM q.m r) = false) :
    Calls Tryd.prog 71 #[.agg #[.string b.id, .int .i64 b.valid, .int .i64 b.next, .int .i64 b.high, vw, vm], .agg #[.int .i64 r.kind, .int .i64 r.uid, .int .i64 r.mod, .int .i64 r.msg.uid, .int .i64 r.msg.mod, .int .i64 r.msg.date, .string r.msg.id, .int .i64 r.msg.flags, .slice J r.msg.keys.length jc, .string r.msg.text, .string r.text]] w (WO noB 1 base w) := by
  obtain ⟨WA, wc, MA, mcp, rfl, rfl, hwc, hmc⟩ := h.slices
  have X0 := Lib.hid (XB.start h hb r J jc)
  have HJ := Lib.hid (IntsAt.below hj X0.out.low hB)
  have HF := Lib.hid hf
  have hwl := hf.wl
  have hml := hf.ml
  clear h hf hj
  have HFI := Lib.hid hfi
  have HR := Lib.hid hr
  obtain ⟨m', hm'⟩ : ∃ m', m' = chM q.m r := ⟨_, rfl⟩
  rw [← hm'] at hmm
  have HM' := Lib.hid hm'
  have HMM := Lib.hid hmm
  have h6' : m'.keys.length ≤ 1000000 := by rw [hm']; exact chM_keys (HF.out.ms q.m (by rw [← X0.out.sb.own.rm]; exact List.mem_map_of_mem (List.mem_of_getElem? hr))).1 h6
  clear hfi hr hmm hm'
  go_enter Tryd.func71, Tryd.ntmps71
  go_upto_region 1 with fail
  generalize (World.alloc (World.alloc (World.alloc w _) _) _) = w1 at X0 HJ ⊢
  have kf := find_any (bid := b.id) (bv := b.valid) (bn := b.next) (bh := b.high) (WA := WA) (wn := b.words.length) (wc := wc) (mc := mcp) (uid := r.uid) (X0.out.sb.own.at_ HF.out (B := w1.heap.size) (fun _ _ h => h)).2 (Nat.le_refl _)
  rw [HFI.out] at kf
  have KF := Lib.hid kf
  clear kf
  obtain ⟨c0, c1, c2, c3, c4, c5⟩ := X0.out.sb.facts
  obtain ⟨r0, r1, r2, r3, r4, r5, r6, r7, r8, r9, r10⟩ := X0.out.lb.facts
  go_upto_region 2 with (go_at_call 24; refine KF.out.mono ?_; rintro e w2 ⟨rfl, hb2⟩)
  have X1 := Lib.hid (X0.out.go hb2)
  have HJ1 := Lib.hid (IntsAt.below HJ.out hb2 (by have := X0.out.size; omega))
  clear hb2 X0 HJ KF c0 c1 c2 c3 c4 c5 r0 r1 r2 r3 r4 r5 r6 r7 r8 r9 r10
  have hk1 : k < b.msgs.length := by rw [← X1.out.sb.own.rl]; exact (List.getElem?_eq_some_iff.1 HR.out).1
  obtain ⟨g, cap, hv, hg1, hg2⟩ := own_form X1.out.sb.own.om (by omega)
  injection hv with hv1 hv2 hv3
  subst hv1 hv3
  have hs1 := X1.out.size
  have hBB : B ≤ w2.heap.size := by omega
  have hs3 : w.heap.size + 3 ≤ w2.heap.size := by omega
  have hgne : (Value.slice (some ⟨g, 0, none⟩) b.msgs.length mcp).ownBlock ≠ some w2.heap.size := fun e => by have e2 : g = w2.heap.size := Option.some.inj e; omega
  have hgW : ∀ w3 : World, w2.heap.size ≤ w3.heap.size → (Value.slice (some ⟨g, 0, none⟩) b.msgs.length mcp).ownBlock ≠ some w3.heap.size := fun w3 h3 e => by have e2 : g = w3.heap.size := Option.some.inj e; omega
  have KC := Lib.hid (fun (w' : World) (X : XB w w' base b (.slice WA b.words.length wc) (.slice (some ⟨g, 0, none⟩) b.msgs.length mcp) rs r J jc) (hJ : IntsAt w' B J r.msg.keys.length r.msg.keys) (hh : B ≤ w'.heap.size) => changed_any (base := base) (kc := q.c) (jc := jc) (m := q.m) (r := r) X.sb.base_le (X.sb.own.ko q (List.mem_of_getElem? HR.out)) hJ hh h6)
  rw [← HM'.out] at KC
  have xXS1 := X1.out.xs rfl HR.out
  unfold XS at xXS1
  have XS1 := Lib.hid xXS1
  have X2 := Lib.hid (X1.out.alloc (.cells #[.int .i64 0, .int .i64 0, .int .i64 0, .string ⟨#[]⟩, .int .i64 0, .slice none 0 0, .string ⟨#[]⟩] 28))
  have xXS2 := X2.out.xs rfl HR.out
  unfold XS at xXS2
  have XS2 := Lib.hid xXS2
  have xXSd := X2.out.drew.xs rfl HR.out
  unfold XS at xXSd
  have XSd := Lib.hid xXSd
  have Z2 := Lib.hid (mb_new w2 noM none 0)
  go_upto_region 4 with fail
  go_region_held3 (fun wr => wr.cell? { block := w.heap.size, off := 5 } = some (.slice (some { block := g, off := 0 }) b.msgs.length mcp) ∧ wr.cell? { block := g, off := k * 7 } = some (.int .i64 q.m.uid) ∧ wr.cell? { block := g, off := k * 7 + 1 } = some (.int .i64 q.m.mod) ∧ wr.cell? { block := g, off := k * 7 + 2 } = some (.int .i64 q.m.date) ∧ wr.cell? { block := g, off := k * 7 + 3 } = some (.string q.m.id) ∧ wr.cell? { block := g, off := k * 7 + 4 } = some (.int .i64 q.m.flags) ∧ wr.cell? { block := g, off := k * 7 + 5 } = some (.slice q.K q.m.keys.length q.c) ∧ wr.cell? { block := g, off := k * 7 + 6 } = some (.string q.m.text) ∧ wr.cell? { block := w.heap.size + 1, off := 0 } = some (.int .i64 r.kind) ∧ wr.cell? { block := w.heap.size + 1, off := 1 } = some (.int .i64 r.uid) ∧ wr.cell? { block := w.heap.size + 1, off := 2 } = some (.int .i64 r.mod) ∧ wr.cell? { block := w.heap.size + 1, off := 3 } = some (.int .i64 r.msg.uid) ∧ wr.cell? { block := w.heap.size + 1, off := 4 } = some (.int .i64 r.msg.mod) ∧ wr.cell? { block := w.heap.size + 1, off := 5 } = some (.int .i64 r.msg.date) ∧ wr.cell? { block := w.heap.size + 1, off := 6 } = some (.string r.msg.id) ∧ wr.cell? { block := w.heap.size + 1, off := 7 } = some (.int .i64 r.msg.flags) ∧ wr.cell? { block := w.heap.size + 1, off := 8 } = some (.slice J r.msg.keys.length jc) ∧ wr.cell? { block := w.heap.size + 1, off := 9 } = some (.string r.msg.text) ∧ wr.cell? { block := w.heap.size + 1, off := 10 } = some (.string r.text))
    (with_reducible first | exact XS1.out | exact XS2.out | exact XSd.out | exact XS3.out | exact XS4.out | exact XS5.out | go_keep) (first
    | (go_at_call 89
       ((with_reducible refine (KC.out _ ?d1 ?d2 ?d3).mono ?_); rotate_left)
       case d1 => first | exact X1.out | exact X1.out.drew | exact X2.out | exact X2.out.drew
       case d2 => first | exact HJ1.out | exact IntsAt.below HJ1.out (Below.drew (Below.refl _ _)) (by omega) | exact IntsAt.below HJ1.out ((Below.refl _ _).alloc (Nat.le_refl _) _) (by omega) | exact IntsAt.below HJ1.out (Below.drew ((Below.refl _ _).alloc (Nat.le_refl _) _)) (by omega)
       case d3 => first | exact hBB | (simp; omega)
       rintro e w3 ⟨A1, k1, rfl, hown, hbel⟩
       first
       | (have X3 := Lib.hid (show XB w w3 base b (.slice WA b.words.length wc) (.slice (some ⟨g, 0, none⟩) b.msgs.length mcp) rs r J jc by first | exact X1.out.go hbel | exact X1.out.drew.go hbel)
          have Z3 := Lib.hid True.intro
          have xXS5 := True.intro
          have XS5 := Lib.hid True.intro)
       | (have X3 := Lib.hid (show XB w w3 base b (.slice WA b.words.length wc) (.slice (some ⟨g, 0, none⟩) b.msgs.length mcp) rs r J jc by first | exact X2.out.go hbel | exact X2.out.drew.go hbel)
          have Z3 := Lib.hid (show MB w3 w2.heap.size noM none 0 by first | exact Z2.out.go hbel | exact Z2.out.drew.go hbel)
          obtain ⟨z0, z1, z2, z3, z4, z5, z6⟩ := Z3.out.facts
          have zf0 := Z3.out.free 0
          have zf1 := Z3.out.free 1
          have zf2 := Z3.out.free 2
          have zf3 := Z3.out.free 3
          have zf4 := Z3.out.free 4
          have zf5 := Z3.out.free 5
          have zf6 := Z3.out.free 6
          have xXS5 := (X3.out.fill Z3.out hs3 hgne ⟨m', A1, k1⟩).xs rfl HR.out
          unfold XS fill7 at xXS5
          dsimp only at xXS5
          have XS5 := Lib.hid xXS5
          clear xXS5)
       have xXS3 := X3.out.xs rfl HR.out
       unfold XS at xXS3
       have XS3 := Lib.hid xXS3
       have XS4 := Lib.hid ((X3.out.alloc (.cells #[.int .i64 m'.uid, .int .i64 m'.mod, .int .i64 m'.date, .string m'.id, .int .i64 m'.flags, .slice A1 m'.keys.length k1, .string m'.text] 28)).xs rfl HR.out)
       have HO3 := Lib.hid hown
       clear hown hbel
       dsimp only))
  all_goals
    clear XS1 XS2 XSd XS3 XS4 XS5 xXS1 xXS2 xXSd xXS3
    try clear xXS5
    have KK := Lib.hid True.intro
    rename_i hHeld
    clear hHeld
    first
    | (have X5 := Lib.hid (X3.out.alloc (.cells #[.int .i64 m'.uid, .int .i64 m'.mod, .int .i64 m'.date, .string m'.id, .int .i64 m'.flags, .slice A1 m'.keys.length k1, .string m'.text] 28))
       have M5 := Lib.hid (mb_new w3 m' A1 k1)
       have HO5 := Lib.hid (HO3.out.alloc (.cells #[.int .i64 m'.uid, .int .i64 m'.mod, .int .i64 m'.date, .string m'.id, .int .i64 m'.flags, .slice A1 m'.keys.length k1, .string m'.text] 28))
       have N5 := Lib.hid (show (Value.slice (some ⟨g, 0, none⟩) b.msgs.length mcp).ownBlock ≠ some w3.heap.size from fun e => by have e2 : g = w3.heap.size := Option.some.inj e; have := (X3.out.sb.own.om.lt g rfl).2; omega)
       have hQ3 : w.heap.size + 3 ≤ w3.heap.size := X3.out.size
       obtain ⟨Q, hQ⟩ : ∃ Q, Q = w3.heap.size := ⟨_, rfl⟩
       rw [← hQ] at M5 N5 hQ3 ⊢
       clear hQ
       generalize (World.alloc w3 _) = w4 at X5 M5 HO5 ⊢)
    | (have x5 := X3.out.fill Z3.out hs3 hgne ⟨m', A1, k1⟩
       have m5 := fill7_mb Z3.out ⟨m', A1, k1⟩
       have o5 := own_far (W := fill7 w3 w2.heap.size ⟨m', A1, k1⟩) Z3.out HO3.out (fun k hk => fill7_other hk _)
       unfold fill7 at x5 m5 o5
       dsimp only at x5 m5 o5
       have X5 := Lib.hid x5
       have M5 := Lib.hid m5
       have HO5 := Lib.hid o5
       have N5 := Lib.hid hgne
       clear x5 m5 o5
       have hQ3 : w.heap.size + 3 ≤ w2.heap.size := hs3
       obtain ⟨Q, hQ⟩ : ∃ Q, Q = w2.heap.size := ⟨_, rfl⟩
       rw [← hQ] at X5 M5 HO5 N5 hQ3 ⊢
       clear hQ
       generalize (World.setCell (World.setCell (World.setCell (World.setCell (World.setCell (World.setCell (World.setCell w3 _ _) _ _) _ _) _ _) _ _) _ _) _ _) = w4 at X5 M5 HO5 ⊢)
    clear X3 Z3 HO3 X2 Z2 X1 HJ1 KC
    have km := mayMsg_cells (bid := b.id) (bv := b.valid) (bn := b.next) (bh := b.high) (WA := WA) (wc := wc) (MA := some ⟨g, 0, none⟩) (mn := b.msgs.length) (mc := mcp) (id := m'.id) (tx := m'.text) (u := m'.uid) (md := m'.mod) (d := m'.date) (fl := m'.flags) (kc := k1) (intsAt_ownB HO5.out (B := w4.heap.size) (fun g e => (HO5.out.lt g e).2) (by omega)) (Nat.le_refl _) (show b.words.length ≤ 140737488355328 by omega)
    rw [show mmE b.words.length ⟨m'.uid, m'.mod, m'.date, m'.id, m'.flags, m'.keys, m'.text⟩ = 1 from mmE_false HMM.out] at km
    have KM := Lib.hid km
    clear km
    obtain ⟨c0, c1, c2, c3, c4, c5⟩ := X5.out.sb.facts
    obtain ⟨m0, m1, m2, m3, m4, m5, m6⟩ := M5.out.facts
    go_upto_region 6 with (go_at_call 35; refine KM.out.mono ?_; rintro e w5 ⟨rfl, hb5⟩)
    have X6 := Lib.hid (X5.out.go hb5)
    have M6 := Lib.hid (M5.out.go hb5)
    have HO6 := Lib.hid (own_block HO5.out fun g e => hb5.block g (HO5.out.lt g e).2)
    clear hb5 X5 M5 HO5 KM c0 c1 c2 c3 c4 c5 m0 m1 m2 m3 m4 m5 m6
    obtain ⟨d0, d1, d2, d3, d4, d5, f0, f1, f2, f3, f4, f5⟩ := X6.out.sb.room
    go_wp2_with fail
    obtain ⟨W, hW, q0, q1, q2, q3, q4, q5, hO⟩ := X6.out.sb.err 1
    unfold put6 at hW
    rw [← hW]
    exact bodyPost_ret (v := .tuple #[.agg #[.string ⟨#[]⟩, .int .i64 0, .int .i64 0, .int .i64 0, .slice none 0 0, .slice none 0 0], .int .i64 1]) (by simp [results, Tryd.results71, go_sem, q0, q1, q2, q3, q4, q5]) rfl hO

end Go.Proofs.YtmkbmdoglcimbaaDoor.RwW5
