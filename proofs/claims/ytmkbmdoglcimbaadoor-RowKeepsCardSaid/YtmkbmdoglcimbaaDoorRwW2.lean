/-
  A word more done to a box of the call's own.
-/
import Derived.Test.YtmkbmdoglcimbaaDoorRwW1
namespace Go.Proofs.YtmkbmdoglcimbaaDoor.RwW2
open Go.RowKit Go.Proofs.YtmkbmdoglcimbaaDoor.BxD Go.Proofs.YtmkbmdoglcimbaaDoor.BxKit Go.Proofs.YtmkbmdoglcimbaaDoor.BxA Go.Proofs.YtmkbmdoglcimbaaDoor.BxR Go.Proofs.YtmkbmdoglcimbaaDoor.BxC Go.Proofs.YtmkbmdoglcimbaaDoor.RwD Go.Proofs.YtmkbmdoglcimbaaDoor.RwKit Go.Proofs.YtmkbmdoglcimbaaDoor.RwOwn Go.Proofs.YtmkbmdoglcimbaaDoor.BxAtom Go.Proofs.YtmkbmdoglcimbaaDoor.RwW1

set_option maxHeartbeats 2000000 in
set_option maxRecDepth 100000 in
theorem word_bad {w : World} {base : Nat} {b : Box} {vw vm : Value} {rs : List Raw} {x : ByteArray} (h : OB w base b vw vm rs) (hf : Fit b) (hb : base ≤ w.heap.size) (ha : atB x = false) :
    Calls Tryd.prog 72 #[.agg #[.string b.id, .int .i64 b.valid, .int .i64 b.next, .int .i64 b.high, vw, vm], .string x] w (WO noB 1 base w) := by
  obtain ⟨WA, wc, MA, mcp, rfl, rfl, hwc, hmc⟩ := h.slices
  have P0 := Lib.hid (SB.start h hb)
  have HF := Lib.hid hf
  have hwl := hf.wl
  have C := fun w => may_any x w
  have KD0 := Lib.hid (fun (w1 : World) (P : SB w w1 base w.heap.size (w.heap.size + 1) b (.slice WA b.words.length wc) (.slice MA b.msgs.length mcp) rs) => contains_any (cp := wc) x (P.own.at_ hf (B := w1.heap.size) (fun _ _ h => h)).1)
  clear h hf
  rw [ha] at C
  have KC := Lib.hid C
  clear C ha
  go_enter Tryd.func72, Tryd.ntmps72
  go_upto_region 1 with fail
  generalize (World.alloc (World.alloc w _) _) = w1 at P0 ⊢
  obtain ⟨c0, c1, c2, c3, c4, c5⟩ := P0.out.facts
  obtain ⟨d0, d1, d2, d3, d4, d5, f0, f1, f2, f3, f4, f5⟩ := P0.out.room
  go_wp2_with (go_at_call 84; refine (KC.out _).mono ?_; rintro e w' ⟨rfl, rfl⟩)
  obtain ⟨W, hW, q0, q1, q2, q3, q4, q5, hO⟩ := P0.out.err 1
  unfold put6 at hW
  rw [← hW]
  exact bodyPost_ret (v := .tuple #[.agg #[.string ⟨#[]⟩, .int .i64 0, .int .i64 0, .int .i64 0, .slice none 0 0, .slice none 0 0], .int .i64 1]) (by simp [results, Tryd.results72, go_sem, q0, q1, q2, q3, q4, q5]) rfl hO

set_option maxHeartbeats 2000000 in
set_option maxRecDepth 100000 in
theorem word_two {w : World} {base : Nat} {b : Box} {vw vm : Value} {rs : List Raw} {x : ByteArray} (h : OB w base b vw vm rs) (hf : Fit b) (hb : base ≤ w.heap.size) (ha : atB x = true) (hx : x ∈ b.words) :
    Calls Tryd.prog 72 #[.agg #[.string b.id, .int .i64 b.valid, .int .i64 b.next, .int .i64 b.high, vw, vm], .string x] w (WO noB 7 base w) := by
  obtain ⟨WA, wc, MA, mcp, rfl, rfl, hwc, hmc⟩ := h.slices
  have P0 := Lib.hid (SB.start h hb)
  have HF := Lib.hid hf
  have hwl := hf.wl
  have C := fun w => may_any x w
  have KD0 := Lib.hid (fun (w1 : World) (P : SB w w1 base w.heap.size (w.heap.size + 1) b (.slice WA b.words.length wc) (.slice MA b.msgs.length mcp) rs) => contains_any (cp := wc) x (P.own.at_ hf (B := w1.heap.size) (fun _ _ h => h)).1)
  clear h hf
  rw [ha] at C
  have KC := Lib.hid C
  clear C ha
  have HX := Lib.hid hx
  clear hx
  go_enter Tryd.func72, Tryd.ntmps72
  go_upto_region 1 with fail
  generalize (World.alloc (World.alloc w _) _) = w1 at P0 ⊢
  obtain ⟨c0, c1, c2, c3, c4, c5⟩ := P0.out.facts
  obtain ⟨d0, d1, d2, d3, d4, d5, f0, f1, f2, f3, f4, f5⟩ := P0.out.room
  have KD := KD0.out w1 P0.out
  rw [show decide (x ∈ b.words) = true from decide_eq_true HX.out] at KD
  have KD := Lib.hid KD
  clear KD0
  go_wp2_with (first | (go_at_call 84; refine (KC.out _).mono ?_; rintro e w' ⟨rfl, rfl⟩) | (go_at_call 63; refine KD.out.mono ?_; rintro e w' ⟨rfl, rfl⟩))
  obtain ⟨W, hW, q0, q1, q2, q3, q4, q5, hO⟩ := P0.out.err 7
  unfold put6 at hW
  rw [← hW]
  exact bodyPost_ret (v := .tuple #[.agg #[.string ⟨#[]⟩, .int .i64 0, .int .i64 0, .int .i64 0, .slice none 0 0, .slice none 0 0], .int .i64 7]) (by simp [results, Tryd.results72, go_sem, q0, q1, q2, q3, q4, q5]) rfl hO

set_option maxHeartbeats 2000000 in
set_option maxRecDepth 100000 in
theorem word_full {w : World} {base : Nat} {b : Box} {vw vm : Value} {rs : List Raw} {x : ByteArray} (h : OB w base b vw vm rs) (hf : Fit b) (hb : base ≤ w.heap.size) (ha : atB x = true) (hx : x ∉ b.words) (hg : 64 ≤ b.words.length) :
    Calls Tryd.prog 72 #[.agg #[.string b.id, .int .i64 b.valid, .int .i64 b.next, .int .i64 b.high, vw, vm], .string x] w (WO noB 4 base w) := by
  obtain ⟨WA, wc, MA, mcp, rfl, rfl, hwc, hmc⟩ := h.slices
  have P0 := Lib.hid (SB.start h hb)
  have HF := Lib.hid hf
  have hwl := hf.wl
  have C := fun w => may_any x w
  have KD0 := Lib.hid (fun (w1 : World) (P : SB w w1 base w.heap.size (w.heap.size + 1) b (.slice WA b.words.length wc) (.slice MA b.msgs.length mcp) rs) => contains_any (cp := wc) x (P.own.at_ hf (B := w1.heap.size) (fun _ _ h => h)).1)
  clear h hf
  rw [ha] at C
  have KC := Lib.hid C
  clear C ha
  have HX := Lib.hid hx
  clear hx
  go_enter Tryd.func72, Tryd.ntmps72
  go_upto_region 1 with fail
  generalize (World.alloc (World.alloc w _) _) = w1 at P0 ⊢
  obtain ⟨c0, c1, c2, c3, c4, c5⟩ := P0.out.facts
  obtain ⟨d0, d1, d2, d3, d4, d5, f0, f1, f2, f3, f4, f5⟩ := P0.out.room
  have KD := KD0.out w1 P0.out
  rw [show decide (x ∈ b.words) = false from decide_eq_false HX.out] at KD
  have KD := Lib.hid KD
  clear KD0
  go_wp2_with (first | (go_at_call 84; refine (KC.out _).mono ?_; rintro e w' ⟨rfl, rfl⟩) | (go_at_call 63; refine KD.out.mono ?_; rintro e w' ⟨rfl, rfl⟩))
  obtain ⟨W, hW, q0, q1, q2, q3, q4, q5, hO⟩ := P0.out.err 4
  unfold put6 at hW
  rw [← hW]
  exact bodyPost_ret (v := .tuple #[.agg #[.string ⟨#[]⟩, .int .i64 0, .int .i64 0, .int .i64 0, .slice none 0 0, .slice none 0 0], .int .i64 4]) (by simp [results, Tryd.results72, go_sem, q0, q1, q2, q3, q4, q5]) rfl hO

set_option maxHeartbeats 2000000 in
set_option maxRecDepth 100000 in
theorem word_ok {w : World} {base : Nat} {b : Box} {vw vm : Value} {rs : List Raw} {x : ByteArray} (h : OB w base b vw vm rs) (hf : Fit b) (hb : base ≤ w.heap.size) (ha : atB x = true) (hx : x ∉ b.words) (hg : ¬ 64 ≤ b.words.length) :
    Calls Tryd.prog 72 #[.agg #[.string b.id, .int .i64 b.valid, .int .i64 b.next, .int .i64 b.high, vw, vm], .string x] w (WO (wordB b x) 0 base w) := by
  obtain ⟨WA, wc, MA, mcp, rfl, rfl, hwc, hmc⟩ := h.slices
  have P0 := Lib.hid (SB.start h hb)
  have HF := Lib.hid hf
  have hwl := hf.wl
  have C := fun w => may_any x w
  have KD0 := Lib.hid (fun (w1 : World) (P : SB w w1 base w.heap.size (w.heap.size + 1) b (.slice WA b.words.length wc) (.slice MA b.msgs.length mcp) rs) => contains_any (cp := wc) x (P.own.at_ hf (B := w1.heap.size) (fun _ _ h => h)).1)
  clear h hf
  rw [ha] at C
  have KC := Lib.hid C
  clear C ha
  have HX := Lib.hid hx
  clear hx
  go_enter Tryd.func72, Tryd.ntmps72
  go_upto_region 1 with fail
  generalize (World.alloc (World.alloc w _) _) = w1 at P0 ⊢
  obtain ⟨c0, c1, c2, c3, c4, c5⟩ := P0.out.facts
  obtain ⟨d0, d1, d2, d3, d4, d5, f0, f1, f2, f3, f4, f5⟩ := P0.out.room
  have KD := KD0.out w1 P0.out
  rw [show decide (x ∈ b.words) = false from decide_eq_false HX.out] at KD
  have KD := Lib.hid KD
  go_upto_region 7 with (first | (go_at_call 84; refine (KC.out _).mono ?_; rintro e w' ⟨rfl, rfl⟩) | (go_at_call 63; refine KD.out.mono ?_; rintro e w' ⟨rfl, rfl⟩))
  have HS := Lib.hid (src_new w1 #[.string x] 9 (m := 1) (sz := 1) rfl rfl (fun u hu => by simp at hu; subst hu; rfl))
  have HO := Lib.hid ((P0.out.alloc (.cells #[.string x] 9)).own.ow)
  have HSZ := Lib.hid (P0.out.alloc (.cells #[.string x] 9)).base_le
  have HB9 := Lib.hid (show b.words.length + 1 ≤ maxLen by unfold maxLen; omega)
  go_upto_region 8 with (at_builtin
                         refine wpList_rows elS rfl _ _ rfl rfl rfl HO.out HS.out HB9.out (by omega) HSZ.out ?_
                         intro v1 w2 hown hg1 _
                         obtain ⟨A1, k1, rfl, hk1⟩ := own_slice hown
                         have P1 := Lib.hid ((P0.out.alloc (.cells #[.string x] 9)).word hown hg1)
                         have k6 := (P0.out.alloc (.cells #[.string x] 9)).midW hg1
                         clear hown hg1 c0 c1 c2 c3 c4 c5 d0 d1 d2 d3 d4 d5 f0 f1 f2 f3 f4 f5
                         obtain ⟨_, _, _, _, c4, _, _, _, _, _, f4, _⟩ := six_at k6
                         clear k6)
  clear c4 f4
  generalize (World.setCell w2 _ _) = w3 at P1 ⊢
  obtain ⟨c0, c1, c2, c3, c4, c5⟩ := P1.out.facts
  obtain ⟨d0, d1, d2, d3, d4, d5, f0, f1, f2, f3, f4, f5⟩ := P1.out.room
  go_wp2_with fail
  obtain ⟨W, hW, q0, q1, q2, q3, q4, q5, hO⟩ := P1.out.ret 0
  unfold put6 at hW
  rw [← hW]
  exact bodyPost_ret (v := .tuple #[.agg #[.string b.id, .int .i64 b.valid, .int .i64 b.next, .int .i64 b.high, .slice A1 (b.words.length + 1) k1, .slice MA b.msgs.length mcp], .int .i64 0]) (by simp [results, Tryd.results72, go_sem, q0, q1, q2, q3, q4, q5]) rfl hO

theorem withWord_any {w : World} {base : Nat} {b : Box} {vw vm : Value} {rs : List Raw} {x : ByteArray} (h : OB w base b vw vm rs) (hf : Fit b) (hb : base ≤ w.heap.size) :
    Calls Tryd.prog 72 #[.agg #[.string b.id, .int .i64 b.valid, .int .i64 b.next, .int .i64 b.high, vw, vm], .string x] w (WO (either (wordE b x) (wordB b x)) (wordE b x) base w) := by
  unfold either wordE
  by_cases ha : atB x = false
  · rw [if_pos ha, if_neg (by decide)]
    exact word_bad h hf hb ha
  have ha2 : atB x = true := by simpa using ha
  rw [if_neg ha]
  by_cases hx : x ∈ b.words
  · rw [if_pos hx, if_neg (by decide)]
    exact word_two h hf hb ha2 hx
  rw [if_neg hx]
  by_cases hg : 64 ≤ b.words.length
  · rw [if_pos hg, if_neg (by decide)]
    exact word_full h hf hb ha2 hx hg
  · rw [if_neg hg, if_pos rfl]
    exact word_ok h hf hb ha2 hx hg
end Go.Proofs.YtmkbmdoglcimbaaDoor.RwW2
