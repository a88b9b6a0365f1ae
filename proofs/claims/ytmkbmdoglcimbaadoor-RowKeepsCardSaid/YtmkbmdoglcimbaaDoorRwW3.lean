/-
  A message more done to a box of the call's own.
-/
import Derived.Test.YtmkbmdoglcimbaaDoorRwMb
import Derived.Test.YtmkbmdoglcimbaaDoorBxM
namespace Go.Proofs.YtmkbmdoglcimbaaDoor.RwW3
open Go.RowKit Go.Proofs.YtmkbmdoglcimbaaDoor.BxD Go.Proofs.YtmkbmdoglcimbaaDoor.BxKit Go.Proofs.YtmkbmdoglcimbaaDoor.BxA Go.Proofs.YtmkbmdoglcimbaaDoor.BxR Go.Proofs.YtmkbmdoglcimbaaDoor.BxC Go.Proofs.YtmkbmdoglcimbaaDoor.RwD Go.Proofs.YtmkbmdoglcimbaaDoor.RwKit Go.Proofs.YtmkbmdoglcimbaaDoor.RwOwn Go.Proofs.YtmkbmdoglcimbaaDoor.BxM Go.Proofs.YtmkbmdoglcimbaaDoor.RwW1 Go.Proofs.YtmkbmdoglcimbaaDoor.RwMb

def msgE (b : Box) (m : Msg) : Int := if 60 ≤ b.msgs.length then 4 else if mmB b.words.length m = false then 1 else if m.uid < b.next then 1 else 0
theorem more_keys {w : World} {base : Nat} {rs : List Raw} {r1 : Raw} (h : w.ownsRow base 3 1 (.slice r1.K r1.m.keys.length r1.c) r1.m.keys.length (r1.m.keys.map (Value.int .i64))) :
    ∀ r ∈ rs ++ [r1], r ∈ rs ∨ w.ownsRow base 3 1 (.slice r.K r.m.keys.length r.c) r.m.keys.length (r.m.keys.map (Value.int .i64)) := by
  intro r hr
  rcases List.mem_append.1 hr with hr | hr
  · exact .inl hr
  · obtain rfl := List.mem_singleton.1 hr
    exact .inr h
def msgB (b : Box) (m : Msg) : Box := ⟨b.id, b.valid, m.uid + 1, max b.high m.mod, b.words, b.msgs ++ [m]⟩
set_option maxHeartbeats 2000000 in
set_option maxRecDepth 100000 in
theorem msg_full {w : World} {base B : Nat} {b : Box} {vw vm : Value} {rs : List Raw} {m : Msg} {K : Option Addr} {kc : Nat} (h : OB w base b vw vm rs) (hf : Fit b) (hb : base ≤ w.heap.size) (hk : IntsAt w B K m.keys.length m.keys) (hB : B ≤ w.heap.size) (h6 : m.keys.length ≤ 1000000) (hg : 60 ≤ b.msgs.length) :
    Calls Tryd.prog 70 #[.agg #[.string b.id, .int .i64 b.valid, .int .i64 b.next, .int .i64 b.high, vw, vm], .agg #[.int .i64 m.uid, .int .i64 m.mod, .int .i64 m.date, .string m.id, .int .i64 m.flags, .slice K m.keys.length kc, .string m.text]] w (WO noB 4 base w) := by
  obtain ⟨WA, wc, MA, mcp, rfl, rfl, hwc, hmc⟩ := h.slices
  obtain ⟨p0, p1, p2⟩ := SB.start3 h hb (.cells #[.int .i64 m.uid, .int .i64 m.mod, .int .i64 m.date, .string m.id, .int .i64 m.flags, .slice K m.keys.length kc, .string m.text] 28)
  have P0 := Lib.hid p0
  have M0 := Lib.hid (show MB _ (w.heap.size + 1) m K kc from p1)
  have N0 := Lib.hid p2
  have HK := Lib.hid (IntsAt.below hk (show Below w.heap.size w (((w.alloc _).alloc _).alloc _) from (((Below.refl _ _).alloc (Nat.le_refl _) (.cells #[.string b.id, .int .i64 b.valid, .int .i64 b.next, .int .i64 b.high, .slice WA b.words.length wc, .slice MA b.msgs.length mcp] 25)).alloc (by simp) (.cells #[.int .i64 m.uid, .int .i64 m.mod, .int .i64 m.date, .string m.id, .int .i64 m.flags, .slice K m.keys.length kc, .string m.text] 28)).alloc (by simp; omega) (.cells #[.string ⟨#[]⟩, .int .i64 0, .int .i64 0, .int .i64 0, .slice none 0 0, .slice none 0 0] 25)) hB)
  have hwl := hf.wl
  have hml := hf.ml
  clear h hf p0 p1 p2 hk
  go_enter Tryd.func70, Tryd.ntmps70
  go_upto_region 1 with fail
  generalize (World.alloc (World.alloc (World.alloc w _) _) _) = w1 at P0 M0 HK ⊢
  obtain ⟨c0, c1, c2, c3, c4, c5⟩ := P0.out.facts
  obtain ⟨m0, m1, m2, m3, m4, m5, m6⟩ := M0.out.facts
  have P2 := P0
  obtain ⟨d0, d1, d2, d3, d4, d5, f0, f1, f2, f3, f4, f5⟩ := P2.out.room
  go_wp2_with fail
  obtain ⟨W, hW, q0, q1, q2, q3, q4, q5, hO⟩ := P2.out.err 4
  unfold put6 at hW
  rw [← hW]
  exact bodyPost_ret (v := .tuple #[.agg #[.string ⟨#[]⟩, .int .i64 0, .int .i64 0, .int .i64 0, .slice none 0 0, .slice none 0 0], .int .i64 4]) (by simp [results, Tryd.results70, go_sem, q0, q1, q2, q3, q4, q5]) rfl hO

set_option maxHeartbeats 2000000 in
set_option maxRecDepth 100000 in
theorem msg_bad {w : World} {base B : Nat} {b : Box} {vw vm : Value} {rs : List Raw} {m : Msg} {K : Option Addr} {kc : Nat} (h : OB w base b vw vm rs) (hf : Fit b) (hb : base ≤ w.heap.size) (hk : IntsAt w B K m.keys.length m.keys) (hB : B ≤ w.heap.size) (h6 : m.keys.length ≤ 1000000) (hg : ¬ 60 ≤ b.msgs.length) (hmm : mmB b.words.length m = false) :
    Calls Tryd.prog 70 #[.agg #[.string b.id, .int .i64 b.valid, .int .i64 b.next, .int .i64 b.high, vw, vm], .agg #[.int .i64 m.uid, .int .i64 m.mod, .int .i64 m.date, .string m.id, .int .i64 m.flags, .slice K m.keys.length kc, .string m.text]] w (WO noB 1 base w) := by
  obtain ⟨WA, wc, MA, mcp, rfl, rfl, hwc, hmc⟩ := h.slices
  obtain ⟨p0, p1, p2⟩ := SB.start3 h hb (.cells #[.int .i64 m.uid, .int .i64 m.mod, .int .i64 m.date, .string m.id, .int .i64 m.flags, .slice K m.keys.length kc, .string m.text] 28)
  have P0 := Lib.hid p0
  have M0 := Lib.hid (show MB _ (w.heap.size + 1) m K kc from p1)
  have N0 := Lib.hid p2
  have HK := Lib.hid (IntsAt.below hk (show Below w.heap.size w (((w.alloc _).alloc _).alloc _) from (((Below.refl _ _).alloc (Nat.le_refl _) (.cells #[.string b.id, .int .i64 b.valid, .int .i64 b.next, .int .i64 b.high, .slice WA b.words.length wc, .slice MA b.msgs.length mcp] 25)).alloc (by simp) (.cells #[.int .i64 m.uid, .int .i64 m.mod, .int .i64 m.date, .string m.id, .int .i64 m.flags, .slice K m.keys.length kc, .string m.text] 28)).alloc (by simp; omega) (.cells #[.string ⟨#[]⟩, .int .i64 0, .int .i64 0, .int .i64 0, .slice none 0 0, .slice none 0 0] 25)) hB)
  have hwl := hf.wl
  have hml := hf.ml
  clear h hf p0 p1 p2 hk
  have HMM := Lib.hid hmm
  clear hmm
  go_enter Tryd.func70, Tryd.ntmps70
  go_upto_region 1 with fail
  generalize (World.alloc (World.alloc (World.alloc w _) _) _) = w1 at P0 M0 HK ⊢
  obtain ⟨c0, c1, c2, c3, c4, c5⟩ := P0.out.facts
  obtain ⟨m0, m1, m2, m3, m4, m5, m6⟩ := M0.out.facts
  have km := mayMsg_cells (bid := b.id) (bv := b.valid) (bn := b.next) (bh := b.high) (WA := WA) (wc := wc) (MA := MA) (mn := b.msgs.length) (mc := mcp) (id := m.id) (tx := m.text) (u := m.uid) (md := m.mod) (d := m.date) (fl := m.flags) (kc := kc) HK.out (by have := P0.out.ltP; omega) (show b.words.length ≤ 140737488355328 by omega)
  rw [show mmE b.words.length ⟨m.uid, m.mod, m.date, m.id, m.flags, m.keys, m.text⟩ = 1 from mmE_false HMM.out] at km
  have KM := Lib.hid km
  clear km
  go_upto_region 4 with (go_at_call 35; refine KM.out.mono ?_; rintro e w2 ⟨rfl, hb2⟩)
  have P2 := Lib.hid (P0.out.go hb2)
  have M2 := Lib.hid (M0.out.go hb2)
  have HK2 := Lib.hid (IntsAt.below HK.out hb2 (by have := P0.out.ltP; omega))
  clear hb2 P0 M0 HK KM c0 c1 c2 c3 c4 c5 m0 m1 m2 m3 m4 m5 m6
  obtain ⟨c0, c1, c2, c3, c4, c5⟩ := P2.out.facts
  obtain ⟨m0, m1, m2, m3, m4, m5, m6⟩ := M2.out.facts
  obtain ⟨d0, d1, d2, d3, d4, d5, f0, f1, f2, f3, f4, f5⟩ := P2.out.room
  go_wp2_with fail
  obtain ⟨W, hW, q0, q1, q2, q3, q4, q5, hO⟩ := P2.out.err 1
  unfold put6 at hW
  rw [← hW]
  exact bodyPost_ret (v := .tuple #[.agg #[.string ⟨#[]⟩, .int .i64 0, .int .i64 0, .int .i64 0, .slice none 0 0, .slice none 0 0], .int .i64 1]) (by simp [results, Tryd.results70, go_sem, q0, q1, q2, q3, q4, q5]) rfl hO

set_option maxHeartbeats 2000000 in
set_option maxRecDepth 100000 in
theorem msg_old {w : World} {base B : Nat} {b : Box} {vw vm : Value} {rs : List Raw} {m : Msg} {K : Option Addr} {kc : Nat} (h : OB w base b vw vm rs) (hf : Fit b) (hb : base ≤ w.heap.size) (hk : IntsAt w B K m.keys.length m.keys) (hB : B ≤ w.heap.size) (h6 : m.keys.length ≤ 1000000) (hg : ¬ 60 ≤ b.msgs.length) (hmm : mmB b.words.length m = true) (hu : m.uid < b.next) :
    Calls Tryd.prog 70 #[.agg #[.string b.id, .int .i64 b.valid, .int .i64 b.next, .int .i64 b.high, vw, vm], .agg #[.int .i64 m.uid, .int .i64 m.mod, .int .i64 m.date, .string m.id, .int .i64 m.flags, .slice K m.keys.length kc, .string m.text]] w (WO noB 1 base w) := by
  obtain ⟨WA, wc, MA, mcp, rfl, rfl, hwc, hmc⟩ := h.slices
  obtain ⟨p0, p1, p2⟩ := SB.start3 h hb (.cells #[.int .i64 m.uid, .int .i64 m.mod, .int .i64 m.date, .string m.id, .int .i64 m.flags, .slice K m.keys.length kc, .string m.text] 28)
  have P0 := Lib.hid p0
  have M0 := Lib.hid (show MB _ (w.heap.size + 1) m K kc from p1)
  have N0 := Lib.hid p2
  have HK := Lib.hid (IntsAt.below hk (show Below w.heap.size w (((w.alloc _).alloc _).alloc _) from (((Below.refl _ _).alloc (Nat.le_refl _) (.cells #[.string b.id, .int .i64 b.valid, .int .i64 b.next, .int .i64 b.high, .slice WA b.words.length wc, .slice MA b.msgs.length mcp] 25)).alloc (by simp) (.cells #[.int .i64 m.uid, .int .i64 m.mod, .int .i64 m.date, .string m.id, .int .i64 m.flags, .slice K m.keys.length kc, .string m.text] 28)).alloc (by simp; omega) (.cells #[.string ⟨#[]⟩, .int .i64 0, .int .i64 0, .int .i64 0, .slice none 0 0, .slice none 0 0] 25)) hB)
  have hwl := hf.wl
  have hml := hf.ml
  clear h hf p0 p1 p2 hk
  have HMM := Lib.hid hmm
  clear hmm
  go_enter Tryd.func70, Tryd.ntmps70
  go_upto_region 1 with fail
  generalize (World.alloc (World.alloc (World.alloc w _) _) _) = w1 at P0 M0 HK ⊢
  obtain ⟨c0, c1, c2, c3, c4, c5⟩ := P0.out.facts
  obtain ⟨m0, m1, m2, m3, m4, m5, m6⟩ := M0.out.facts
  have km := mayMsg_cells (bid := b.id) (bv := b.valid) (bn := b.next) (bh := b.high) (WA := WA) (wc := wc) (MA := MA) (mn := b.msgs.length) (mc := mcp) (id := m.id) (tx := m.text) (u := m.uid) (md := m.mod) (d := m.date) (fl := m.flags) (kc := kc) HK.out (by have := P0.out.ltP; omega) (show b.words.length ≤ 140737488355328 by omega)
  rw [show mmE b.words.length ⟨m.uid, m.mod, m.date, m.id, m.flags, m.keys, m.text⟩ = 0 from mmE_true HMM.out] at km
  have KM := Lib.hid km
  clear km
  go_upto_region 4 with (go_at_call 35; refine KM.out.mono ?_; rintro e w2 ⟨rfl, hb2⟩)
  have P2 := Lib.hid (P0.out.go hb2)
  have M2 := Lib.hid (M0.out.go hb2)
  have HK2 := Lib.hid (IntsAt.below HK.out hb2 (by have := P0.out.ltP; omega))
  clear hb2 P0 M0 HK KM c0 c1 c2 c3 c4 c5 m0 m1 m2 m3 m4 m5 m6
  obtain ⟨c0, c1, c2, c3, c4, c5⟩ := P2.out.facts
  obtain ⟨m0, m1, m2, m3, m4, m5, m6⟩ := M2.out.facts
  obtain ⟨d0, d1, d2, d3, d4, d5, f0, f1, f2, f3, f4, f5⟩ := P2.out.room
  go_wp2_with fail
  obtain ⟨W, hW, q0, q1, q2, q3, q4, q5, hO⟩ := P2.out.err 1
  unfold put6 at hW
  rw [← hW]
  exact bodyPost_ret (v := .tuple #[.agg #[.string ⟨#[]⟩, .int .i64 0, .int .i64 0, .int .i64 0, .slice none 0 0, .slice none 0 0], .int .i64 1]) (by simp [results, Tryd.results70, go_sem, q0, q1, q2, q3, q4, q5]) rfl hO

set_option maxHeartbeats 2000000 in
set_option maxRecDepth 100000 in
theorem msg_ok {w : World} {base B : Nat} {b : Box} {vw vm : Value} {rs : List Raw} {m : Msg} {K : Option Addr} {kc : Nat} (h : OB w base b vw vm rs) (hf : Fit b) (hb : base ≤ w.heap.size) (hk : IntsAt w B K m.keys.length m.keys) (hB : B ≤ w.heap.size) (h6 : m.keys.length ≤ 1000000) (hg : ¬ 60 ≤ b.msgs.length) (hmm : mmB b.words.length m = true) (hu : ¬ m.uid < b.next) :
    Calls Tryd.prog 70 #[.agg #[.string b.id, .int .i64 b.valid, .int .i64 b.next, .int .i64 b.high, vw, vm], .agg #[.int .i64 m.uid, .int .i64 m.mod, .int .i64 m.date, .string m.id, .int .i64 m.flags, .slice K m.keys.length kc, .string m.text]] w (WO (msgB b m) 0 base w) := by
  obtain ⟨WA, wc, MA, mcp, rfl, rfl, hwc, hmc⟩ := h.slices
  obtain ⟨p0, p1, p2⟩ := SB.start3 h hb (.cells #[.int .i64 m.uid, .int .i64 m.mod, .int .i64 m.date, .string m.id, .int .i64 m.flags, .slice K m.keys.length kc, .string m.text] 28)
  have P0 := Lib.hid p0
  have M0 := Lib.hid (show MB _ (w.heap.size + 1) m K kc from p1)
  have N0 := Lib.hid p2
  have HK := Lib.hid (IntsAt.below hk (show Below w.heap.size w (((w.alloc _).alloc _).alloc _) from (((Below.refl _ _).alloc (Nat.le_refl _) (.cells #[.string b.id, .int .i64 b.valid, .int .i64 b.next, .int .i64 b.high, .slice WA b.words.length wc, .slice MA b.msgs.length mcp] 25)).alloc (by simp) (.cells #[.int .i64 m.uid, .int .i64 m.mod, .int .i64 m.date, .string m.id, .int .i64 m.flags, .slice K m.keys.length kc, .string m.text] 28)).alloc (by simp; omega) (.cells #[.string ⟨#[]⟩, .int .i64 0, .int .i64 0, .int .i64 0, .slice none 0 0, .slice none 0 0] 25)) hB)
  have hwl := hf.wl
  have hml := hf.ml
  clear h hf p0 p1 p2 hk
  have HMM := Lib.hid hmm
  clear hmm
  go_enter Tryd.func70, Tryd.ntmps70
  go_upto_region 1 with fail
  generalize (World.alloc (World.alloc (World.alloc w _) _) _) = w1 at P0 M0 HK ⊢
  obtain ⟨c0, c1, c2, c3, c4, c5⟩ := P0.out.facts
  obtain ⟨m0, m1, m2, m3, m4, m5, m6⟩ := M0.out.facts
  have km := mayMsg_cells (bid := b.id) (bv := b.valid) (bn := b.next) (bh := b.high) (WA := WA) (wc := wc) (MA := MA) (mn := b.msgs.length) (mc := mcp) (id := m.id) (tx := m.text) (u := m.uid) (md := m.mod) (d := m.date) (fl := m.flags) (kc := kc) HK.out (by have := P0.out.ltP; omega) (show b.words.length ≤ 140737488355328 by omega)
  rw [show mmE b.words.length ⟨m.uid, m.mod, m.date, m.id, m.flags, m.keys, m.text⟩ = 0 from mmE_true HMM.out] at km
  have KM := Lib.hid km
  clear km
  go_upto_region 4 with (go_at_call 35; refine KM.out.mono ?_; rintro e w2 ⟨rfl, hb2⟩)
  have P2 := Lib.hid (P0.out.go hb2)
  have M2 := Lib.hid (M0.out.go hb2)
  have HK2 := Lib.hid (IntsAt.below HK.out hb2 (by have := P0.out.ltP; omega))
  clear hb2 P0 M0 HK KM c0 c1 c2 c3 c4 c5 m0 m1 m2 m3 m4 m5 m6
  obtain ⟨c0, c1, c2, c3, c4, c5⟩ := P2.out.facts
  obtain ⟨m0, m1, m2, m3, m4, m5, m6⟩ := M2.out.facts
  have hb1 : base ≤ w2.heap.size := P2.out.base_le
  have KC := Lib.hid (cloned_any (kc := kc) HK2.out h6)
  have c6 := M2.out.free 5
  go_upto_region 9 with (go_at_call 88
                         refine KC.out.mono ?_
                         rintro e w3 ⟨A1, k1, rfl, hown, hbel⟩
                         have P3 := Lib.hid (P2.out.go hbel)
                         have M3 := Lib.hid (M2.out.go hbel)
                         have HO3 := Lib.hid (own_base hown hb1)
                         clear hown hbel m0 m1 m2 m3 m4 m5 m6 c0 c1 c2 c3 c4 c5 c6
                         obtain ⟨m0, m1, m2, m3, m4, m5, m6⟩ := M3.out.facts
                         have c6 := M3.out.free 5)
  have P4 := Lib.hid (SB.setM P3.out M3.out (i := 5) N0.out (by omega) (.slice A1 m.keys.length k1))
  have M4 := Lib.hid (M3.out.set5 A1 k1)
  have HO4 := Lib.hid (own_other HO3.out (own_ne_blk HO3.out M3.out (by decide)) 5 (.slice A1 m.keys.length k1))
  clear P3 M3 HO3 m0 m1 m2 m3 m4 m5 m6 c6 P2 M2 HK2 KC
  generalize (World.setCell w3 _ _) = w4 at P4 M4 HO4 ⊢
  obtain ⟨c0, c1, c2, c3, c4, c5⟩ := P4.out.facts
  obtain ⟨m0, m1, m2, m3, m4, m5, m6⟩ := M4.out.facts
  have HS := Lib.hid (src_new w4 #[.int .i64 m.uid, .int .i64 m.mod, .int .i64 m.date, .string m.id, .int .i64 m.flags, .slice A1 m.keys.length k1, .string m.text] 28 (m := 1) (sz := 7) rfl rfl (fun u hu => by simp at hu; rcases hu with rfl | rfl | rfl | rfl | rfl | rfl | rfl <;> rfl))
  have P5 := Lib.hid (P4.out.alloc (.cells #[.int .i64 m.uid, .int .i64 m.mod, .int .i64 m.date, .string m.id, .int .i64 m.flags, .slice A1 m.keys.length k1, .string m.text] 28))
  have M5 := Lib.hid (M4.out.alloc (.cells #[.int .i64 m.uid, .int .i64 m.mod, .int .i64 m.date, .string m.id, .int .i64 m.flags, .slice A1 m.keys.length k1, .string m.text] 28))
  have HO5 := Lib.hid (HO4.out.alloc (.cells #[.int .i64 m.uid, .int .i64 m.mod, .int .i64 m.date, .string m.id, .int .i64 m.flags, .slice A1 m.keys.length k1, .string m.text] 28))
  have HB9 := Lib.hid (show b.msgs.length + 1 ≤ maxLen by unfold maxLen; omega)
  have hp5 := P5.out.base_le
  go_upto_region 10 with (at_builtin; go_loud (
                         refine wpList_rows elM rfl _ _ rfl rfl rfl P5.out.own.om HS.out HB9.out (by omega) hp5 ?_
                         intro v6 w6 hown hg6 _
                         obtain ⟨A6, k6, rfl, hk6⟩ := own_slice hown
                         have k7 := P5.out.midM hg6
                         have P6 := Lib.hid (P5.out.msgs (rs' := rs ++ [⟨m, A1, k1⟩]) (ms' := b.msgs ++ [m]) (by rw [mc_append, List.length_append]; exact hown) (by rw [List.map_append, P5.out.own.rm]; rfl) hg6 (more_keys HO5.out))
                         have M6 := Lib.hid ((M5.out.grown hg6 (Ne.symm N0.out)).oth (P := w.heap.size) (i := 5) (by omega) (.slice A6 (b.msgs.length + 1) k6))
                         clear hown hg6 m0 m1 m2 m3 m4 m5 m6 c0 c1 c2 c3 c4 c5
                         obtain ⟨_, _, _, _, _, c5, _, _, _, _, _, f5⟩ := six_at k7
                         clear k7))
  clear c5 f5 P5 M5 HO5 P4 M4 HO4 HS HB9
  generalize (World.setCell w6 _ _) = w7 at P6 M6 ⊢
  obtain ⟨c0, c1, c2, c3, c4, c5⟩ := P6.out.facts
  obtain ⟨m0, m1, m2, m3, m4, m5, m6⟩ := M6.out.facts
  have c6 := P6.out.free 2
  obtain ⟨u1, u2⟩ := (mm_parts HMM.out).1
  obtain ⟨v1, v2⟩ := (mm_parts HMM.out).2.1
  go_upto_region 11 with fail
  have P7 := Lib.hid (P6.out.set2 (m.uid + 1))
  have M7 := Lib.hid (M6.out.oth (P := w.heap.size) (i := 2) (by omega) (.int .i64 (m.uid + 1)))
  clear c0 c1 c2 c3 c4 c5 c6 P6 M6 m0 m1 m2 m3 m4 m5 m6
  generalize (World.setCell w7 _ _) = w8 at P7 M7 ⊢
  obtain ⟨c0, c1, c2, c3, c4, c5⟩ := P7.out.facts
  obtain ⟨m0, m1, m2, m3, m4, m5, m6⟩ := M7.out.facts
  have c6 := P7.out.free 3
  go_upto_region 12 with fail
  have e : (if b.high < m.mod then m.mod else b.high) = max b.high m.mod := by split <;> omega
  rw [e]
  have P8 := Lib.hid (P7.out.set3 (max b.high m.mod))
  clear e c0 c1 c2 c3 c4 c5 c6 P7 M7 m0 m1 m2 m3 m4 m5 m6
  generalize (World.setCell w8 _ _) = w9 at P8 ⊢
  obtain ⟨c0, c1, c2, c3, c4, c5⟩ := P8.out.facts
  obtain ⟨d0, d1, d2, d3, d4, d5, f0, f1, f2, f3, f4, f5⟩ := P8.out.room
  go_wp2_with fail
  obtain ⟨W, hW, q0, q1, q2, q3, q4, q5, hO⟩ := P8.out.ret 0
  unfold put6 at hW
  rw [← hW]
  exact bodyPost_ret (v := .tuple #[.agg #[.string b.id, .int .i64 b.valid, .int .i64 (m.uid + 1), .int .i64 (max b.high m.mod), .slice WA b.words.length wc, .slice A6 (b.msgs.length + 1) k6], .int .i64 0]) (by simp [results, Tryd.results70, go_sem, q0, q1, q2, q3, q4, q5]) rfl hO

theorem withMsg_any {w : World} {base B : Nat} {b : Box} {vw vm : Value} {rs : List Raw} {m : Msg} {K : Option Addr} {kc : Nat} (h : OB w base b vw vm rs) (hf : Fit b) (hb : base ≤ w.heap.size) (hk : IntsAt w B K m.keys.length m.keys) (hB : B ≤ w.heap.size) (h6 : m.keys.length ≤ 1000000) :
    Calls Tryd.prog 70 #[.agg #[.string b.id, .int .i64 b.valid, .int .i64 b.next, .int .i64 b.high, vw, vm], .agg #[.int .i64 m.uid, .int .i64 m.mod, .int .i64 m.date, .string m.id, .int .i64 m.flags, .slice K m.keys.length kc, .string m.text]] w (WO (either (msgE b m) (msgB b m)) (msgE b m) base w) := by
  unfold either msgE
  by_cases hg : 60 ≤ b.msgs.length
  · rw [if_pos hg, if_neg (by decide)]
    exact msg_full h hf hb hk hB h6 hg
  rw [if_neg hg]
  by_cases hm : mmB b.words.length m = false
  · rw [if_pos hm, if_neg (by decide)]
    exact msg_bad h hf hb hk hB h6 hg hm
  have hm2 : mmB b.words.length m = true := by simpa using hm
  rw [if_neg hm]
  by_cases hu : m.uid < b.next
  · rw [if_pos hu, if_neg (by decide)]
    exact msg_old h hf hb hk hB h6 hg hm2 hu
  · rw [if_neg hu, if_pos rfl]
    exact msg_ok h hf hb hk hB h6 hg hm2 hu
end Go.Proofs.YtmkbmdoglcimbaaDoor.RwW3
