/-
  The box that every program must know: awake answers true.
-/
import Derived.Test.YtabcfhjfdkbhaaaDoorBxB
import Derived.Test.YtabcfhjfdkbhaaaDoorBxF
import Derived.Test.YtabcfhjfdkbhaaaDoorBxO
import Derived.Deep.DeepCutAuto
namespace Go.Proofs.YtabcfhjfdkbhaaaDoor.BxAw
open Go.RowKit Go.Proofs.YtabcfhjfdkbhaaaDoor.BxD Go.Proofs.YtabcfhjfdkbhaaaDoor.BxKit Go.Proofs.YtabcfhjfdkbhaaaDoor.BxA Go.Proofs.YtabcfhjfdkbhaaaDoor.BxB Go.Proofs.YtabcfhjfdkbhaaaDoor.BxF Go.Proofs.YtabcfhjfdkbhaaaDoor.BxO

def mx : Msg := ⟨3, 1, 0, ⟨#[120]⟩, 0, [], ⟨#[]⟩⟩
def b1 : ByteArray := ⟨#[98, 49]⟩
theorem may1 : mbE ⟨b1, 5, 1, 1, [], [mx]⟩ = 1 := by decide +kernel
theorem may4 : mbE ⟨b1, 5, 4, 1, [], [mx]⟩ = 0 := by decide +kernel
theorem find3 : findI [mx] 3 = 0 := by decide +kernel
theorem un1 : unI [mx] = 1 := by decide +kernel
theorem own7 : ownT b1 7 = ⟨#[101, 55, 45, 98, 49]⟩ := by
  unfold ownT
  rw [show Lib.itoa (max 7 0) = [55] by
    rw [show (max 7 0 : Int) = 7 by decide]
    unfold Lib.itoa
    rw [if_neg (by decide)]
    exact Lib.decDigits_one (by decide)]
  rfl
/-- One message without keywords, its cells known. -/
theorem msgsAt_one {w : World} {g B : Nat} {m : Msg} {kc : Nat} (hg : g < B) (hk : m.keys = []) (h0 : w.cell? { block := g, off := 0 } = some (.int .i64 m.uid)) (h1 : w.cell? { block := g, off := 1 } = some (.int .i64 m.mod)) (h2 : w.cell? { block := g, off := 2 } = some (.int .i64 m.date)) (h3 : w.cell? { block := g, off := 3 } = some (.string m.id))
    (h4 : w.cell? { block := g, off := 4 } = some (.int .i64 m.flags)) (h5 : w.cell? { block := g, off := 5 } = some (.slice none 0 kc)) (h6 : w.cell? { block := g, off := 6 } = some (.string m.text)) (hz : m.id.size ≤ 140737488355328) (hz2 : m.text.size ≤ 140737488355328) : MsgsAt w B (some ⟨g, 0, none⟩) 1 [m] := by
  refine ⟨rfl, by decide, fun _ => ⟨_, rfl, hg, fun j x hx => ?_⟩⟩
  match j, hx with
  | 0, hx =>
    obtain rfl : m = x := by simpa using hx
    refine ⟨?_, ?_, ?_, ?_, ?_, ⟨none, kc, ?_, ?_, ?_⟩, ?_, hz, hz2⟩
    · exact h0
    · exact h1
    · exact h2
    · exact h3
    · exact h4
    · rw [hk]; exact h5
    · rw [hk]; exact Nat.zero_le _
    · rw [hk]; exact RowAt.nil _ _ _ _ _
    · exact h6
  | j + 1, hx => simp at hx

theorem alloc_at (w : World) (cs : Array Value) (t : TypeId) (o : Nat) : (w.alloc (.cells cs t)).cell? { block := w.heap.size, off := o } = cs[o]? := cell_of_row _ w.heap.size o cs t (0, 0) (heap_alloc_new w _)
theorem alloc_past {w : World} {b : Nat} (h : b < w.heap.size) (x : Obj) (o : Nat) : (w.alloc x).cell? { block := b, off := o } = w.cell? { block := b, off := o } := ((Below.refl _ w).alloc (Nat.le_refl _) x).cell (p := ⟨b, o, none⟩) h
theorem three_cells (w : World) (a b c : Array Value) (ta tb tc : TypeId) : (∀ o, (((w.alloc (.cells a ta)).alloc (.cells b tb)).alloc (.cells c tc)).cell? { block := w.heap.size, off := o } = a[o]?) ∧
    (∀ o, (((w.alloc (.cells a ta)).alloc (.cells b tb)).alloc (.cells c tc)).cell? { block := w.heap.size + 1, off := o } = b[o]?) ∧ (∀ o, (((w.alloc (.cells a ta)).alloc (.cells b tb)).alloc (.cells c tc)).cell? { block := w.heap.size + 1 + 1, off := o } = c[o]?) := by
  refine ⟨fun o => ?_, fun o => ?_, fun o => ?_⟩
  · rw [alloc_past (by simp; omega), alloc_past (by simp), alloc_at]
  · rw [alloc_past (by simp), show w.heap.size + 1 = (w.alloc (.cells a ta)).heap.size by simp, alloc_at]
  · rw [show w.heap.size + 1 + 1 = ((w.alloc (.cells a ta)).alloc (.cells b tb)).heap.size by simp, alloc_at]
/-- The two boxes and the message in memory. -/
structure Lies (w wr : World) (P : Nat) : Prop where
  bel : Below w.heap.size w wr
  lt : P + 2 < wr.heap.size
  a0 : wr.cell? { block := P, off := 0 } = some (.string b1)
  a1 : wr.cell? { block := P, off := 1 } = some (.int .i64 5)
  a2 : wr.cell? { block := P, off := 2 } = some (.int .i64 1)
  a3 : wr.cell? { block := P, off := 3 } = some (.int .i64 1)
  a4 : wr.cell? { block := P, off := 4 } = some (.slice none 0 0)
  a5 : wr.cell? { block := P, off := 5 } = some (.slice (some { block := P + 1, off := 0 }) 1 1)
  n0 : wr.cell? { block := P + 1 + 1, off := 0 } = some (.string b1)
  n1 : wr.cell? { block := P + 1 + 1, off := 1 } = some (.int .i64 5)
  n2 : wr.cell? { block := P + 1 + 1, off := 2 } = some (.int .i64 4)
  n3 : wr.cell? { block := P + 1 + 1, off := 3 } = some (.int .i64 1)
  n4 : wr.cell? { block := P + 1 + 1, off := 4 } = some (.slice none 0 0)
  n5 : wr.cell? { block := P + 1 + 1, off := 5 } = some (.slice (some { block := P + 1, off := 0 }) 1 1)
  ms : MsgsAt wr (P + 2) (some { block := P + 1, off := 0 }) 1 [mx]
theorem Lies.go {w wr w2 : World} {P : Nat} (h : Lies w wr P) (hb : Below wr.heap.size wr w2) : Lies w w2 P := by
  have c : ∀ b o, b < P + 3 → w2.cell? { block := b, off := o } = wr.cell? { block := b, off := o } := fun b o hlt => hb.cell (p := ⟨b, o, none⟩) (by have := h.lt; show b < _; omega)
  exact ⟨h.bel.trans (hb.mono h.bel.size), by have := h.lt; have := hb.size; omega, (c _ _ (by omega)).trans h.a0, (c _ _ (by omega)).trans h.a1, (c _ _ (by omega)).trans h.a2, (c _ _ (by omega)).trans h.a3, (c _ _ (by omega)).trans h.a4, (c _ _ (by omega)).trans h.a5,
    (c _ _ (by omega)).trans h.n0, (c _ _ (by omega)).trans h.n1, (c _ _ (by omega)).trans h.n2, (c _ _ (by omega)).trans h.n3, (c _ _ (by omega)).trans h.n4, (c _ _ (by omega)).trans h.n5, MsgsAt.below h.ms hb (by have := h.lt; omega)⟩

set_option maxHeartbeats 2000000 in
set_option maxRecDepth 100000 in
theorem awake {w : World} (ht : Tab w) : Calls Tryd.prog 10 #[] w fun e w' => e = .returned (.bool true) ∧ Below w.heap.size w w' := by
  have HT := Lib.hid ht
  clear ht
  go_enter Tryd.func10, Tryd.ntmps10
  go_wp2_with fail
  refine (empty_any _ _ _).mono ?_
  rintro e w1 ⟨rfl, hb⟩
  have HB := Lib.hid hb
  clear hb
  go_upto_region 5 with (fail)
  obtain ⟨W, hW⟩ : ∃ W, W = ((w1.alloc (.cells #[.string ⟨#[98, 49]⟩, .int .i64 5, .int .i64 1, .int .i64 1, .slice none 0 0, .slice (some { block := w1.heap.size + 1, off := 0 }) 1 1] 25)).alloc (.cells #[.int .i64 3, .int .i64 1, .int .i64 0, .string ⟨#[120]⟩, .int .i64 0, .slice none 0 0, .string ⟨#[]⟩] 28)).alloc (.cells #[.string ⟨#[98, 49]⟩, .int .i64 5, .int .i64 4, .int .i64 1, .slice none 0 0, .slice (some { block := w1.heap.size + 1, off := 0 }) 1 1] 25) := ⟨_, rfl⟩
  have H0 : Lies w W w1.heap.size := by
    have hs := HB.out.size
    subst hW
    obtain ⟨ha, hb, hc⟩ := three_cells w1 _ _ _ _ _ _
    refine ⟨((HB.out.alloc hs _).alloc (by simp; omega) _).alloc (by simp; omega) _, by simp, (ha 0).trans rfl, (ha 1).trans rfl, (ha 2).trans rfl, (ha 3).trans rfl, (ha 4).trans rfl, (ha 5).trans rfl, (hc 0).trans rfl, (hc 1).trans rfl, (hc 2).trans rfl, (hc 3).trans rfl, (hc 4).trans rfl, (hc 5).trans rfl, ?_⟩
    exact msgsAt_one (kc := 0) (by omega) rfl ((hb 0).trans rfl) ((hb 1).trans rfl) ((hb 2).trans rfl) ((hb 3).trans rfl) ((hb 4).trans rfl) ((hb 5).trans rfl) ((hb 6).trans rfl) (by decide) (by decide)
  rw [← hW]
  clear hW HB
  obtain ⟨P, hP⟩ : ∃ P, P = w1.heap.size := ⟨_, rfl⟩
  rw [← hP] at H0 ⊢
  clear hP
  have HL := Lib.hid H0
  clear H0
  have H0 := Lib.hid HL.out
  clear HL
  have M1 : ∀ wr, Lies w wr P → Calls Tryd.prog 11 #[.agg #[.string ⟨#[98, 49]⟩, .int .i64 5, .int .i64 1, .int .i64 1, .slice none 0 0, .slice (some { block := P + 1, off := 0 }) 1 1]] wr fun e w' => e = .returned (.int .i64 1) ∧ Below wr.heap.size wr w' := fun wr h => by
    rw [← may1]
    exact may_box (bid := b1) (bv := 5) (bn := 1) (bh := 1) (wc := 0) (mc := 1) (RowAt.nil strC 1 wr (P + 2) none) h.ms (by have := h.lt; omega) (Nat.le_refl _)
  have M2 : ∀ wr, Lies w wr P → Calls Tryd.prog 11 #[.agg #[.string ⟨#[98, 49]⟩, .int .i64 5, .int .i64 4, .int .i64 1, .slice none 0 0, .slice (some { block := P + 1, off := 0 }) 1 1]] wr fun e w' => e = .returned (.int .i64 0) ∧ Below wr.heap.size wr w' := fun wr h => by
    rw [← may4]
    exact may_box (bid := b1) (bv := 5) (bn := 4) (bh := 1) (wc := 0) (mc := 1) (RowAt.nil strC 1 wr (P + 2) none) h.ms (by have := h.lt; omega) (Nat.le_refl _)
  have M3 : ∀ wr, Lies w wr P → Calls Tryd.prog 17 #[.agg #[.string ⟨#[98, 49]⟩, .int .i64 5, .int .i64 4, .int .i64 1, .slice none 0 0, .slice (some { block := P + 1, off := 0 }) 1 1], .int .i64 3] wr fun e w' => e = .returned (.int .i64 0) ∧ Below wr.heap.size wr w' := fun wr h => by
    rw [← find3]
    exact find_any h.ms (by have := h.lt; omega)
  have M4 : ∀ wr, Lies w wr P → Calls Tryd.prog 19 #[.string ⟨#[98, 49]⟩, .int .i64 7] wr fun e w' => e = .returned (.string ⟨#[101, 55, 45, 98, 49]⟩) ∧ Below wr.heap.size wr w' := fun wr h => by
    rw [← own7]
    exact own_any (HT.out.below h.bel (Nat.le_refl _)) (by omega) (by decide)
  have M5 : ∀ wr, Lies w wr P → Calls Tryd.prog 24 #[.agg #[.string ⟨#[98, 49]⟩, .int .i64 5, .int .i64 4, .int .i64 1, .slice none 0 0, .slice (some { block := P + 1, off := 0 }) 1 1]] wr fun e w' => e = .returned (.int .i64 1) ∧ Below wr.heap.size wr w' := fun wr h => by
    have := unseen_any (bid := b1) (bv := 5) (bn := 4) (bh := 1) (WA := none) (wn := 0) (wc := 0) (mc := 1) h.ms (by have := h.lt; omega)
    rw [un1] at this
    exact this
  obtain ⟨_, _, a0, a1, a2, a3, a4, a5, n0, n1, n2, n3, n4, n5, _⟩ := H0.out
  have K := Lib.hid (M1 _ H0.out)
  clear M1
  go_wp2_with fail
  refine K.out.mono ?_
  rintro e w2 ⟨rfl, hb⟩
  have H1 := Lib.hid (H0.out.go hb)
  clear hb K a0 a1 a2 a3 a4 a5 n0 n1 n2 n3 n4 n5 H0
  obtain ⟨_, _, a0, a1, a2, a3, a4, a5, n0, n1, n2, n3, n4, n5, _⟩ := H1.out
  have K := Lib.hid (M2 _ H1.out)
  clear M2
  go_wp2_with fail
  refine K.out.mono ?_
  rintro e w3 ⟨rfl, hb⟩
  have H2 := Lib.hid (H1.out.go hb)
  clear hb K a0 a1 a2 a3 a4 a5 n0 n1 n2 n3 n4 n5 H1
  obtain ⟨_, _, a0, a1, a2, a3, a4, a5, n0, n1, n2, n3, n4, n5, _⟩ := H2.out
  have K := Lib.hid (M3 _ H2.out)
  clear M3
  go_wp2_with fail
  refine K.out.mono ?_
  rintro e w4 ⟨rfl, hb⟩
  have H3 := Lib.hid (H2.out.go hb)
  clear hb K a0 a1 a2 a3 a4 a5 n0 n1 n2 n3 n4 n5 H2
  obtain ⟨_, _, a0, a1, a2, a3, a4, a5, n0, n1, n2, n3, n4, n5, _⟩ := H3.out
  have K := Lib.hid (M4 _ H3.out)
  clear M4
  go_wp2_with fail
  refine K.out.mono ?_
  rintro e w5 ⟨rfl, hb⟩
  have H4 := Lib.hid (H3.out.go hb)
  clear hb K a0 a1 a2 a3 a4 a5 n0 n1 n2 n3 n4 n5 H3
  obtain ⟨_, _, a0, a1, a2, a3, a4, a5, n0, n1, n2, n3, n4, n5, _⟩ := H4.out
  have K := Lib.hid (M5 _ H4.out)
  clear M5
  go_wp2_with fail
  refine K.out.mono ?_
  rintro e w6 ⟨rfl, hb⟩
  have H5 := Lib.hid (H4.out.go hb)
  clear hb K a0 a1 a2 a3 a4 a5 n0 n1 n2 n3 n4 n5 H4
  go_wp2_with fail
  go_ret
  exact ⟨rfl, H5.out.bel⟩
end Go.Proofs.YtabcfhjfdkbhaaaDoor.BxAw
