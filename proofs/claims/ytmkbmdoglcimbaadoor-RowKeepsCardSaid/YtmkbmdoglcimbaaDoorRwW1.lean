/-
  Rows done to a box of the call's own: a word more, a greater High, keys told again.
-/
import Derived.Test.YtmkbmdoglcimbaaDoorRwOwn
import Derived.Test.YtmkbmdoglcimbaaDoorBxB
import Derived.Test.YtmkbmdoglcimbaaDoorBxAtom
import Derived.Deep.DeepCutAuto
namespace Go.Proofs.YtmkbmdoglcimbaaDoor.RwW1
open Go.RowKit Go.Proofs.YtmkbmdoglcimbaaDoor.BxD Go.Proofs.YtmkbmdoglcimbaaDoor.BxKit Go.Proofs.YtmkbmdoglcimbaaDoor.BxA Go.Proofs.YtmkbmdoglcimbaaDoor.BxR Go.Proofs.YtmkbmdoglcimbaaDoor.BxC Go.Proofs.YtmkbmdoglcimbaaDoor.RwD Go.Proofs.YtmkbmdoglcimbaaDoor.RwKit Go.Proofs.YtmkbmdoglcimbaaDoor.RwOwn Go.Proofs.YtmkbmdoglcimbaaDoor.BxAtom

theorem below_none {w w' : World} (h : w.grownBy w' none) : Below w.heap.size w w' := ⟨h.os, h.tape, h.output, h.size, fun k hk => h.block k hk (by simp)⟩
/-- Ints told again, in a row of the call's own. -/
def ClPost (ks : List Int) (w : World) (e : Ending) (w' : World) : Prop :=
  ∃ A c, e = .returned (.slice A ks.length c) ∧ w'.ownsRow w.heap.size 3 1 (.slice A ks.length c) ks.length (ks.map (Value.int .i64)) ∧ Below w.heap.size w w'
set_option maxHeartbeats 1000000 in
theorem cloned_any {K : Option Addr} {kn kc B : Nat} {ks : List Int} {w : World} (hk : IntsAt w B K kn ks) (h6 : kn ≤ 1000000) : Calls Tryd.prog 88 #[.slice K kn kc] w (ClPost ks w) := by
  have hl := hk.len
  subst hl
  have HS := Lib.hid (ints_src hk)
  clear hk
  go_enter Tryd.func88, Tryd.ntmps88
  go_upto_region 1 with fail
  go_wp2_with (at_builtin
               refine wpList_rows elI rfl _ _ rfl rfl rfl (World.ownsRow_nil _ w.heap.size _ _) HS.out (by unfold maxLen; omega) (by omega) (Nat.le_refl _) ?_
               intro v1 w1 hown hg _
               obtain ⟨A1, k1, rfl, hk1⟩ := own_slice hown
               rw [Nat.zero_add, List.nil_append] at hown
               have HO := Lib.hid hown
               have HG := Lib.hid (below_none hg)
               clear hown hg)
  go_ret
  exact ⟨A1, k1, rfl, HO.out, HG.out⟩

theorem SB.start {w : World} {base : Nat} {b : Box} {vw vm : Value} {rs : List Raw} (h : OB w base b vw vm rs) (hb : base ≤ w.heap.size) :
    SB w ((w.alloc (.cells #[.string b.id, .int .i64 b.valid, .int .i64 b.next, .int .i64 b.high, vw, vm] 25)).alloc (.cells #[.string ⟨#[]⟩, .int .i64 0, .int .i64 0, .int .i64 0, .slice none 0 0, .slice none 0 0] 25)) base w.heap.size (w.heap.size + 1) b vw vm rs := by
  have hB : Below w.heap.size w ((w.alloc (.cells #[.string b.id, .int .i64 b.valid, .int .i64 b.next, .int .i64 b.high, vw, vm] 25)).alloc (.cells #[.string ⟨#[]⟩, .int .i64 0, .int .i64 0, .int .i64 0, .slice none 0 0, .slice none 0 0] 25)) := ((Below.refl _ _).alloc (Nat.le_refl _) _).alloc (by simp) _
  refine ⟨hB.mono hb, hb, Nat.le_refl _, by omega, by omega, ?_, ?_, h.go hB, ?_⟩
  · exact (heap_alloc_old _ _ (by simp)).trans (heap_alloc_new w _)
  · have := heap_alloc_new (w.alloc (.cells #[.string b.id, .int .i64 b.valid, .int .i64 b.next, .int .i64 b.high, vw, vm] 25)) (.cells #[.string ⟨#[]⟩, .int .i64 0, .int .i64 0, .int .i64 0, .slice none 0 0, .slice none 0 0] 25)
    simpa using this
  · exact fun k cs t fr hk _ _ => hB.block k (Array.getElem?_eq_some_iff.1 hk).1
def highE (m : Int) : Int := if modB m then 0 else 1
def highB (b : Box) (m : Int) : Box := ⟨b.id, b.valid, b.next, max b.high m, b.words, b.msgs⟩
def wordE (b : Box) (x : ByteArray) : Int := if atB x = false then 1 else if x ∈ b.words then 7 else if 64 ≤ b.words.length then 4 else 0
def wordB (b : Box) (x : ByteArray) : Box := ⟨b.id, b.valid, b.next, b.high, b.words ++ [x], b.msgs⟩
def either (e : Int) (b : Box) : Box := if e = 0 then b else noB

set_option maxHeartbeats 2000000 in
set_option maxRecDepth 100000 in
theorem withHigh_any {w : World} {base : Nat} {b : Box} {vw vm : Value} {rs : List Raw} {m : Int} (h : OB w base b vw vm rs) (hb : base ≤ w.heap.size) :
    Calls Tryd.prog 73 #[.agg #[.string b.id, .int .i64 b.valid, .int .i64 b.next, .int .i64 b.high, vw, vm], .int .i64 m] w (WO (either (highE m) (highB b m)) (highE m) base w) := by
  obtain ⟨WA, wc, MA, mcp, rfl, rfl, _, _⟩ := h.slices
  have P0 := Lib.hid (SB.start h hb)
  clear h
  by_cases hm : modB m = true
  · have hE : highE m = 0 := by unfold highE; rw [if_pos hm]
    rw [hE]
    unfold either
    rw [if_pos rfl]
    obtain ⟨m1, m2⟩ := inB_out hm
    clear hm hE
    have g1 : ¬ m < 1 := by omega
    have g2 : ¬ m > 1000000 := by omega
    go_enter Tryd.func73, Tryd.ntmps73
    go_upto_region 1 with fail
    generalize (World.alloc (World.alloc w _) _) = w1 at P0 ⊢
    obtain ⟨c0, c1, c2, c3, c4, c5⟩ := P0.out.facts
    have c6 := P0.out.free 3
    go_upto_region 4 with fail
    have e : (if b.high < m then m else b.high) = max b.high m := by split <;> omega
    rw [e]
    clear e c0 c1 c2 c3 c4 c5 c6
    have P1 := Lib.hid (P0.out.set3 (max b.high m))
    clear P0
    generalize (World.setCell w1 _ _) = w2 at P1 ⊢
    obtain ⟨c0, c1, c2, c3, c4, c5⟩ := P1.out.facts
    obtain ⟨d0, d1, d2, d3, d4, d5, f0, f1, f2, f3, f4, f5⟩ := P1.out.room
    go_wp2_with fail
    obtain ⟨W, hW, q0, q1, q2, q3, q4, q5, hO⟩ := P1.out.ret 0
    unfold put6 at hW
    rw [← hW]
    refine bodyPost_ret (v := .tuple #[.agg #[.string b.id, .int .i64 b.valid, .int .i64 b.next, .int .i64 (max b.high m), .slice WA b.words.length wc, .slice MA b.msgs.length mcp], .int .i64 0]) (by simp [results, Tryd.results73, go_sem, q0, q1, q2, q3, q4, q5]) rfl hO
  · have hE : highE m = 1 := by unfold highE; rw [if_neg hm]
    rw [hE]
    unfold either
    rw [if_neg (by decide)]
    have hm2 : m < 1 ∨ 1000000 < m := by
      rcases Int.lt_or_le m 1 with h1 | h1
      · exact .inl h1
      · rcases Int.lt_or_le 1000000 m with h2 | h2
        · exact .inr h2
        · exact absurd (inB_true h1 h2) hm
    clear hm hE
    go_enter Tryd.func73, Tryd.ntmps73
    go_upto_region 1 with fail
    generalize (World.alloc (World.alloc w _) _) = w1 at P0 ⊢
    obtain ⟨d0, d1, d2, d3, d4, d5, f0, f1, f2, f3, f4, f5⟩ := P0.out.room
    rcases hm2 with h1 | h1
    · go_wp2_with fail
      obtain ⟨W, hW, q0, q1, q2, q3, q4, q5, hO⟩ := P0.out.err 1
      unfold put6 at hW
      rw [← hW]
      refine bodyPost_ret (v := .tuple #[.agg #[.string ⟨#[]⟩, .int .i64 0, .int .i64 0, .int .i64 0, .slice none 0 0, .slice none 0 0], .int .i64 1]) (by simp [results, Tryd.results73, go_sem, q0, q1, q2, q3, q4, q5]) rfl hO
    · have h2 : ¬ m < 1 := by omega
      go_wp2_with fail
      obtain ⟨W, hW, q0, q1, q2, q3, q4, q5, hO⟩ := P0.out.err 1
      unfold put6 at hW
      rw [← hW]
      refine bodyPost_ret (v := .tuple #[.agg #[.string ⟨#[]⟩, .int .i64 0, .int .i64 0, .int .i64 0, .slice none 0 0, .slice none 0 0], .int .i64 1]) (by simp [results, Tryd.results73, go_sem, q0, q1, q2, q3, q4, q5]) rfl hO

end Go.Proofs.YtmkbmdoglcimbaaDoor.RwW1
