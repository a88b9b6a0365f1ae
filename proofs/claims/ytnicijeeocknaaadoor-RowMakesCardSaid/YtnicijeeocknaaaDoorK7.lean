/-
  BxS + BxX
-/
import Derived.Test.YtnicijeeocknaaaDoorBxA
import Derived.StillTailTactics
set_option linter.unusedVariables false
set_option linter.unusedSimpArgs false
namespace Go.Proofs.YtnicijeeocknaaaDoor.BxS
open Go.RowKit Go.Proofs.YtnicijeeocknaaaDoor.BxD Go.Proofs.YtnicijeeocknaaaDoor.BxKit Go.Proofs.YtnicijeeocknaaaDoor.BxA

def eqM (a b : Msg) : Bool := decide (a = b)
theorem eqM_ne {a b : Msg} (h : a ≠ b) : eqM a b = false := decide_eq_false h
theorem eqM_eq {a b : Msg} (h : a = b) : eqM a b = true := decide_eq_true h
def eqX (a b : Box) : Bool := decide (a = b)
theorem eqX_ne {a b : Box} (h : a ≠ b) : eqX a b = false := decide_eq_false h
theorem eqX_eq {a b : Box} (h : a = b) : eqX a b = true := decide_eq_true h
theorem two_below (w : World) (o1 o2 : Obj) : Below w.heap.size w ((w.alloc o1).alloc o2) := ((Below.refl _ _).alloc (Nat.le_refl _) _).alloc (by simp) _

set_option maxHeartbeats 2000000 in
set_option maxRecDepth 100000 in
theorem refSameMsg_cells {id id' tx tx' : ByteArray} {u u' md md' d d' fl fl' : Int} {K K' : Option Addr} {kn kn' kc kc' B0 B1 : Nat} {ks ks' : List Int} {w : World} (hk : IntsAt w B0 K kn ks) (hk' : IntsAt w B1 K' kn' ks') (hB : B0 ≤ w.heap.size) (hB' : B1 ≤ w.heap.size) :
    Calls Tryd.prog 56 #[.agg #[.int .i64 u, .int .i64 md, .int .i64 d, .string id, .int .i64 fl, .slice K kn kc, .string tx],
    .agg #[.int .i64 u', .int .i64 md', .int .i64 d', .string id', .int .i64 fl', .slice K' kn' kc', .string tx']] w fun e w' => e = .returned (.bool (eqM ⟨u, md, d, id, fl, ks, tx⟩ ⟨u', md', d', id', fl', ks', tx'⟩)) ∧ Below w.heap.size w w' := by
  have KK := Lib.hid (fun o1 o2 => sameInts_any (cp := kc) (cq := kc') (IntsAt.below hk (two_below w o1 o2) hB) (IntsAt.below hk' (two_below w o1 o2) hB'))
  clear hk hk'
  by_cases hq : u ≠ u'
  · have HF := Lib.hid (eqM_ne (a := ⟨u, md, d, id, fl, ks, tx⟩) (b := ⟨u', md', d', id', fl', ks', tx'⟩) (fun e => hq (by injection e)))
    have hb : (u == u') = false := by simpa using hq
    clear hq
    go_enter Tryd.func56, Tryd.ntmps56
    go_wp2_with fail
    go_ret
    exact ⟨ret_bool HF.out.symm, two_below _ _ _⟩
  obtain rfl : u = u' := Decidable.not_not.1 hq
  clear hq
  by_cases hq : md ≠ md'
  · have HF := Lib.hid (eqM_ne (a := ⟨u, md, d, id, fl, ks, tx⟩) (b := ⟨u, md', d', id', fl', ks', tx'⟩) (fun e => hq (by injection e)))
    have hb : (md == md') = false := by simpa using hq
    clear hq
    go_enter Tryd.func56, Tryd.ntmps56
    go_wp2_with fail
    go_ret
    exact ⟨ret_bool HF.out.symm, two_below _ _ _⟩
  obtain rfl : md = md' := Decidable.not_not.1 hq
  clear hq
  by_cases hq : d ≠ d'
  · have HF := Lib.hid (eqM_ne (a := ⟨u, md, d, id, fl, ks, tx⟩) (b := ⟨u, md, d', id', fl', ks', tx'⟩) (fun e => hq (by injection e)))
    have hb : (d == d') = false := by simpa using hq
    clear hq
    go_enter Tryd.func56, Tryd.ntmps56
    go_wp2_with fail
    go_ret
    exact ⟨ret_bool HF.out.symm, two_below _ _ _⟩
  obtain rfl : d = d' := Decidable.not_not.1 hq
  clear hq
  by_cases hq : id ≠ id'
  · have HF := Lib.hid (eqM_ne (a := ⟨u, md, d, id, fl, ks, tx⟩) (b := ⟨u, md, d, id', fl', ks', tx'⟩) (fun e => hq (by injection e)))
    have hb : (id.toList == id'.toList) = false := s_ne hq
    clear hq
    go_enter Tryd.func56, Tryd.ntmps56
    go_wp2_with fail
    go_ret
    exact ⟨ret_bool HF.out.symm, two_below _ _ _⟩
  obtain rfl : id = id' := Decidable.not_not.1 hq
  clear hq
  by_cases hq : fl ≠ fl'
  · have HF := Lib.hid (eqM_ne (a := ⟨u, md, d, id, fl, ks, tx⟩) (b := ⟨u, md, d, id, fl', ks', tx'⟩) (fun e => hq (by injection e)))
    have hb : (fl == fl') = false := by simpa using hq
    clear hq
    go_enter Tryd.func56, Tryd.ntmps56
    go_wp2_with fail
    go_ret
    exact ⟨ret_bool HF.out.symm, two_below _ _ _⟩
  obtain rfl : fl = fl' := Decidable.not_not.1 hq
  clear hq
  by_cases hq : ks = ks'
  · subst hq
    have K1 := KK.out
    rw [decide_eq_true rfl] at K1
    have KL := Lib.hid K1
    clear K1 KK
    by_cases ht : tx = tx'
    · subst ht
      have HF := Lib.hid (eqM_eq (a := ⟨u, md, d, id, fl, ks, tx⟩) (b := ⟨u, md, d, id, fl, ks, tx⟩) rfl)
      go_enter Tryd.func56, Tryd.ntmps56
      go_wp2_with (go_at_call 35; refine (KL.out _ _).mono ?_; rintro e w1 ⟨rfl, n, rfl⟩)
      go_ret
      exact ⟨ret_bool HF.out.symm, below_drewN (two_below _ _ _) _⟩
    · have HF := Lib.hid (eqM_ne (a := ⟨u, md, d, id, fl, ks, tx⟩) (b := ⟨u, md, d, id, fl, ks, tx'⟩) (fun e => ht (by injection e)))
      have hb : (tx.toList == tx'.toList) = false := s_ne ht
      clear ht
      go_enter Tryd.func56, Tryd.ntmps56
      go_wp2_with (go_at_call 35; refine (KL.out _ _).mono ?_; rintro e w1 ⟨rfl, n, rfl⟩)
      go_ret
      exact ⟨ret_bool HF.out.symm, below_drewN (two_below _ _ _) _⟩
  · have HF := Lib.hid (eqM_ne (a := ⟨u, md, d, id, fl, ks, tx⟩) (b := ⟨u, md, d, id, fl, ks', tx'⟩) (fun e => hq (by injection e)))
    have K1 := KK.out
    rw [decide_eq_false hq] at K1
    have KL := Lib.hid K1
    clear K1 KK hq
    go_enter Tryd.func56, Tryd.ntmps56
    go_wp2_with (go_at_call 35; refine (KL.out _ _).mono ?_; rintro e w1 ⟨rfl, n, rfl⟩)
    go_ret
    exact ⟨ret_bool HF.out.symm, below_drewN (two_below _ _ _) _⟩

end Go.Proofs.YtnicijeeocknaaaDoor.BxS

namespace Go.Proofs.YtnicijeeocknaaaDoor.BxX
open Go.RowKit Go.Proofs.YtnicijeeocknaaaDoor.BxD Go.Proofs.YtnicijeeocknaaaDoor.BxKit Go.Proofs.YtnicijeeocknaaaDoor.BxA Go.Proofs.YtnicijeeocknaaaDoor.BxS

theorem box_msgs {a b : Box} (h : a = b) : a.msgs = b.msgs := by rw [h]
/-- Behind the making of two blocks, which stay. -/
def Two (w : World) (o1 o2 : Obj) (wr : World) : Prop := Below (w.heap.size + 2) ((w.alloc o1).alloc o2) wr
section
variable {w wr w2 : World} {o1 o2 : Obj}
theorem Two.size (h : Two w o1 o2 wr) : w.heap.size + 2 ≤ wr.heap.size := by have := Below.size h; simpa using this
theorem Two.go {n : Nat} (h : Two w o1 o2 wr) (hb : Below wr.heap.size (wr.drewN n) w2) : Two w o1 o2 w2 := Below.trans (below_drewN h n) (hb.mono (h.size))
theorem Two.below (h : Two w o1 o2 wr) : Below w.heap.size w wr := (two_below w o1 o2).trans (Below.mono h (by omega))
theorem Two.msgs {c0 c1 c2 c3 c4 c5 d0 d1 d2 d3 d4 d5 : Value} {t t' : TypeId} (h : Two w (.cells #[c0, c1, c2, c3, c4, c5] t) (.cells #[d0, d1, d2, d3, d4, d5] t') wr) :
    wr.cell? { block := w.heap.size, off := 5 } = some c5 ∧ wr.cell? { block := w.heap.size + 1, off := 5 } = some d5 := by
  refine ⟨?_, ?_⟩
  · rw [Below.cell h (p := ⟨w.heap.size, _, none⟩) (by simp)]
    simp
  · rw [Below.cell h (p := ⟨w.heap.size + 1, _, none⟩) (by simp)]
    simp
end
end Go.Proofs.YtnicijeeocknaaaDoor.BxX
