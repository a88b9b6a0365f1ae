/-
  Two messages alike; two boxes alike.
-/
import Derived.Test.YtdgcihgohkgecaaBxA
namespace Go.Proofs.Ytdgcihgohkgecaa.BxS
open Go.RowKit Go.Proofs.Ytdgcihgohkgecaa.BxD Go.Proofs.Ytdgcihgohkgecaa.BxKit Go.Proofs.Ytdgcihgohkgecaa.BxA

def eqM (a b : Msg) : Bool := decide (a = b)
theorem eqM_ne {a b : Msg} (h : a ≠ b) : eqM a b = false := decide_eq_false h
theorem eqM_eq {a b : Msg} (h : a = b) : eqM a b = true := decide_eq_true h
def eqX (a b : Box) : Bool := decide (a = b)
theorem eqX_ne {a b : Box} (h : a ≠ b) : eqX a b = false := decide_eq_false h
theorem eqX_eq {a b : Box} (h : a = b) : eqX a b = true := decide_eq_true h
theorem two_below (w : World) (o1 o2 : Obj) : Below w.heap.size w ((w.alloc o1).alloc o2) := ((Below.refl _ _).alloc (Nat.le_refl _) _).alloc (by simp) _

set_option maxHeartbeats 2000000 in
set_option maxRecDepth 100000 in
theorem refSameMsg_cells {id id' tx tx' : ByteArray} {u u' md md' d d' fl fl' : Int} {K K' : Option Addr} {kn kn' kc kc' B0 B1 : Nat} {ks ks' : List Int} {w : World} (hk : IntsAt w B0 K kn ks) (hk' : IntsAt w B1 K' kn' ks') (hB : B0 ≤ w.heap.size) (hB' : B1 ≤ w.heap.size) :
    Calls Try.prog 27 #[.agg #[.int .i64 u, .int .i64 md, .int .i64 d, .string id, .int .i64 fl, .slice K kn kc, .string tx],
    .agg #[.int .i64 u', .int .i64 md', .int .i64 d', .string id', .int .i64 fl', .slice K' kn' kc', .string tx']] w fun e w' => e = .returned (.bool (eqM ⟨u, md, d, id, fl, ks, tx⟩ ⟨u', md', d', id', fl', ks', tx'⟩)) ∧ Below w.heap.size w w' := by
  have KK := Lib.hid (fun o1 o2 => sameInts_any (cp := kc) (cq := kc') (IntsAt.below hk (two_below w o1 o2) hB) (IntsAt.below hk' (two_below w o1 o2) hB'))
  clear hk hk'
  by_cases hq : u ≠ u'
  · have HF := Lib.hid (eqM_ne (a := ⟨u, md, d, id, fl, ks, tx⟩) (b := ⟨u', md', d', id', fl', ks', tx'⟩) (fun e => hq (by injection e)))
    have hb : (u == u') = false := by simpa using hq
    clear hq
    go_enter Try.func27, Try.ntmps27
    go_wp2_with fail
    go_ret
    exact ⟨ret_bool HF.out.symm, two_below _ _ _⟩
  obtain rfl : u = u' := Decidable.not_not.1 hq
  clear hq
  by_cases hq : md ≠ md'
  · have HF := Lib.hid (eqM_ne (a := ⟨u, md, d, id, fl, ks, tx⟩) (b := ⟨u, md', d', id', fl', ks', tx'⟩) (fun e => hq (by injection e)))
    have hb : (md == md') = false := by simpa using hq
    clear hq
    go_enter Try.func27, Try.ntmps27
    go_wp2_with fail
    go_ret
    exact ⟨ret_bool HF.out.symm, two_below _ _ _⟩
  obtain rfl : md = md' := Decidable.not_not.1 hq
  clear hq
  by_cases hq : d ≠ d'
  · have HF := Lib.hid (eqM_ne (a := ⟨u, md, d, id, fl, ks, tx⟩) (b := ⟨u, md, d', id', fl', ks', tx'⟩) (fun e => hq (by injection e)))
    have hb : (d == d') = false := by simpa using hq
    clear hq
    go_enter Try.func27, Try.ntmps27
    go_wp2_with fail
    go_ret
    exact ⟨ret_bool HF.out.symm, two_below _ _ _⟩
  obtain rfl : d = d' := Decidable.not_not.1 hq
  clear hq
  by_cases hq : id ≠ id'
  · have HF := Lib.hid (eqM_ne (a := ⟨u, md, d, id, fl, ks, tx⟩) (b := ⟨u, md, d, id', fl', ks', tx'⟩) (fun e => hq (by injection e)))
    have hb : (id.toList == id'.toList) = false := s_ne hq
    clear hq
    go_enter Try.func27, Try.ntmps27
    go_wp2_with fail
    go_ret
    exact ⟨ret_bool HF.out.symm, two_below _ _ _⟩
  obtain rfl : id = id' := Decidable.not_not.1 hq
  clear hq
  by_cases hq : fl ≠ fl'
  · have HF := Lib.hid (eqM_ne (a := ⟨u, md, d, id, fl, ks, tx⟩) (b := ⟨u, md, d, id, fl', ks', tx'⟩) (fun e => hq (by injection e)))
    have hb : (fl == fl') = false := by simpa using hq
    clear hq
    go_enter Try.func27, Try.ntmps27
    go_wp2_with fail
    go_ret
    exact ⟨ret_bool HF.out.symm, two_below _ _ _⟩
  obtain rfl : fl = fl' := Decidable.not_not.1 hq
  clear hq
  by_cases hq : ks = ks'
  · subst hq
    have K1 := KK.out
    rw [decide_eq_true rfl] at K1
    have KL := Lib.hid K1
    clear K1 KK
    by_cases ht : tx = tx'
    · subst ht
      have HF := Lib.hid (eqM_eq (a := ⟨u, md, d, id, fl, ks, tx⟩) (b := ⟨u, md, d, id, fl, ks, tx⟩) rfl)
      go_enter Try.func27, Try.ntmps27
      go_wp2_with (go_at_call 43; refine (KL.out _ _).mono ?_; rintro e w1 ⟨rfl, n, rfl⟩)
      go_ret
      exact ⟨ret_bool HF.out.symm, below_drewN (two_below _ _ _) _⟩
    · have HF := Lib.hid (eqM_ne (a := ⟨u, md, d, id, fl, ks, tx⟩) (b := ⟨u, md, d, id, fl, ks, tx'⟩) (fun e => ht (by injection e)))
      have hb : (tx.toList == tx'.toList) = false := s_ne ht
      clear ht
      go_enter Try.func27, Try.ntmps27
      go_wp2_with (go_at_call 43; refine (KL.out _ _).mono ?_; rintro e w1 ⟨rfl, n, rfl⟩)
      go_ret
      exact ⟨ret_bool HF.out.symm, below_drewN (two_below _ _ _) _⟩
  · have HF := Lib.hid (eqM_ne (a := ⟨u, md, d, id, fl, ks, tx⟩) (b := ⟨u, md, d, id, fl, ks', tx'⟩) (fun e => hq (by injection e)))
    have K1 := KK.out
    rw [decide_eq_false hq] at K1
    have KL := Lib.hid K1
    clear K1 KK hq
    go_enter Try.func27, Try.ntmps27
    go_wp2_with (go_at_call 43; refine (KL.out _ _).mono ?_; rintro e w1 ⟨rfl, n, rfl⟩)
    go_ret
    exact ⟨ret_bool HF.out.symm, below_drewN (two_below _ _ _) _⟩

end Go.Proofs.Ytdgcihgohkgecaa.BxS
