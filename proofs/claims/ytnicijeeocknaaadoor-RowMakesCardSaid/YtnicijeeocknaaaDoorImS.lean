/-
  The document's SameRows of like rows answers true.
-/
import Derived.Test.YtnicijeeocknaaaDoorL3
import Derived.Test.YtnicijeeocknaaaDoorK7
import Derived.StillTailTactics
set_option linter.unusedVariables false
set_option linter.unusedSimpArgs false
namespace Go.Proofs.YtnicijeeocknaaaDoor.ImS
open Go.RowKit Go.Proofs.YtnicijeeocknaaaDoor.BxD Go.Proofs.YtnicijeeocknaaaDoor.BxKit Go.Proofs.YtnicijeeocknaaaDoor.BxA Go.Proofs.YtnicijeeocknaaaDoor.BxS Go.Proofs.YtnicijeeocknaaaDoor.BxX Go.Proofs.YtnicijeeocknaaaDoor.RwD Go.Proofs.YtnicijeeocknaaaDoor.RwKit

set_option maxHeartbeats 4000000 in
set_option maxRecDepth 100000 in
theorem sameRow_eq {rk ru rm u md d fl : Int} {id tx rt : ByteArray} {K K' : Option Addr} {kn kn' kc kc' B0 B1 : Nat} {ks : List Int} {w : World} (hk : IntsAt w B0 K kn ks) (hk' : IntsAt w B1 K' kn' ks) (hB : B0 ≤ w.heap.size) (hB' : B1 ≤ w.heap.size) :
    Calls Tryd.prog 37 #[.agg #[.int .i64 rk, .int .i64 ru, .int .i64 rm, .int .i64 u, .int .i64 md, .int .i64 d, .string id, .int .i64 fl, .slice K kn kc, .string tx, .string rt],
      .agg #[.int .i64 rk, .int .i64 ru, .int .i64 rm, .int .i64 u, .int .i64 md, .int .i64 d, .string id, .int .i64 fl, .slice K' kn' kc', .string tx, .string rt]] w fun e w' => e = .returned (.bool true) ∧ Below w.heap.size w w' := by
  have kk := fun o1 o2 => refSameMsg_cells (u := u) (u' := u) (md := md) (md' := md) (d := d) (d' := d) (id := id) (id' := id) (fl := fl) (fl' := fl) (tx := tx) (tx' := tx) (kc := kc) (kc' := kc') (IntsAt.below hk (two_below w o1 o2) hB) (IntsAt.below hk' (two_below w o1 o2) hB') (by simp; omega) (by simp; omega)
  have HB := Lib.hid (two_below w (.cells #[.int .i64 rk, .int .i64 ru, .int .i64 rm, .int .i64 u, .int .i64 md, .int .i64 d, .string id, .int .i64 fl, .slice K kn kc, .string tx, .string rt] 51) (.cells #[.int .i64 rk, .int .i64 ru, .int .i64 rm, .int .i64 u, .int .i64 md, .int .i64 d, .string id, .int .i64 fl, .slice K' kn' kc', .string tx, .string rt] 51))
  simp only [eqM_eq (rfl : (⟨u, md, d, id, fl, ks, tx⟩ : Msg) = ⟨u, md, d, id, fl, ks, tx⟩)] at kk
  have KK := Lib.hid kk
  clear hk hk' kk
  go_enter Tryd.func37, Tryd.ntmps37
  go_wp2_with (go_at_call 56; go_loud (refine (KK.out _ _).mono ?_; rintro e w1 ⟨rfl, hb1⟩; have HB1 := Lib.hid (HB.out.trans (hb1.mono HB.out.size)); clear hb1))
  go_ret
  exact ⟨rfl, HB1.out⟩
set_option maxHeartbeats 4000000 in
set_option maxRecDepth 100000 in
theorem sameRows_eq {A A' : Option Addr} {n n' c c' B B' : Nat} {l : List Row} {w : World} (hx : RowsAt w B A n l) (hy : RowsAt w B' A' n' l) (hB : B ≤ w.heap.size) (hB' : B' ≤ w.heap.size) :
    Calls Tryd.prog 13 #[.slice A n c, .slice A' n' c'] w fun e w' => e = .returned (.bool true) ∧ Below w.heap.size w w' := by
  obtain rfl : n = n' := hx.len.symm.trans hy.len
  have HX := Lib.hid hx
  have HY := Lib.hid hy
  have hn := hx.max
  clear hx hy
  have hnb : ((n : Int) != (n : Int)) = false := by simp
  go_enter Tryd.func13, Tryd.ntmps13
  go_wp2_with fail
  go_loopw [13] (fun s13 wr => ∃ k : Nat, k ≤ n ∧ s13 = .int .i64 k ∧ Hid (Below w.heap.size w wr)) (fun s13 _ => n - (intOf s13).toNat)
  case atStart => exact ⟨0, Nat.zero_le _, rfl, Below.refl _ _⟩
  case round =>
    obtain ⟨k, hk, rfl, HA⟩ := hrel
    rename_i wr
    by_cases hlt : k < n
    · obtain ⟨ad, rk, ru, rm, u, md, d, id, fl, ks, tx, rt, K, kn, kc, rfl, hab, e1, c0, c1, c2, c3, c4, c5, c6, c7, c8, c9, c10, _, hks, _, _⟩ := RowsAt.sp HX.out HA.out hB hlt
      obtain ⟨ad', rk', ru', rm', u', md', d', id', fl', ks', tx', rt', K', kn', kc', rfl, hab', e2, c0', c1', c2', c3', c4', c5', c6', c7', c8', c9', c10', _, hks', _, _⟩ := RowsAt.sp HY.out HA.out hB' hlt
      have e3 := Option.some.inj (e1.symm.trans e2)
      injection e3 with f1 f2 f3 f4 f5
      injection f4 with g1 g2 g3 g4 g5 g6 g7
      subst f1 f2 f3 f5 g1 g2 g3 g4 g5 g6 g7
      have hs := HA.out.size
      have K1 := Lib.hid (fun q => sameRow_eq (rk := rk) (ru := ru) (rm := rm) (u := u) (md := md) (d := d) (fl := fl) (id := id) (tx := tx) (rt := rt) (kc := kc) (kc' := kc') (IntsAt.below hks (below_drewN (Below.refl wr.heap.size wr) q) (by omega)) (IntsAt.below hks' (below_drewN (Below.refl wr.heap.size wr) q) (by omega)) (show _ ≤ wr.heap.size by omega) (show _ ≤ wr.heap.size by omega))
      have g1 : (0 : Int) ≤ (k : Int) := by omega
      have g2 : (k : Int) < (n : Int) := by omega
      clear hks hks' e1 e2
      go_wp2_with fail
      go_still_tail 8, (by kernel_rfl)
      go_wp2_with ((go_at_call 37; go_loud (refine (K1.out _).mono ?_; rintro e w2 ⟨rfl, hb2⟩; have HD := Lib.hid ((below_drewN HA.out _).trans (hb2.mono (by show w.heap.size ≤ wr.heap.size; omega))); clear hb2)))
      go_roundw
      case rel => exact ⟨k + 1, by omega, by go_num, HD⟩
      case measure => simp [intOf]; omega
    · obtain rfl : n = k := by omega
      go_wp2_with fail
      go_ret
      exact ⟨rfl, HA.out⟩
end Go.Proofs.YtnicijeeocknaaaDoor.ImS
