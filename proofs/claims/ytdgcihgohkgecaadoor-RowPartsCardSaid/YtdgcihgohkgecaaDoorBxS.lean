/-
  Two messages alike; two boxes alike.
-/
import Derived.Test.YtdgcihgohkgecaaDoorBxA
namespace Go.Proofs.YtdgcihgohkgecaaDoor.BxS
open Go.RowKit Go.Proofs.YtdgcihgohkgecaaDoor.BxD Go.Proofs.YtdgcihgohkgecaaDoor.BxKit Go.Proofs.YtdgcihgohkgecaaDoor.BxA

def eqM (a b : Msg) : Bool := decide (a = b)
theorem eqM_ne {a b : Msg} (h : a ≠ b) : eqM a b = false := decide_eq_false h
theorem eqM_eq {a b : Msg} (h : a = b) : eqM a b = true := decide_eq_true h
def eqX (a b : Box) : Bool := decide (a = b)
theorem eqX_ne {a b : Box} (h : a ≠ b) : eqX a b = false := decide_eq_false h
theorem eqX_eq {a b : Box} (h : a = b) : eqX a b = true := decide_eq_true h
theorem two_below (w : World) (o1 o2 : Obj) : Below w.heap.size w ((w.alloc o1).alloc o2) := ((Below.refl _ _).alloc (Nat.le_refl _) _).alloc (by simp) _

set_option maxHeartbeats 2000000 in
set_option maxRecDepth 100000 in
theorem sameMsg_cells {id id' tx tx' : ByteArray} {u u' md md' d d' fl fl' : Int} {K K' : Option Addr} {kn kn' kc kc' B0 B1 : Nat} {ks ks' : List Int} {w : World} (hk : IntsAt w B0 K kn ks) (hk' : IntsAt w B1 K' kn' ks') (hB : B0 ≤ w.heap.size) (hB' : B1 ≤ w.heap.size) :
    Calls Tryd.prog 117 #[.agg #[.int .i64 u, .int .i64 md, .int .i64 d, .string id, .int .i64 fl, .slice K kn kc, .string tx],
    .agg #[.int .i64 u', .int .i64 md', .int .i64 d', .string id', .int .i64 fl', .slice K' kn' kc', .string tx']] w fun e w' => e = .returned (.bool (eqM ⟨u, md, d, id, fl, ks, tx⟩ ⟨u', md', d', id', fl', ks', tx'⟩)) ∧ Below w.heap.size w w' := by
  have KK := Lib.hid (fun o1 o2 => equalI_any (cp := kc) (cq := kc') (IntsAt.below hk (two_below w o1 o2) hB) (IntsAt.below hk' (two_below w o1 o2) hB'))
  clear hk hk'
  by_cases hq : u ≠ u'
  · have HF := Lib.hid (eqM_ne (a := ⟨u, md, d, id, fl, ks, tx⟩) (b := ⟨u', md', d', id', fl', ks', tx'⟩) (fun e => hq (by injection e)))
    have hb : (u == u') = false := by simpa using hq
    clear hq
    go_enter Tryd.func117, Tryd.ntmps117
    go_wp2_with fail
    go_ret
    exact ⟨ret_bool HF.out.symm, two_below _ _ _⟩
  obtain rfl : u = u' := Decidable.not_not.1 hq
  clear hq
  by_cases hq : md ≠ md'
  · have HF := Lib.hid (eqM_ne (a := ⟨u, md, d, id, fl, ks, tx⟩) (b := ⟨u, md', d', id', fl', ks', tx'⟩) (fun e => hq (by injection e)))
    have hb : (md == md') = false := by simpa using hq
    clear hq
    go_enter Tryd.func117, Tryd.ntmps117
    go_wp2_with fail
    go_ret
    exact ⟨ret_bool HF.out.symm, two_below _ _ _⟩
  obtain rfl : md = md' := Decidable.not_not.1 hq
  clear hq
  by_cases hq : d ≠ d'
  · have HF := Lib.hid (eqM_ne (a := ⟨u, md, d, id, fl, ks, tx⟩) (b := ⟨u, md, d', id', fl', ks', tx'⟩) (fun e => hq (by injection e)))
    have hb : (d == d') = false := by simpa using hq
    clear hq
    go_enter Tryd.func117, Tryd.ntmps117
    go_wp2_with fail
    go_ret
    exact ⟨ret_bool HF.out.symm, two_below _ _ _⟩
  obtain rfl : d = d' := Decidable.not_not.1 hq
  clear hq
  by_cases hq : id ≠ id'
  · have HF := Lib.hid (eqM_ne (a := ⟨u, md, d, id, fl, ks, tx⟩) (b := ⟨u, md, d, id', fl', ks', tx'⟩) (fun e => hq (by injection e)))
    have hb : (id.toList == id'.toList) = false := s_ne hq
    clear hq
    go_enter Tryd.func117, Tryd.ntmps117
    go_wp2_with fail
    go_ret
    exact ⟨ret_bool HF.out.symm, two_below _ _ _⟩
  obtain rfl : id = id' := Decidable.not_not.1 hq
  clear hq
  by_cases hq : fl ≠ fl'
  · have HF := Lib.hid (eqM_ne (a := ⟨u, md, d, id, fl, ks, tx⟩) (b := ⟨u, md, d, id, fl', ks', tx'⟩) (fun e => hq (by injection e)))
    have hb : (fl == fl') = false := by simpa using hq
    clear hq
    go_enter Tryd.func117, Tryd.ntmps117
    go_wp2_with fail
    go_ret
    exact ⟨ret_bool HF.out.symm, two_below _ _ _⟩
  obtain rfl : fl = fl' := Decidable.not_not.1 hq
  clear hq
  by_cases hq : ks = ks'
  · subst hq
    have K1 := KK.out
    rw [decide_eq_true rfl] at K1
    have KL := Lib.hid K1
    clear K1 KK
    by_cases ht : tx = tx'
    · subst ht
      have HF := Lib.hid (eqM_eq (a := ⟨u, md, d, id, fl, ks, tx⟩) (b := ⟨u, md, d, id, fl, ks, tx⟩) rfl)
      go_enter Tryd.func117, Tryd.ntmps117
      go_wp2_with (go_at_call 40; refine (KL.out _ _).mono ?_; rintro e w1 ⟨rfl, n, rfl⟩)
      go_ret
      exact ⟨ret_bool HF.out.symm, below_drewN (two_below _ _ _) _⟩
    · have HF := Lib.hid (eqM_ne (a := ⟨u, md, d, id, fl, ks, tx⟩) (b := ⟨u, md, d, id, fl, ks, tx'⟩) (fun e => ht (by injection e)))
      have hb : (tx.toList == tx'.toList) = false := s_ne ht
      clear ht
      go_enter Tryd.func117, Tryd.ntmps117
      go_wp2_with (go_at_call 40; refine (KL.out _ _).mono ?_; rintro e w1 ⟨rfl, n, rfl⟩)
      go_ret
      exact ⟨ret_bool HF.out.symm, below_drewN (two_below _ _ _) _⟩
  · have HF := Lib.hid (eqM_ne (a := ⟨u, md, d, id, fl, ks, tx⟩) (b := ⟨u, md, d, id, fl, ks', tx'⟩) (fun e => hq (by injection e)))
    have K1 := KK.out
    rw [decide_eq_false hq] at K1
    have KL := Lib.hid K1
    clear K1 KK hq
    go_enter Tryd.func117, Tryd.ntmps117
    go_wp2_with (go_at_call 40; refine (KL.out _ _).mono ?_; rintro e w1 ⟨rfl, n, rfl⟩)
    go_ret
    exact ⟨ret_bool HF.out.symm, below_drewN (two_below _ _ _) _⟩

set_option maxHeartbeats 2000000 in
set_option maxRecDepth 100000 in
theorem refSameMsg_cells {id id' tx tx' : ByteArray} {u u' md md' d d' fl fl' : Int} {K K' : Option Addr} {kn kn' kc kc' B0 B1 : Nat} {ks ks' : List Int} {w : World} (hk : IntsAt w B0 K kn ks) (hk' : IntsAt w B1 K' kn' ks') (hB : B0 ≤ w.heap.size) (hB' : B1 ≤ w.heap.size) :
    Calls Tryd.prog 49 #[.agg #[.int .i64 u, .int .i64 md, .int .i64 d, .string id, .int .i64 fl, .slice K kn kc, .string tx],
    .agg #[.int .i64 u', .int .i64 md', .int .i64 d', .string id', .int .i64 fl', .slice K' kn' kc', .string tx']] w fun e w' => e = .returned (.bool (eqM ⟨u, md, d, id, fl, ks, tx⟩ ⟨u', md', d', id', fl', ks', tx'⟩)) ∧ Below w.heap.size w w' := by
  have KK := Lib.hid (fun o1 o2 => sameInts_any (cp := kc) (cq := kc') (IntsAt.below hk (two_below w o1 o2) hB) (IntsAt.below hk' (two_below w o1 o2) hB'))
  clear hk hk'
  by_cases hq : u ≠ u'
  · have HF := Lib.hid (eqM_ne (a := ⟨u, md, d, id, fl, ks, tx⟩) (b := ⟨u', md', d', id', fl', ks', tx'⟩) (fun e => hq (by injection e)))
    have hb : (u == u') = false := by simpa using hq
    clear hq
    go_enter Tryd.func49, Tryd.ntmps49
    go_wp2_with fail
    go_ret
    exact ⟨ret_bool HF.out.symm, two_below _ _ _⟩
  obtain rfl : u = u' := Decidable.not_not.1 hq
  clear hq
  by_cases hq : md ≠ md'
  · have HF := Lib.hid (eqM_ne (a := ⟨u, md, d, id, fl, ks, tx⟩) (b := ⟨u, md', d', id', fl', ks', tx'⟩) (fun e => hq (by injection e)))
    have hb : (md == md') = false := by simpa using hq
    clear hq
    go_enter Tryd.func49, Tryd.ntmps49
    go_wp2_with fail
    go_ret
    exact ⟨ret_bool HF.out.symm, two_below _ _ _⟩
  obtain rfl : md = md' := Decidable.not_not.1 hq
  clear hq
  by_cases hq : d ≠ d'
  · have HF := Lib.hid (eqM_ne (a := ⟨u, md, d, id, fl, ks, tx⟩) (b := ⟨u, md, d', id', fl', ks', tx'⟩) (fun e => hq (by injection e)))
    have hb : (d == d') = false := by simpa using hq
    clear hq
    go_enter Tryd.func49, Tryd.ntmps49
    go_wp2_with fail
    go_ret
    exact ⟨ret_bool HF.out.symm, two_below _ _ _⟩
  obtain rfl : d = d' := Decidable.not_not.1 hq
  clear hq
  by_cases hq : id ≠ id'
  · have HF := Lib.hid (eqM_ne (a := ⟨u, md, d, id, fl, ks, tx⟩) (b := ⟨u, md, d, id', fl', ks', tx'⟩) (fun e => hq (by injection e)))
    have hb : (id.toList == id'.toList) = false := s_ne hq
    clear hq
    go_enter Tryd.func49, Tryd.ntmps49
    go_wp2_with fail
    go_ret
    exact ⟨ret_bool HF.out.symm, two_below _ _ _⟩
  obtain rfl : id = id' := Decidable.not_not.1 hq
  clear hq
  by_cases hq : fl ≠ fl'
  · have HF := Lib.hid (eqM_ne (a := ⟨u, md, d, id, fl, ks, tx⟩) (b := ⟨u, md, d, id, fl', ks', tx'⟩) (fun e => hq (by injection e)))
    have hb : (fl == fl') = false := by simpa using hq
    clear hq
    go_enter Tryd.func49, Tryd.ntmps49
    go_wp2_with fail
    go_ret
    exact ⟨ret_bool HF.out.symm, two_below _ _ _⟩
  obtain rfl : fl = fl' := Decidable.not_not.1 hq
  clear hq
  by_cases hq : ks = ks'
  · subst hq
    have K1 := KK.out
    rw [decide_eq_true rfl] at K1
    have KL := Lib.hid K1
    clear K1 KK
    by_cases ht : tx = tx'
    · subst ht
      have HF := Lib.hid (eqM_eq (a := ⟨u, md, d, id, fl, ks, tx⟩) (b := ⟨u, md, d, id, fl, ks, tx⟩) rfl)
      go_enter Tryd.func49, Tryd.ntmps49
      go_wp2_with (go_at_call 43; refine (KL.out _ _).mono ?_; rintro e w1 ⟨rfl, n, rfl⟩)
      go_ret
      exact ⟨ret_bool HF.out.symm, below_drewN (two_below _ _ _) _⟩
    · have HF := Lib.hid (eqM_ne (a := ⟨u, md, d, id, fl, ks, tx⟩) (b := ⟨u, md, d, id, fl, ks, tx'⟩) (fun e => ht (by injection e)))
      have hb : (tx.toList == tx'.toList) = false := s_ne ht
      clear ht
      go_enter Tryd.func49, Tryd.ntmps49
      go_wp2_with (go_at_call 43; refine (KL.out _ _).mono ?_; rintro e w1 ⟨rfl, n, rfl⟩)
      go_ret
      exact ⟨ret_bool HF.out.symm, below_drewN (two_below _ _ _) _⟩
  · have HF := Lib.hid (eqM_ne (a := ⟨u, md, d, id, fl, ks, tx⟩) (b := ⟨u, md, d, id, fl, ks', tx'⟩) (fun e => hq (by injection e)))
    have K1 := KK.out
    rw [decide_eq_false hq] at K1
    have KL := Lib.hid K1
    clear K1 KK hq
    go_enter Tryd.func49, Tryd.ntmps49
    go_wp2_with (go_at_call 43; refine (KL.out _ _).mono ?_; rintro e w1 ⟨rfl, n, rfl⟩)
    go_ret
    exact ⟨ret_bool HF.out.symm, below_drewN (two_below _ _ _) _⟩

set_option maxHeartbeats 2000000 in
set_option maxRecDepth 100000 in
theorem equalMsgs_any {A A' : Option Addr} {n n' cp cp' B0 B1 : Nat} {ms ms' : List Msg} {w : World} (hx : MsgsAt w B0 A n ms) (hy : MsgsAt w B1 A' n' ms') (hB : B0 ≤ w.heap.size) (hB' : B1 ≤ w.heap.size) :
    Calls Tryd.prog 116 #[.slice A n cp, .slice A' n' cp', .func (.func 117) #[] #[]] w fun e w' => e = .returned (.bool (decide (ms = ms'))) ∧ Below w.heap.size w w' := by
  by_cases hnm : n = n'
  · subst hnm
    have HX := Lib.hid hx
    have HY := Lib.hid hy
    have hn := hx.max
    have hnb : ((n : Int) != (n : Int)) = false := by simp
    clear hx hy
    go_enter Tryd.func116, Tryd.ntmps116
    go_wp2_with fail
    go_loopw [17] (fun s17 wr => ∃ k : Nat, k ≤ n ∧ s17 = .int .i64 k ∧ Hid (ms.take k = ms'.take k) ∧ Hid (Below w.heap.size w wr)) (fun s17 _ => n - (intOf s17).toNat)
    case atStart => exact ⟨0, Nat.zero_le _, rfl, rfl, Below.refl _ _⟩
    case round =>
      obtain ⟨k, hk, rfl, HT, HA⟩ := hrel
      by_cases hlt : k < n
      · obtain ⟨ad, u, md, d, id, fl, ks, tx, K, kn, kc, rfl, hab, e1, c0, c1, c2, c3, c4, c5, c6, _, hks, _, _⟩ := MsgsAt.sp HX.out HA.out hB hlt
        obtain ⟨ad', u', md', d', id', fl', ks', tx', K', kn', kc', rfl, hab', e2, c0', c1', c2', c3', c4', c5', c6', _, hks', _, _⟩ := MsgsAt.sp HY.out (HA.out.alloc HA.out.size (.cells #[.int .i64 u, .int .i64 md, .int .i64 d, .string id, .int .i64 fl, .slice K kn kc, .string tx] 28)) hB' hlt
        have C : ∀ o, Calls Tryd.prog 117 #[.agg #[.int .i64 u, .int .i64 md, .int .i64 d, .string id, .int .i64 fl, .slice K kn kc, .string tx], 
    .agg #[.int .i64 u', .int .i64 md', .int .i64 d', .string id', .int .i64 fl', .slice K' kn' kc', .string tx']] ((wr.alloc (.cells #[.int .i64 u, .int .i64 md, .int .i64 d, .string id, .int .i64 fl, .slice K kn kc, .string tx] 28)).alloc o)
            fun e w' => e = .returned (.bool (eqM ⟨u, md, d, id, fl, ks, tx⟩ ⟨u', md', d', id', fl', ks', tx'⟩)) ∧ Below ((wr.alloc (.cells #[.int .i64 u, .int .i64 md, .int .i64 d, .string id, .int .i64 fl, .slice K kn kc, .string tx] 28)).alloc o).heap.size ((wr.alloc (.cells #[.int .i64 u, .int .i64 md, .int .i64 d, .string id, .int .i64 fl, .slice K kn kc, .string tx] 28)).alloc o) w' := fun o =>
          sameMsg_cells (IntsAt.below hks (two_below wr _ o) (by have := HA.out.size; omega)) (IntsAt.below hks' (((Below.refl (wr.alloc (.cells #[.int .i64 u, .int .i64 md, .int .i64 d, .string id, .int .i64 fl, .slice K kn kc, .string tx] 28)).heap.size _)).alloc (Nat.le_refl _) o) (by have := HA.out.size; simp; omega)) (by have := HA.out.size; simp; omega) (by have := HA.out.size; simp; omega)
        have HC := Lib.hid (fun o => (HA.out.alloc HA.out.size (.cells #[.int .i64 u, .int .i64 md, .int .i64 d, .string id, .int .i64 fl, .slice K kn kc, .string tx] 28)).alloc (by have := HA.out.size; simp; omega) o)
        have hz : w.heap.size ≤ wr.heap.size := HA.out.size
        have g1 : (0 : Int) ≤ (k : Int) := by omega
        have g2 : (k : Int) < (n : Int) := by omega
        clear hks hks'
        by_cases hq : (⟨u, md, d, id, fl, ks, tx⟩ : Msg) = ⟨u', md', d', id', fl', ks', tx'⟩
        · rw [eqM_eq hq] at C
          have HT2 := Lib.hid (take_eq_snoc HT.out e1 (by rw [hq]; exact e2))
          have K1 := Lib.hid C
          clear C hq e1 e2
          go_wp2_with (go_at_call 117; refine (K1.out _).mono ?_; rintro e w1 ⟨rfl, hb1⟩)
          have HD := Lib.hid ((HC.out _).trans (hb1.mono (by have := HA.out.size; simp; omega)))
          go_roundw
          case rel => exact ⟨k + 1, by omega, by go_num, HT2, HD⟩
          case measure => simp [intOf]; omega
        · rw [eqM_ne hq] at C
          have HF := Lib.hid (show decide (ms = ms') = false from decide_eq_false (fun e => hq (by rw [e, e2] at e1; injection e1 with e1; exact e1.symm)))
          have K1 := Lib.hid C
          clear C hq e1 e2
          go_wp2_with (go_at_call 117; refine (K1.out _).mono ?_; rintro e w1 ⟨rfl, hb1⟩)
          go_ret
          exact ⟨ret_bool HF.out.symm, (HC.out _).trans (hb1.mono (by have := HA.out.size; simp; omega))⟩
      · obtain rfl : n = k := by omega
        have HE := Lib.hid (show decide (ms = ms') = true from decide_eq_true (by have h := HT.out; rw [take_len HX.out.len, take_len HY.out.len] at h; exact h))
        go_wp2_with fail
        go_ret
        exact ⟨ret_bool HE.out.symm, HA.out⟩
  · have HF := Lib.hid (show decide (ms = ms') = false from decide_eq_false (fun e => hnm (by rw [← hx.len, ← hy.len, e])))
    have hnb : ((n : Int) != (n' : Int)) = true := by simp; omega
    clear hnm
    go_enter Tryd.func116, Tryd.ntmps116
    go_wp2_with fail
    go_ret
    exact ⟨ret_bool HF.out.symm, Below.refl _ _⟩

end Go.Proofs.YtdgcihgohkgecaaDoor.BxS
