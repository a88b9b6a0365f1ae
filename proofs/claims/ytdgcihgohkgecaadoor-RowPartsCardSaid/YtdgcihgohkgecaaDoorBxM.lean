/-
  MayMsg, of the program and of the document.
-/
import Derived.Test.YtdgcihgohkgecaaDoorBxA
import Derived.Test.YtdgcihgohkgecaaDoorBxAtom
namespace Go.Proofs.YtdgcihgohkgecaaDoor.BxM
open Go.RowKit Go.Proofs.YtdgcihgohkgecaaDoor.BxD Go.Proofs.YtdgcihgohkgecaaDoor.BxKit Go.Proofs.YtdgcihgohkgecaaDoor.BxA Go.Proofs.YtdgcihgohkgecaaDoor.BxAtom

theorem mmE_true {n : Nat} {m : Msg} (h : mmB n m = true) : mmE n m = 0 := by unfold mmE; rw [if_pos h]
theorem mmE_false {n : Nat} {m : Msg} (h : mmB n m = false) : mmE n m = 1 := by unfold mmE; rw [h]; rfl
theorem mm_bad {n : Nat} {m : Msg} (h : inB 1 m.uid 999999 = false ∨ inB 1 m.mod 1000000 = false ∨ inB 0 m.date 1000000 = false ∨ atB m.id = false ∨ inB 0 m.flags 31 = false ∨ keysB m.keys n = false ∨ 300 < m.text.size) : mmE n m = 1 := by
  refine mmE_false ?_
  unfold mmB
  rcases h with h | h | h | h | h | h | h
  all_goals first | (rw [h]; simp) | (rw [decide_eq_false (show ¬ m.text.size ≤ 300 by omega)]; simp)
theorem mm_good {n : Nat} {m : Msg} (h1 : inB 1 m.uid 999999 = true) (h2 : inB 1 m.mod 1000000 = true) (h3 : inB 0 m.date 1000000 = true) (h4 : atB m.id = true) (h5 : inB 0 m.flags 31 = true) (h6 : keysB m.keys n = true) (h7 : m.text.size ≤ 300) : mmE n m = 0 := by
  refine mmE_true ?_
  unfold mmB
  rw [h1, h2, h3, h4, h5, h6, decide_eq_true h7]; rfl
theorem two_below (w : World) (o1 o2 : Obj) : Below w.heap.size w ((w.alloc o1).alloc o2) := ((Below.refl _ _).alloc (Nat.le_refl _) _).alloc (by simp) _

set_option maxHeartbeats 1000000 in
set_option maxRecDepth 100000 in
theorem mayMsg_cells {bid id tx : ByteArray} {bv bn bh u md d fl : Int} {WA MA KA : Option Addr} {wn wc mn mc kn kc B0 : Nat} {ks : List Int} {w : World} (hk : IntsAt w B0 KA kn ks) (hB : B0 ≤ w.heap.size) (hwn : wn ≤ 140737488355328) :
    Calls Tryd.prog 30 #[.agg #[.string bid, .int .i64 bv, .int .i64 bn, .int .i64 bh, .slice WA wn wc, .slice MA mn mc], .agg #[.int .i64 u, .int .i64 md, .int .i64 d, .string id, .int .i64 fl, .slice KA kn kc, .string tx]] w fun e w' => e = .returned (.int .i64 (mmE wn ⟨u, md, d, id, fl, ks, tx⟩)) ∧ Below w.heap.size w w' := by
  have C5 : ∀ o1 o2, Calls Tryd.prog 68 #[.slice KA kn kc, .int .i64 wn] ((w.alloc o1).alloc o2) fun e w' => e = .returned (.bool (keysB ks wn)) ∧ ((w.alloc o1).alloc o2) = w' := fun o1 o2 => mayKeys_any (cp := kc) wn (IntsAt.below hk (two_below w o1 o2) hB) hwn
  clear hk
  have K5 := Lib.hid C5
  clear C5
  by_cases t0 : inB 1 u 999999 = false
  · have HF := Lib.hid (mm_bad (n := wn) (m := ⟨u, md, d, id, fl, ks, tx⟩) (.inl (t0)))
    go_enter Tryd.func30, Tryd.ntmps30
    go_wp2_with (first | (go_at_call 61; refine (within_any _ _ _ _).mono ?_; rintro e w' ⟨rfl, rfl⟩) | (go_at_call 60; refine (atom_any _ _).mono ?_; rintro e w' ⟨rfl, rfl⟩) | (go_at_call 68; refine (K5.out _ _).mono ?_; rintro e w' ⟨rfl, rfl⟩))
    go_ret
    exact ⟨ret_int HF.out.symm, two_below _ _ _⟩
  have h0 : inB 1 u 999999 = true := by simpa using t0
  clear t0
  by_cases t1 : inB 1 md 1000000 = false
  · have HF := Lib.hid (mm_bad (n := wn) (m := ⟨u, md, d, id, fl, ks, tx⟩) (.inr (.inl (t1))))
    go_enter Tryd.func30, Tryd.ntmps30
    go_wp2_with (first | (go_at_call 61; refine (within_any _ _ _ _).mono ?_; rintro e w' ⟨rfl, rfl⟩) | (go_at_call 60; refine (atom_any _ _).mono ?_; rintro e w' ⟨rfl, rfl⟩) | (go_at_call 68; refine (K5.out _ _).mono ?_; rintro e w' ⟨rfl, rfl⟩))
    go_ret
    exact ⟨ret_int HF.out.symm, two_below _ _ _⟩
  have h1 : inB 1 md 1000000 = true := by simpa using t1
  clear t1
  by_cases t2 : inB 0 d 1000000 = false
  · have HF := Lib.hid (mm_bad (n := wn) (m := ⟨u, md, d, id, fl, ks, tx⟩) (.inr (.inr (.inl (t2)))))
    go_enter Tryd.func30, Tryd.ntmps30
    go_wp2_with (first | (go_at_call 61; refine (within_any _ _ _ _).mono ?_; rintro e w' ⟨rfl, rfl⟩) | (go_at_call 60; refine (atom_any _ _).mono ?_; rintro e w' ⟨rfl, rfl⟩) | (go_at_call 68; refine (K5.out _ _).mono ?_; rintro e w' ⟨rfl, rfl⟩))
    go_ret
    exact ⟨ret_int HF.out.symm, two_below _ _ _⟩
  have h2 : inB 0 d 1000000 = true := by simpa using t2
  clear t2
  by_cases t3 : atB id = false
  · have HF := Lib.hid (mm_bad (n := wn) (m := ⟨u, md, d, id, fl, ks, tx⟩) (.inr (.inr (.inr (.inl (t3))))))
    go_enter Tryd.func30, Tryd.ntmps30
    go_wp2_with (first | (go_at_call 61; refine (within_any _ _ _ _).mono ?_; rintro e w' ⟨rfl, rfl⟩) | (go_at_call 60; refine (atom_any _ _).mono ?_; rintro e w' ⟨rfl, rfl⟩) | (go_at_call 68; refine (K5.out _ _).mono ?_; rintro e w' ⟨rfl, rfl⟩))
    go_ret
    exact ⟨ret_int HF.out.symm, two_below _ _ _⟩
  have h3 : atB id = true := by simpa using t3
  clear t3
  by_cases t4 : inB 0 fl 31 = false
  · have HF := Lib.hid (mm_bad (n := wn) (m := ⟨u, md, d, id, fl, ks, tx⟩) (.inr (.inr (.inr (.inr (.inl (t4)))))))
    go_enter Tryd.func30, Tryd.ntmps30
    go_wp2_with (first | (go_at_call 61; refine (within_any _ _ _ _).mono ?_; rintro e w' ⟨rfl, rfl⟩) | (go_at_call 60; refine (atom_any _ _).mono ?_; rintro e w' ⟨rfl, rfl⟩) | (go_at_call 68; refine (K5.out _ _).mono ?_; rintro e w' ⟨rfl, rfl⟩))
    go_ret
    exact ⟨ret_int HF.out.symm, two_below _ _ _⟩
  have h4 : inB 0 fl 31 = true := by simpa using t4
  clear t4
  by_cases t5 : keysB ks wn = false
  · have HF := Lib.hid (mm_bad (n := wn) (m := ⟨u, md, d, id, fl, ks, tx⟩) (.inr (.inr (.inr (.inr (.inr (.inl (t5))))))))
    go_enter Tryd.func30, Tryd.ntmps30
    go_wp2_with (first | (go_at_call 61; refine (within_any _ _ _ _).mono ?_; rintro e w' ⟨rfl, rfl⟩) | (go_at_call 60; refine (atom_any _ _).mono ?_; rintro e w' ⟨rfl, rfl⟩) | (go_at_call 68; refine (K5.out _ _).mono ?_; rintro e w' ⟨rfl, rfl⟩))
    go_ret
    exact ⟨ret_int HF.out.symm, two_below _ _ _⟩
  have h5 : keysB ks wn = true := by simpa using t5
  clear t5
  by_cases h7 : tx.size ≤ 300
  · have HF := Lib.hid (mm_good (n := wn) (m := ⟨u, md, d, id, fl, ks, tx⟩) h0 h1 h2 h3 h4 h5 h7)
    have h7' : (tx.size : Int) ≤ 300 := by omega
    clear h7
    go_enter Tryd.func30, Tryd.ntmps30
    go_wp2_with (first | (go_at_call 61; refine (within_any _ _ _ _).mono ?_; rintro e w' ⟨rfl, rfl⟩) | (go_at_call 60; refine (atom_any _ _).mono ?_; rintro e w' ⟨rfl, rfl⟩) | (go_at_call 68; refine (K5.out _ _).mono ?_; rintro e w' ⟨rfl, rfl⟩))
    go_ret
    exact ⟨ret_int HF.out.symm, two_below _ _ _⟩
  · have HF := Lib.hid (mm_bad (n := wn) (m := ⟨u, md, d, id, fl, ks, tx⟩) (.inr (.inr (.inr (.inr (.inr (.inr (show 300 < tx.size by omega))))))))
    have h7' : 300 < (tx.size : Int) := by omega
    clear h7
    go_enter Tryd.func30, Tryd.ntmps30
    go_wp2_with (first | (go_at_call 61; refine (within_any _ _ _ _).mono ?_; rintro e w' ⟨rfl, rfl⟩) | (go_at_call 60; refine (atom_any _ _).mono ?_; rintro e w' ⟨rfl, rfl⟩) | (go_at_call 68; refine (K5.out _ _).mono ?_; rintro e w' ⟨rfl, rfl⟩))
    go_ret
    exact ⟨ret_int HF.out.symm, two_below _ _ _⟩

set_option maxHeartbeats 1000000 in
set_option maxRecDepth 100000 in
theorem refMayMsg_cells {bid id tx : ByteArray} {bv bn bh u md d fl : Int} {WA MA KA : Option Addr} {wn wc mn mc kn kc B0 : Nat} {ks : List Int} {w : World} (hk : IntsAt w B0 KA kn ks) (hB : B0 ≤ w.heap.size) (hwn : wn ≤ 140737488355328) :
    Calls Tryd.prog 37 #[.agg #[.string bid, .int .i64 bv, .int .i64 bn, .int .i64 bh, .slice WA wn wc, .slice MA mn mc], .agg #[.int .i64 u, .int .i64 md, .int .i64 d, .string id, .int .i64 fl, .slice KA kn kc, .string tx]] w fun e w' => e = .returned (.int .i64 (mmE wn ⟨u, md, d, id, fl, ks, tx⟩)) ∧ Below w.heap.size w w' := by
  have C5 : ∀ o1 o2, Calls Tryd.prog 69 #[.slice KA kn kc, .int .i64 wn] ((w.alloc o1).alloc o2) fun e w' => e = .returned (.bool (keysB ks wn)) ∧ ((w.alloc o1).alloc o2) = w' := fun o1 o2 => refKeys_any (cp := kc) wn (IntsAt.below hk (two_below w o1 o2) hB) hwn
  clear hk
  have K5 := Lib.hid C5
  clear C5
  by_cases t0 : u < 1
  · have HF := Lib.hid (mm_bad (n := wn) (m := ⟨u, md, d, id, fl, ks, tx⟩) (.inl (inB_false (.inl t0))))
    go_enter Tryd.func37, Tryd.ntmps37
    go_wp2_with (first | (go_at_call 53; refine (refAtom_any _ _).mono ?_; rintro e w' ⟨rfl, rfl⟩) | (go_at_call 69; refine (K5.out _ _).mono ?_; rintro e w' ⟨rfl, rfl⟩))
    go_ret
    exact ⟨ret_int HF.out.symm, two_below _ _ _⟩
  by_cases r0 : 999999 < u
  · have HF := Lib.hid (mm_bad (n := wn) (m := ⟨u, md, d, id, fl, ks, tx⟩) (.inl (inB_false (.inr r0))))
    have t0a : 1 ≤ u := by omega
    have r0a : 1000000 ≤ u := by omega
    clear t0
    go_enter Tryd.func37, Tryd.ntmps37
    go_wp2_with (first | (go_at_call 53; refine (refAtom_any _ _).mono ?_; rintro e w' ⟨rfl, rfl⟩) | (go_at_call 69; refine (K5.out _ _).mono ?_; rintro e w' ⟨rfl, rfl⟩))
    go_ret
    exact ⟨ret_int HF.out.symm, two_below _ _ _⟩
  have h0 := Lib.hid (show inB 1 u 999999 = true from inB_true (by omega) (by omega))
  have t0a : 1 ≤ u := by omega
  have r0a : u < 1000000 := by omega
  clear t0 r0
  by_cases t1 : md < 1
  · have HF := Lib.hid (mm_bad (n := wn) (m := ⟨u, md, d, id, fl, ks, tx⟩) (.inr (.inl (inB_false (.inl t1)))))
    go_enter Tryd.func37, Tryd.ntmps37
    go_wp2_with (first | (go_at_call 53; refine (refAtom_any _ _).mono ?_; rintro e w' ⟨rfl, rfl⟩) | (go_at_call 69; refine (K5.out _ _).mono ?_; rintro e w' ⟨rfl, rfl⟩))
    go_ret
    exact ⟨ret_int HF.out.symm, two_below _ _ _⟩
  by_cases r1 : 1000000 < md
  · have HF := Lib.hid (mm_bad (n := wn) (m := ⟨u, md, d, id, fl, ks, tx⟩) (.inr (.inl (inB_false (.inr r1)))))
    have t1a : 1 ≤ md := by omega
    skip
    clear t1
    go_enter Tryd.func37, Tryd.ntmps37
    go_wp2_with (first | (go_at_call 53; refine (refAtom_any _ _).mono ?_; rintro e w' ⟨rfl, rfl⟩) | (go_at_call 69; refine (K5.out _ _).mono ?_; rintro e w' ⟨rfl, rfl⟩))
    go_ret
    exact ⟨ret_int HF.out.symm, two_below _ _ _⟩
  have h1 := Lib.hid (show inB 1 md 1000000 = true from inB_true (by omega) (by omega))
  have t1a : 1 ≤ md := by omega
  have r1a : md ≤ 1000000 := by omega
  clear t1 r1
  by_cases t2 : d < 0
  · have HF := Lib.hid (mm_bad (n := wn) (m := ⟨u, md, d, id, fl, ks, tx⟩) (.inr (.inr (.inl (inB_false (.inl t2))))))
    go_enter Tryd.func37, Tryd.ntmps37
    go_wp2_with (first | (go_at_call 53; refine (refAtom_any _ _).mono ?_; rintro e w' ⟨rfl, rfl⟩) | (go_at_call 69; refine (K5.out _ _).mono ?_; rintro e w' ⟨rfl, rfl⟩))
    go_ret
    exact ⟨ret_int HF.out.symm, two_below _ _ _⟩
  by_cases r2 : 1000000 < d
  · have HF := Lib.hid (mm_bad (n := wn) (m := ⟨u, md, d, id, fl, ks, tx⟩) (.inr (.inr (.inl (inB_false (.inr r2))))))
    have t2a : 0 ≤ d := by omega
    skip
    clear t2
    go_enter Tryd.func37, Tryd.ntmps37
    go_wp2_with (first | (go_at_call 53; refine (refAtom_any _ _).mono ?_; rintro e w' ⟨rfl, rfl⟩) | (go_at_call 69; refine (K5.out _ _).mono ?_; rintro e w' ⟨rfl, rfl⟩))
    go_ret
    exact ⟨ret_int HF.out.symm, two_below _ _ _⟩
  have h2 := Lib.hid (show inB 0 d 1000000 = true from inB_true (by omega) (by omega))
  have t2a : 0 ≤ d := by omega
  have r2a : d ≤ 1000000 := by omega
  clear t2 r2
  by_cases t3 : atB id = false
  · have HF := Lib.hid (mm_bad (n := wn) (m := ⟨u, md, d, id, fl, ks, tx⟩) (.inr (.inr (.inr (.inl (t3))))))
    go_enter Tryd.func37, Tryd.ntmps37
    go_wp2_with (first | (go_at_call 53; refine (refAtom_any _ _).mono ?_; rintro e w' ⟨rfl, rfl⟩) | (go_at_call 69; refine (K5.out _ _).mono ?_; rintro e w' ⟨rfl, rfl⟩))
    go_ret
    exact ⟨ret_int HF.out.symm, two_below _ _ _⟩
  have h3 : atB id = true := by simpa using t3
  clear t3
  by_cases t4 : fl < 0
  · have HF := Lib.hid (mm_bad (n := wn) (m := ⟨u, md, d, id, fl, ks, tx⟩) (.inr (.inr (.inr (.inr (.inl (inB_false (.inl t4))))))))
    go_enter Tryd.func37, Tryd.ntmps37
    go_wp2_with (first | (go_at_call 53; refine (refAtom_any _ _).mono ?_; rintro e w' ⟨rfl, rfl⟩) | (go_at_call 69; refine (K5.out _ _).mono ?_; rintro e w' ⟨rfl, rfl⟩))
    go_ret
    exact ⟨ret_int HF.out.symm, two_below _ _ _⟩
  by_cases r4 : 31 < fl
  · have HF := Lib.hid (mm_bad (n := wn) (m := ⟨u, md, d, id, fl, ks, tx⟩) (.inr (.inr (.inr (.inr (.inl (inB_false (.inr r4))))))))
    have t4a : 0 ≤ fl := by omega
    skip
    clear t4
    go_enter Tryd.func37, Tryd.ntmps37
    go_wp2_with (first | (go_at_call 53; refine (refAtom_any _ _).mono ?_; rintro e w' ⟨rfl, rfl⟩) | (go_at_call 69; refine (K5.out _ _).mono ?_; rintro e w' ⟨rfl, rfl⟩))
    go_ret
    exact ⟨ret_int HF.out.symm, two_below _ _ _⟩
  have h4 := Lib.hid (show inB 0 fl 31 = true from inB_true (by omega) (by omega))
  have t4a : 0 ≤ fl := by omega
  have r4a : fl ≤ 31 := by omega
  clear t4 r4
  by_cases t5 : keysB ks wn = false
  · have HF := Lib.hid (mm_bad (n := wn) (m := ⟨u, md, d, id, fl, ks, tx⟩) (.inr (.inr (.inr (.inr (.inr (.inl (t5))))))))
    go_enter Tryd.func37, Tryd.ntmps37
    go_wp2_with (first | (go_at_call 53; refine (refAtom_any _ _).mono ?_; rintro e w' ⟨rfl, rfl⟩) | (go_at_call 69; refine (K5.out _ _).mono ?_; rintro e w' ⟨rfl, rfl⟩))
    go_ret
    exact ⟨ret_int HF.out.symm, two_below _ _ _⟩
  have h5 : keysB ks wn = true := by simpa using t5
  clear t5
  by_cases h7 : tx.size ≤ 300
  · have HF := Lib.hid (mm_good (n := wn) (m := ⟨u, md, d, id, fl, ks, tx⟩) h0.out h1.out h2.out h3 h4.out h5 h7)
    have h7' : (tx.size : Int) ≤ 300 := by omega
    clear h7
    go_enter Tryd.func37, Tryd.ntmps37
    go_wp2_with (first | (go_at_call 53; refine (refAtom_any _ _).mono ?_; rintro e w' ⟨rfl, rfl⟩) | (go_at_call 69; refine (K5.out _ _).mono ?_; rintro e w' ⟨rfl, rfl⟩))
    go_ret
    exact ⟨ret_int HF.out.symm, two_below _ _ _⟩
  · have HF := Lib.hid (mm_bad (n := wn) (m := ⟨u, md, d, id, fl, ks, tx⟩) (.inr (.inr (.inr (.inr (.inr (.inr (show 300 < tx.size by omega))))))))
    have h7' : 300 < (tx.size : Int) := by omega
    clear h7
    go_enter Tryd.func37, Tryd.ntmps37
    go_wp2_with (first | (go_at_call 53; refine (refAtom_any _ _).mono ?_; rintro e w' ⟨rfl, rfl⟩) | (go_at_call 69; refine (K5.out _ _).mono ?_; rintro e w' ⟨rfl, rfl⟩))
    go_ret
    exact ⟨ret_int HF.out.symm, two_below _ _ _⟩

end Go.Proofs.YtdgcihgohkgecaaDoor.BxM
