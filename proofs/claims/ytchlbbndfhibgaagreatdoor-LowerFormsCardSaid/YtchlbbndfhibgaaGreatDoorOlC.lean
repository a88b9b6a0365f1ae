/-
  A message behind a row of the call's own.
-/
import Derived.Test.YtchlbbndfhibgaaGreatDoorK2
import Derived.Test.YtchlbbndfhibgaaGreatDoorK3
import Derived.Deep.RegionHeld3
import Derived.Deep.DeepCutAuto
set_option linter.unusedVariables false
set_option linter.unusedSimpArgs false
namespace Go.Proofs.YtchlbbndfhibgaaGreatDoor.OlC
open Go.Proofs.YtchlbbndfhibgaaGreatDoor.PtK
open Go.RowKit Go.Proofs.YtchlbbndfhibgaaGreatDoor.BxD Go.Proofs.YtchlbbndfhibgaaGreatDoor.PkKit Go.Proofs.YtchlbbndfhibgaaGreatDoor.PkA Go.Proofs.YtchlbbndfhibgaaGreatDoor.PkB Go.Proofs.YtchlbbndfhibgaaGreatDoor.PkC Go.Proofs.YtchlbbndfhibgaaGreatDoor.PkR Go.Proofs.YtchlbbndfhibgaaGreatDoor.OlD Go.Proofs.YtchlbbndfhibgaaGreatDoor.OlA Go.Proofs.YtchlbbndfhibgaaGreatDoor.OlB Go.Proofs.YtchlbbndfhibgaaGreatDoor.OlOm
open Go.Proofs.YtchlbbndfhibgaaGreatDoor.OlR (mkB)
open Go.Proofs.YtchlbbndfhibgaaGreatDoor.BxKit (RowAt IntsAt StrsAt MsgsAt)

section
variable {w : World} {P : Nat} {u md d fl : Int} {id tx : ByteArray} {K : Option Addr} {kn kc : Nat}
end
theorem fxs_one (a : Int) : fxs [a] = fx (mx a) := by simp [fxs]
theorem ch_len (cg : Bool) (x : Int) : (ch cg x).length = if cg then 4 else 0 := by cases cg <;> rfl
theorem fxs_two (a b : Int) : fxs [a, b] = fx (mx a) ++ fx (mx b) := by simp [fxs]
theorem em_len (cg : Bool) (m : Msg) : (em cg m).length = 17 + (ch cg m.mod).length + m.text.size := by
  unfold em
  simp only [List.length_append, fx_len, List.length_singleton, Array.length_toList]
  have : m.text.data.size = m.text.size := rfl
  omega
theorem ch_le (cg : Bool) (x : Int) : (ch cg x).length ≤ 4 := by rw [ch_len]; cases cg <;> decide
/-- A form in a block. -/
def FBk (w : World) (F : Nat) (cg : Bool) : Prop := w.heap[F]? = some (.cells #[.string (mkB cg), .bool cg] 177 (0, 0))
theorem FBk.cells {w : World} {F : Nat} {cg : Bool} (h : FBk w F cg) : w.cell? { block := F, off := 0 } = some (.string (mkB cg)) ∧ w.cell? { block := F, off := 1 } = some (.bool cg) := by
  have c := fun o => cell_of_row w F o _ _ _ h
  exact ⟨(c 0).trans rfl, (c 1).trans rfl⟩
set_option maxHeartbeats 4000000 in
set_option maxRecDepth 100000 in
theorem appendChange_om {cg : Bool} {n base : Nat} {w : World} {v : Value} {l : List UInt8} {M : ByteArray} (hO : Ow w base v n (by_ l)) (x : Int) (hbs : base ≤ w.heap.size) (hn : n + 100 ≤ 140737488355328) :
    Calls Tryz.prog 162 #[.agg #[.string M, .bool cg], v, .int .i64 x] w fun e w' => ∃ v', e = .returned v' ∧ OM w v w' (n + (ch cg x).length) v' (l ++ ch cg x) := by
  have H0 := Lib.hid (OM.alloc (OM.start hO) (.cells #[.string M, .bool cg] 177))
  have hw1 := heap_alloc_new w (.cells #[.string M, .bool cg] 177)
  have HW := Lib.hid hw1
  clear hw1
  cases cg with
  | false =>
    clear hO
    have q0 : (w.alloc (.cells #[.string M, .bool false] 177)).cell? { block := w.heap.size, off := 1 } = some (.bool false) := (cell_of_row _ w.heap.size 1 _ _ _ HW.out).trans rfl
    go_enter Tryz.func162, Tryz.ntmps162
    go_wp2_with fail
    go_ret
    refine ⟨_, rfl, ?_⟩
    have := H0.out
    simpa [ch] using this
  | true =>
    clear hO
    have q0 : (w.alloc (.cells #[.string M, .bool true] 177)).cell? { block := w.heap.size, off := 1 } = some (.bool true) := (cell_of_row _ w.heap.size 1 _ _ _ HW.out).trans rfl
    go_enter Tryz.func162, Tryz.ntmps162
    go_upto_region 1 with fail
    generalize (World.alloc w _) = w1 at H0 q0 HW ⊢
    have KA := Lib.hid (appendFixed_any (base := 0) (cp := 1) (N := n + 4) ((OM.alloc H0.out (.cells #[.int .i64 x] 3)).own) (ints_one w1 x) (by simp) (fun ad e => by injection e with e; subst e; exact own_none H0.out.own) (by omega) rfl)
    go_wp2_with (go_at_call 163; go_loud (
      refine KA.out.mono ?_
      rintro e w2 ⟨v2, rfl, g2⟩
      have O2 := Lib.hid (OM.trans (OM.alloc H0.out _) g2)
      clear g2 q0))
    go_ret
    refine ⟨v2, rfl, ?_⟩
    have := O2.out
    rw [fxs_one] at this
    exact this
set_option maxHeartbeats 4000000 in
set_option maxRecDepth 100000 in
theorem appendMsg_any {cg : Bool} {n B base : Nat} {w : World} {v : Value} {l : List UInt8} {u md d fl : Int} {id tx : ByteArray} {K : Option Addr} {kn kc : Nat} {ks : List Int} (hO : Ow w base v n (by_ l)) (hz : IntsAt w B K kn ks) (hB : B ≤ base) (hbs : base ≤ w.heap.size) (hp : ∀ k ∈ ks, 0 ≤ k) (hfl : 0 ≤ fl ∧ fl ≤ 255) (htx : tx.size ≤ 300) (hn : n ≤ 1099511627776) :
    Calls Tryz.prog 164 #[.agg #[.string (mkB cg), .bool cg], v, .agg #[.int .i64 u, .int .i64 md, .int .i64 d, .string id, .int .i64 fl, .slice K kn kc, .string tx]] w fun e w' => ∃ v', e = .returned v' ∧ OO base w w' (n + (em cg ⟨u, md, d, id, fl, ks, tx⟩).length) v' (l ++ em cg ⟨u, md, d, id, fl, ks, tx⟩) := by
  obtain ⟨oM, hoM⟩ : ∃ oM, oM = Obj.cells #[.int .i64 u, .int .i64 md, .int .i64 d, .string id, .int .i64 fl, .slice K kn kc, .string tx] 28 (0, 0) := ⟨_, rfl⟩
  have O0 := Lib.hid (OM.alloc (OM.alloc (OM.start hO) (.cells #[.string (mkB cg), .bool cg] 177)) oM)
  have F0 := Lib.hid (show FBk ((w.alloc (.cells #[.string (mkB cg), .bool cg] 177)).alloc oM) w.heap.size cg from (heap_alloc_old _ _ (by simp)).trans (heap_alloc_new w _))
  have M0 := Lib.hid (show MBk ((w.alloc (.cells #[.string (mkB cg), .bool cg] 177)).alloc oM) (w.heap.size + 1) u md d id fl K kn kc tx by
    have := heap_alloc_new (w.alloc (.cells #[.string (mkB cg), .bool cg] 177)) oM
    rw [show (w.alloc (.cells #[.string (mkB cg), .bool cg] 177)).heap.size = w.heap.size + 1 by simp, hoM] at this
    rw [hoM]
    exact this)
  have HZ := Lib.hid (IntsAt.below hz (((Below.refl base w).alloc hbs (.cells #[.string (mkB cg), .bool cg] 177)).alloc (by simp; omega) oM) hB)
  have hP := own_none hO
  have hP2 : v.ownBlock ≠ some (w.heap.size + 1) := fun e => by have := (hO.lt _ e).2; omega
  have HP := Lib.hid hp
  have hs0 : w.heap.size + 2 ≤ ((w.alloc (.cells #[.string (mkB cg), .bool cg] 177)).alloc oM).heap.size := by simp
  have HOB := Lib.hid (fun g e => (hO.lt g e).1)
  obtain ⟨A, c0, rfl, hc0⟩ := hO.slice
  subst hoM
  clear hO hz hp
  go_enter Tryz.func164, Tryz.ntmps164
  go_upto_region 1 with fail
  obtain ⟨P, hPe⟩ : ∃ P, P = w.heap.size := ⟨_, rfl⟩
  rw [← hPe] at F0 M0 hs0 hP hP2 ⊢
  have hP1 : base ≤ P := by omega
  have hPw : P ≤ w.heap.size := by omega
  clear hPe
  generalize (World.alloc (World.alloc w _) _) = w1 at O0 F0 M0 HZ hs0 ⊢
  obtain ⟨m0, m1, m2, m3, m4, m5, m6⟩ := M0.out.cells
  obtain ⟨f0, f1⟩ := F0.out.cells
  have O1 := Lib.hid (OM.start O0.out.own)
  have HM := Lib.hid (fun (wr : World) (g : w1.grownBy wr (Value.slice A n c0).ownBlock) => (M0.out.keep (g.block (P + 1) (by omega) (fun e => hP2 e.symm))).cells)
  have HF := Lib.hid (fun (wr : World) (g : w1.grownBy wr (Value.slice A n c0).ownBlock) => FBk.cells (cg := cg) (w := wr) (F := P) ((g.block P (by omega) (fun e => hP e.symm)).trans F0.out))
  have O1d := Lib.hid (OM.go O1.out ((Below.refl w1.heap.size w1).drew))
  have KA := Lib.hid (appendFixed_any (base := 0) (cp := 1) (N := n + 4) ((OM.alloc O1d.out (.cells #[.int .i64 u] 3)).own) (ints_one w1.drew u) (by simp) (fun ad e => by injection e with e; subst e; exact own_none O1d.out.own) (by omega) rfl)
  obtain ⟨k, hk⟩ : ∃ k, k = (ch cg md).length := ⟨_, rfl⟩
  have hk4 : k ≤ 4 := by rw [hk]; exact ch_le cg md
  have HK := Lib.hid hk
  clear hk
  go_region_held3 (fun wr => wr.cell? { block := P, off := 0 } = some (.string (mkB cg)) ∧ wr.cell? { block := P, off := 1 } = some (.bool cg) ∧ wr.cell? { block := P + 1, off := 0 } = some (.int .i64 u) ∧ wr.cell? { block := P + 1, off := 1 } = some (.int .i64 md)) (first | exact ⟨f0, f1, m0, m1⟩ | exact ⟨(HF.out _ O2.out.fr).1, (HF.out _ O2.out.fr).2, (HM.out _ O2.out.fr).1, (HM.out _ O2.out.fr).2.1⟩ | exact ⟨(HF.out _ O3.out.fr).1, (HF.out _ O3.out.fr).2, (HM.out _ O3.out.fr).1, (HM.out _ O3.out.fr).2.1⟩ | go_keep) (first
    | (go_at_call 163
       refine KA.out.mono ?_
       rintro e w2 ⟨v2, rfl, g2⟩
       obtain ⟨A2, c2, rfl, hc2⟩ := g2.own.slice
       have O2 := Lib.hid (OM.trans (OM.alloc O1d.out _) g2)
       have KC := appendChange_om (cg := cg) (M := mkB cg) (base := 0) O2.out.own md (Nat.zero_le _) (by omega)
       rw [← HK.out] at KC
       have KC := Lib.hid KC
       clear g2
       dsimp only)
    | (go_at_call 162
       refine KC.out.mono ?_
       rintro e w3 ⟨v3, rfl, g3⟩
       obtain ⟨A3, c3, rfl, hc3⟩ := g3.own.slice
       have O3 := Lib.hid (OM.trans O2.out g3)
       clear g3
       dsimp only))
  rename_i hHeld
  clear hHeld m0 m1 m2 m3 m4 m5 m6 f0 f1 HF
  obtain ⟨m0, m1, m2, m3, m4, m5, m6⟩ := HM.out w3 O3.out.fr
  have KA := Lib.hid (appendFixed_any (base := 0) (cp := 1) (N := n + 4 + k + 4) ((OM.alloc O3.out (.cells #[.int .i64 d] 3)).own) (ints_one w3 d) (by simp) (fun ad e => by injection e with e; subst e; exact own_none O3.out.own) (by omega) rfl)
  go_upto_region 3 with (go_at_call 163; go_loud (
     refine KA.out.mono ?_
     rintro e w4 ⟨v4, rfl, g4⟩
     obtain ⟨A4, c4, rfl, hc4⟩ := g4.own.slice
     have O4 := Lib.hid (OM.trans (OM.alloc O3.out _) g4)
     clear g4 m0 m1 m2 m3 m4 m5 m6))
  obtain ⟨m0, m1, m2, m3, m4, m5, m6⟩ := HM.out w4 O4.out.fr
  go_upto_region 4 with (at_builtin; go_loud (
     refine wpList_ow rfl _ _ rfl rfl rfl (OM.alloc O4.out _).own (bytesAt_new w4 [fl.toNat.toUInt8] rfl (Nat.lt_succ_self _) rfl (by_int (x := fl) (by omega) (by omega)).symm) (by omega) (Nat.zero_le _) (by decide) ?_
     intro v5 w5 hown5 hg5 hat5
     obtain ⟨A5, c5, rfl, hc5⟩ := hown5.slice
     have O5 := Lib.hid ((OM.alloc O4.out _).app (m := n + 4 + k + 4 + 1) (l' := l ++ fxs [u] ++ ch cg md ++ fxs [d] ++ [fl.toNat.toUInt8]) (by rw [by_append]; exact hown5) hg5 hat5)
     clear hown5 hg5 hat5 m0 m1 m2 m3 m4 m5 m6))
  obtain ⟨m0, m1, m2, m3, m4, m5, m6⟩ := HM.out w5 O5.out.fr
  have hs5 := O5.out.fr.size
  have hb5 := O5.out.below HOB.out (show base ≤ w1.heap.size by omega)
  have KB := Lib.hid (bitsOf_any (cp := kc) (IntsAt.below HZ.out (BxKit.below_drewN hb5 1) hB) HP.out)
  obtain ⟨M, hM⟩ : ∃ M, M = maskN ks := ⟨_, rfl⟩
  rw [← hM] at KB
  have HMM := Lib.hid hM
  have O5d := Lib.hid (OM.go O5.out ((Below.refl w5.heap.size w5).drew))
  have KC := Lib.hid (appendFixed_any (base := 0) (cp := 2) (N := n + 4 + k + 4 + 1 + 8) (O5d.out.own.kept ((Below.refl _ _).alloc (Nat.le_refl _) (.cells #[.int .i64 (M : Nat), .int .i64 (tx.size : Nat)] 3))) (ints_two w5.drew (M : Nat) (tx.size : Nat)) (by simp) (fun ad e => by injection e with e; subst e; exact own_none O5d.out.own) (by omega) (by omega))
  clear hM
  go_region_held3 (fun wr => wr.cell? { block := P + 1, off := 5 } = some (.slice K kn kc) ∧ wr.cell? { block := P + 1, off := 6 } = some (.string tx)) (first | exact ⟨m5, m6⟩ | exact ⟨(HM.out _ O6.out.fr).2.2.2.2.2.1, (HM.out _ O6.out.fr).2.2.2.2.2.2⟩ | go_keep) (first
    | (go_at_call 172
       refine KB.out.mono ?_
       rintro e w6 ⟨rfl, rfl⟩
       dsimp only)
    | (go_at_call 163
       refine KC.out.mono ?_
       rintro e w6 ⟨v6, rfl, g6⟩
       obtain ⟨A6, c6, rfl, hc6⟩ := g6.own.slice
       have O6 := Lib.hid (OM.trans (OM.alloc O5d.out _) g6)
       clear g6
       dsimp only))
  rename_i hHeld
  clear hHeld m0 m1 m2 m3 m4 m5 m6 hb5
  obtain ⟨m0, m1, m2, m3, m4, m5, m6⟩ := HM.out w6 O6.out.fr
  have hs6 := O6.out.fr.size
  have hb1 : base ≤ w1.heap.size := by omega
  have B6 := Lib.hid (O6.out.oo HOB.out hb1)
  go_wp2_with (at_builtin; go_loud (
     refine wpList_ows rfl _ _ rfl rfl rfl B6.out.own (by omega) (Nat.le_trans hb1 hs6) ?_
     intro v7 w7 hown7 hg7))
  go_ret
  have hb01 : Below base w w1 := O0.out.below HOB.out hbs
  have ob := OO.app (OO.trans ⟨O1.out.own.up HOB.out, hb01, hbs⟩ B6.out) (m := n + (em cg ⟨u, md, d, id, fl, ks, tx⟩).length) (l' := l ++ em cg ⟨u, md, d, id, fl, ks, tx⟩) (by
    have e : l ++ em cg ⟨u, md, d, id, fl, ks, tx⟩ = (l ++ fxs [u] ++ ch cg md ++ fxs [d] ++ [fl.toNat.toUInt8] ++ fxs [(M : Int), (tx.size : Int)]) ++ tx.data.toList := by
      unfold em
      rw [fxs_two, fxs_one, fxs_one, mx_nat, mx_nat, HMM.out, Nat.mod_eq_of_lt (show fl.toNat < 256 by omega)]
      simp only [List.append_assoc]
    rw [e, em_len, by_append, ← strCells_by]
    have e2 : n + 4 + k + 4 + 1 + 8 + tx.size = n + (17 + (ch cg md).length + tx.size) := by rw [← HK.out]; omega
    show Ow w7 base v7 (n + (17 + (ch cg md).length + tx.size)) _
    rw [← e2]
    exact hown7) hg7
  exact ⟨v7, rfl, ob⟩
end Go.Proofs.YtchlbbndfhibgaaGreatDoor.OlC
