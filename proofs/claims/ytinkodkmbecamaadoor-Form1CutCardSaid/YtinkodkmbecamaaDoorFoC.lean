/-
  A message behind a row of the call's own.
-/
import Derived.Test.YtinkodkmbecamaaDoorFoB
import Derived.Deep.RegionHeld3
import Derived.Deep.DeepCutAuto
namespace Go.Proofs.YtinkodkmbecamaaDoor.FoC
open Go.RowKit Go.Proofs.YtinkodkmbecamaaDoor.BxD Go.Proofs.YtinkodkmbecamaaDoor.PkKit Go.Proofs.YtinkodkmbecamaaDoor.PkA Go.Proofs.YtinkodkmbecamaaDoor.PkB Go.Proofs.YtinkodkmbecamaaDoor.PkC Go.Proofs.YtinkodkmbecamaaDoor.PkR Go.Proofs.YtinkodkmbecamaaDoor.FoD Go.Proofs.YtinkodkmbecamaaDoor.FoA Go.Proofs.YtinkodkmbecamaaDoor.FoB
open Go.Proofs.YtinkodkmbecamaaDoor.BxKit (RowAt IntsAt StrsAt MsgsAt)

/-- A message in a block. -/
def MBk (w : World) (P : Nat) (u md d : Int) (id : ByteArray) (fl : Int) (K : Option Addr) (kn kc : Nat) (tx : ByteArray) : Prop :=
  w.heap[P]? = some (.cells #[.int .i64 u, .int .i64 md, .int .i64 d, .string id, .int .i64 fl, .slice K kn kc, .string tx] 41 (0, 0))
section
variable {w : World} {P : Nat} {u md d fl : Int} {id tx : ByteArray} {K : Option Addr} {kn kc : Nat}
theorem MBk.cells (h : MBk w P u md d id fl K kn kc tx) : w.cell? { block := P, off := 0 } = some (.int .i64 u) ∧ w.cell? { block := P, off := 1 } = some (.int .i64 md) ∧ w.cell? { block := P, off := 2 } = some (.int .i64 d) ∧ w.cell? { block := P, off := 3 } = some (.string id) ∧
    w.cell? { block := P, off := 4 } = some (.int .i64 fl) ∧ w.cell? { block := P, off := 5 } = some (.slice K kn kc) ∧ w.cell? { block := P, off := 6 } = some (.string tx) := by
  have c : ∀ o, w.cell? { block := P, off := o } = (#[.int .i64 u, .int .i64 md, .int .i64 d, .string id, .int .i64 fl, .slice K kn kc, .string tx] : Array Value)[o]? := fun o => cell_of_row w P o _ _ _ h
  exact ⟨(c 0).trans rfl, (c 1).trans rfl, (c 2).trans rfl, (c 3).trans rfl, (c 4).trans rfl, (c 5).trans rfl, (c 6).trans rfl⟩
end
theorem ints_two (w : World) (a b : Int) : IntsAt (w.alloc (.cells #[.int .i64 a, .int .i64 b] 3)) (w.heap.size + 1) (some ⟨w.heap.size, 0, none⟩) 2 [a, b] := by
  refine ⟨rfl, by decide, fun _ => ⟨_, rfl, Nat.lt_succ_self _, fun j x hj => ?_⟩⟩
  unfold BxKit.intC
  rw [Nat.mul_one, BxR.cell_new]
  match j, hj with
  | 0, hj => simp at hj; subst hj; rfl
  | 1, hj => simp at hj; subst hj; rfl
theorem own_none {w : World} {base n : Nat} {v : Value} {xs : List Value} (h : w.ownsRow base 5 1 v n xs) : v.ownBlock ≠ some w.heap.size := by
  intro e
  have := (h.lt _ e).2
  omega
theorem fxs_two (a b : Int) : fxs [a, b] = fx (mx a) ++ fx (mx b) := by simp [fxs]
theorem mx_nat (a : Nat) : mx (a : Int) = a := by unfold mx; omega
theorem em_len (m : Msg) : (em m).length = 17 + m.text.size := by
  unfold em
  simp only [List.length_append, fx_len, List.length_singleton, Array.length_toList]
  show 4 + (4 + (1 + (4 + (4 + m.text.data.size)))) = 17 + m.text.data.size
  omega
theorem MBk.keep {w w' : World} {P : Nat} {u md d fl : Int} {id tx : ByteArray} {K : Option Addr} {kn kc : Nat} (h : MBk w P u md d id fl K kn kc tx) (hg : w'.heap[P]? = w.heap[P]?) : MBk w' P u md d id fl K kn kc tx := hg.trans h
/-- What lies below the row's base stays. -/
theorem og_below {w wr : World} {v v' : Value} {n base : Nat} {l : List UInt8} (h : OG w v wr n v' l) (hv : ∀ k, v.ownBlock = some k → base ≤ k) (hb : base ≤ w.heap.size) : Below base w wr := (Below.refl base w).grown h.fr hb hv
theorem og_at {w wr : World} {v v' : Value} {n base : Nat} {l : List UInt8} (h : OG w v wr n v' l) (hv : ∀ k, v.ownBlock = some k → base ≤ k) (hb : base ≤ w.heap.size) : ∀ k, v'.ownBlock = some k → base ≤ k := fun k hk => by
  rcases h.at_ k hk with e | e
  · exact hv k e
  · omega
theorem own_up {w : World} {base n : Nat} {v : Value} {xs : List Value} (h : w.ownsRow 0 5 1 v n xs) (hv : ∀ k, v.ownBlock = some k → base ≤ k) : w.ownsRow base 5 1 v n xs := by
  refine ⟨h.1, ?_⟩
  rcases h.2 with hn | ⟨g, cap, cur, rfl, hbg, r⟩
  · exact .inl hn
  · exact .inr ⟨g, cap, cur, rfl, hv g rfl, r⟩
theorem og_ob {w wr : World} {v v' : Value} {n base : Nat} {l : List UInt8} (h : OG w v wr n v' l) (hv : ∀ k, v.ownBlock = some k → base ≤ k) (hb : base ≤ w.heap.size) : OB base w wr n v' l := ⟨own_up h.own (og_at h hv hb), og_below h hv hb, hb⟩
set_option maxHeartbeats 4000000 in
set_option maxRecDepth 100000 in
theorem appendMsg_any {n B base : Nat} {w : World} {v : Value} {l : List UInt8} {u md d fl : Int} {id tx : ByteArray} {K : Option Addr} {kn kc : Nat} {ks : List Int} (hO : w.ownsRow base 5 1 v n (by_ l)) (hz : IntsAt w B K kn ks) (hB : B ≤ base) (hbs : base ≤ w.heap.size) (hp : ∀ k ∈ ks, 0 ≤ k) (hfl : 0 ≤ fl ∧ fl ≤ 255) (htx : tx.size ≤ 300) (hn : n ≤ 1099511627776) :
    Calls Tryd.prog 20 #[v, .agg #[.int .i64 u, .int .i64 md, .int .i64 d, .string id, .int .i64 fl, .slice K kn kc, .string tx]] w fun e w' => ∃ v', e = .returned v' ∧ OB base w w' (n + (em ⟨u, md, d, id, fl, ks, tx⟩).length) v' (l ++ em ⟨u, md, d, id, fl, ks, tx⟩) := by
  have h0 : OG w v (w.alloc (.cells #[.int .i64 u, .int .i64 md, .int .i64 d, .string id, .int .i64 fl, .slice K kn kc, .string tx] 41)) n v l := OG.alloc (OG.start hO) _
  have O0 := Lib.hid h0
  have M0 := Lib.hid (show MBk (w.alloc (.cells #[.int .i64 u, .int .i64 md, .int .i64 d, .string id, .int .i64 fl, .slice K kn kc, .string tx] 41)) w.heap.size u md d id fl K kn kc tx from heap_alloc_new w _)
  have HZ := Lib.hid (IntsAt.below hz ((Below.refl base w).alloc hbs (.cells #[.int .i64 u, .int .i64 md, .int .i64 d, .string id, .int .i64 fl, .slice K kn kc, .string tx] 41)) hB)
  have hP := own_none hO
  have HP := Lib.hid hp
  have hs0 : w.heap.size + 1 ≤ (w.alloc (.cells #[.int .i64 u, .int .i64 md, .int .i64 d, .string id, .int .i64 fl, .slice K kn kc, .string tx] 41)).heap.size := by simp
  have HOB := Lib.hid (fun g e => (hO.lt g e).1)
  obtain ⟨i0, hi, hz0, hz1, hz2⟩ := info_parts info5
  have HI := Lib.hid hi
  have HI0 := Lib.hid hz0
  have HI1 := Lib.hid hz1
  have HI2 := Lib.hid hz2
  obtain ⟨A, c0, rfl, hc0⟩ := own_slice hO
  clear hO hz hp h0 hi hz0 hz1 hz2
  go_enter Tryd.func20, Tryd.ntmps20
  go_upto_region 1 with fail
  obtain ⟨P, hPe⟩ : ∃ P, P = w.heap.size := ⟨_, rfl⟩
  rw [← hPe] at M0 hs0 hP ⊢
  have hP1 : base ≤ P := by omega
  have hPw : P ≤ w.heap.size := by omega
  clear hPe
  generalize (World.alloc w _) = w1 at O0 M0 HZ hs0 ⊢
  obtain ⟨m0, m1, m2, m3, m4, m5, m6⟩ := M0.out.cells
  have O1 := Lib.hid (OG.start O0.out.own)
  have HM := Lib.hid (fun (wr : World) (g : w1.grownBy wr (Value.slice A n c0).ownBlock) => (M0.out.keep (g.block P hs0 (fun e => hP e.symm))).cells)
  have KA := Lib.hid (appendFixed_any (cp := 2) (N := n + 8) (O0.out.own.alloc (.cells #[.int .i64 u, .int .i64 d] 3)) (ints_two w1 u d) (by simp) (fun ad e => by injection e with e; subst e; exact own_none O0.out.own) (by omega) rfl)
  go_upto_region 2 with (go_at_call 18; go_loud (
     refine KA.out.mono ?_
     rintro e w2 ⟨v2, rfl, g2⟩
     obtain ⟨A2, c2, rfl, hc2⟩ := own_slice g2.own
     have O2 := Lib.hid (og_trans (OG.alloc O1.out _) g2)
     clear g2 m0 m1 m2 m3 m4 m5 m6))
  obtain ⟨m0, m1, m2, m3, m4, m5, m6⟩ := HM.out w2 O2.out.fr
  go_upto_region 3 with (at_builtin; go_loud (
     refine wpList_by rfl _ _ rfl rfl rfl (O2.out.own.alloc _) (bytesAt_new w2 [fl.toNat.toUInt8] rfl (Nat.lt_succ_self _) rfl (by_int (x := fl) (by omega) (by omega)).symm) (by omega) (Nat.zero_le _) ?_
     intro v3 w3 hown3 hg3 hat3
     obtain ⟨A3, c3, rfl, hc3⟩ := own_slice hown3
     have O3 := Lib.hid ((OG.alloc O2.out _).app (m := n + 9) (l' := l ++ (fxs [u, d] ++ [fl.toNat.toUInt8])) (by rw [← List.append_assoc, by_append]; exact hown3) hg3 hat3)
     clear hown3 hg3 hat3 m0 m1 m2 m3 m4 m5 m6))
  obtain ⟨m0, m1, m2, m3, m4, m5, m6⟩ := HM.out w3 O3.out.fr
  have hs3 := O3.out.fr.size
  have hb3 := og_below O3.out HOB.out (show base ≤ w1.heap.size by omega)
  have KB := Lib.hid (bitsOf_any (cp := kc) (IntsAt.below HZ.out (BxKit.below_drewN hb3 1) hB) HP.out)
  obtain ⟨M, hM⟩ : ∃ M, M = maskN ks := ⟨_, rfl⟩
  rw [← hM] at KB
  have HMM := Lib.hid hM
  have hz3 := tx.size
  have O3d := Lib.hid (og_go O3.out ((Below.refl w3.heap.size w3).drew))
  have KC := Lib.hid (appendFixed_any (cp := 2) (N := n + 17) (O3d.out.own.alloc (.cells #[.int .i64 (M : Nat), .int .i64 (tx.size : Nat)] 3)) (ints_two w3.drew (M : Nat) (tx.size : Nat)) (by simp) (fun ad e => by injection e with e; subst e; exact own_none O3.out.own) (by omega) (by omega))
  clear hM
  go_region_held3 (fun wr => wr.cell? { block := P, off := 5 } = some (.slice K kn kc) ∧ wr.cell? { block := P, off := 6 } = some (.string tx)) (first | exact ⟨m5, m6⟩ | exact ⟨(HM.out _ O4.out.fr).2.2.2.2.2.1, (HM.out _ O4.out.fr).2.2.2.2.2.2⟩ | go_keep) (first
    | (go_at_call 48
       refine KB.out.mono ?_
       rintro e w4 ⟨rfl, rfl⟩
       dsimp only)
    | (go_at_call 18
       refine KC.out.mono ?_
       rintro e w4 ⟨v4, rfl, g4⟩
       obtain ⟨A4, c4, rfl, hc4⟩ := own_slice g4.own
       have O4 := Lib.hid (og_trans (OG.alloc O3d.out _) g4)
       clear g4
       dsimp only))
  rename_i hHeld
  clear hHeld m0 m1 m2 m3 m4 m5 m6 hb3
  obtain ⟨m0, m1, m2, m3, m4, m5, m6⟩ := HM.out w4 O4.out.fr
  have hs4 := O4.out.fr.size
  have hb1 : base ≤ w1.heap.size := by omega
  have B4 := Lib.hid (og_ob O4.out HOB.out hb1)
  go_wp2_with (at_builtin; go_loud (
     refine Lib.wpList_append_own_string _ rfl _ _ 26 9 rfl base 5 i0 Tryd.underlying26 Tryd.underlying9 HI.out HI0.out HI1.out HI2.out _ _ _ rfl B4.out.own tx rfl (by unfold maxLen; omega) (by omega) (Nat.le_trans hb1 hs4) ?_
     intro v5 w5 hown5 hg5 hnil5))
  go_ret
  have hb01 : Below base w w1 := og_below O0.out HOB.out hbs
  have ob : OB base w w4 (n + 17) (.slice A4 (n + 17) c4) ((l ++ (fxs [u, d] ++ [fl.toNat.toUInt8])) ++ fxs [(M : Int), (tx.size : Int)]) := ⟨B4.out.own, hb01.trans B4.out.bel, hbs⟩
  refine ⟨v5, rfl, ?_⟩
  have e : l ++ em ⟨u, md, d, id, fl, ks, tx⟩ = ((l ++ (fxs [u, d] ++ [fl.toNat.toUInt8])) ++ fxs [(M : Int), (tx.size : Int)]) ++ tx.data.toList := by
    unfold em
    rw [fxs_two, fxs_two, mx_nat, mx_nat, HMM.out, Nat.mod_eq_of_lt (show fl.toNat < 256 by omega)]
    simp only [List.append_assoc]
  rw [e]
  refine ob.app ?_ hg5
  rw [em_len, by_append, ← strCells_by, ← Nat.add_assoc]
  exact hown5
end Go.Proofs.YtinkodkmbecamaaDoor.FoC
