/-
  RackNil: a rack that there isn't.
-/
import Derived.Test.YtefgcckdlebfaaaRkH
namespace Go.Proofs.Ytefgcckdlebfaaa.RkNi
open Go.RowKit Go.Proofs.Ytefgcckdlebfaaa.BxD Go.Proofs.Ytefgcckdlebfaaa.BxKit Go.Proofs.Ytefgcckdlebfaaa.RkO Go.Proofs.Ytefgcckdlebfaaa.RkC Go.Proofs.Ytefgcckdlebfaaa.RkD Go.Proofs.Ytefgcckdlebfaaa.RkK Go.Proofs.Ytefgcckdlebfaaa.RkP Go.Proofs.Ytefgcckdlebfaaa.RkM Go.Proofs.Ytefgcckdlebfaaa.RkAw Go.Proofs.Ytefgcckdlebfaaa.RkL Go.Proofs.Ytefgcckdlebfaaa.RkH

abbrev nilP : Value := .pointer none
theorem crash0 (v : Value) (w : World) : Calls Try.prog 18 #[nilP, v] w fun e w' => e = .returned (.tuple #[]) ∧ w = w' := by
  go_enter Try.func18, Try.ntmps18
  go_wp2
  refine bodyPost_ret (results_none rfl _ _ _) rfl ?_
  exact ⟨rfl, rfl⟩
theorem fuse0 (v : Value) (w : World) : Calls Try.prog 20 #[nilP, v] w fun e w' => e = .returned (.tuple #[]) ∧ w = w' := by
  go_enter Try.func20, Try.ntmps20
  go_wp2
  refine bodyPost_ret (results_none rfl _ _ _) rfl ?_
  exact ⟨rfl, rfl⟩
theorem read0 (v : Value) (w : World) : Calls Try.prog 22 #[nilP, v] w fun e w' => e = .returned (.tuple #[.slice none 0 0, .bool false]) ∧ w = w' := by
  go_enter Try.func22, Try.ntmps22
  go_wp2
  go_ret2
  exact ⟨rfl, rfl⟩
theorem write0 (n : ByteArray) (v : Value) (w : World) : Calls Try.prog 12 #[nilP, .string n, v] w fun e w' => e = .returned (.int .i64 1) ∧ w = w' := by
  go_enter Try.func12, Try.ntmps12
  go_wp2
  go_ret
  exact ⟨rfl, rfl⟩
theorem cut0 (v : Value) (w : World) : Calls Try.prog 14 #[nilP, v] w fun e w' => e = .returned (.int .i64 1) ∧ w = w' := by
  go_enter Try.func14, Try.ntmps14
  go_wp2
  go_ret
  exact ⟨rfl, rfl⟩
theorem names0 (w : World) : Calls Try.prog 25 #[nilP] w fun e w' => e = .returned (.slice none 0 0) ∧ w = w' := by
  go_enter Try.func25, Try.ntmps25
  go_wp2
  go_ret
  exact ⟨rfl, rfl⟩
theorem size0 (w : World) : Calls Try.prog 26 #[nilP] w fun e w' => e = .returned (.int .i64 0) ∧ w = w' := by
  go_enter Try.func26, Try.ntmps26
  go_wp2
  go_ret
  exact ⟨rfl, rfl⟩
theorem room0 (w : World) : Calls Try.prog 27 #[nilP] w fun e w' => e = .returned (.int .i64 0) ∧ w = w' := by
  go_enter Try.func27, Try.ntmps27
  go_wp2
  go_ret
  exact ⟨rfl, rfl⟩
theorem flush0 (w : World) : Calls Try.prog 16 #[nilP] w fun e w' => e = .returned (.int .i64 1) ∧ w = w' := by
  go_enter Try.func16, Try.ntmps16
  go_wp2
  go_ret
  exact ⟨rfl, rfl⟩
theorem loose0 (w : World) : Calls Try.prog 28 #[nilP] w fun e w' => e = .returned (.int .i64 0) ∧ w = w' := by
  go_enter Try.func28, Try.ntmps28
  go_wp2
  go_ret
  exact ⟨rfl, rfl⟩
theorem down0 (w : World) : Calls Try.prog 29 #[nilP] w fun e w' => e = .returned (.bool false) ∧ w = w' := by
  go_enter Try.func29, Try.ntmps29
  go_wp2
  go_ret
  exact ⟨rfl, rfl⟩
theorem writes0 (w : World) : Calls Try.prog 30 #[nilP] w fun e w' => e = .returned (.int .i64 0) ∧ w = w' := by
  go_enter Try.func30, Try.ntmps30
  go_wp2
  go_ret
  exact ⟨rfl, rfl⟩
theorem sure0 (w : World) : Calls Try.prog 31 #[nilP] w fun e w' => e = .returned (.slice none 0 0) ∧ w = w' := by
  go_enter Try.func31, Try.ntmps31
  go_wp2
  go_ret
  exact ⟨rfl, rfl⟩
theorem one_call {w : World} {dd nn : Int} {nm : ByteArray} {D P : Option Addr} {dc pc : Nat} {ds ps : List UInt8} (hd : PkKit.BytesAt w w.heap.size D ds.length ds) (hdl : ds.length ≤ 140737488355328) (hp : PkKit.BytesAt w w.heap.size P ps.length ps) (hpl : ps.length ≤ 140737488355328) (hn : nn ≤ 9223372036854775807) (hnm : nm.size ≤ 140737488355328) (hdc : ds.length ≤ dc) (hpc : ps.length ≤ pc) :
    CallsAt (w.alloc (.cells #[.int .i64 dd, .int .i64 nn, .string nm, .slice D ds.length dc, .slice P ps.length pc] 31)) (w.alloc (.cells #[.int .i64 dd, .int .i64 nn, .string nm, .slice D ds.length dc, .slice P ps.length pc] 31)).heap.size (some ⟨w.heap.size, 0, none⟩) 1 [⟨dd, nn, nm, ds, ps⟩] := by
  refine ⟨rfl, by omega, fun _ => ⟨_, rfl, by simp, fun j x hj => ?_⟩⟩
  have hb := below_alloc w (.cells #[.int .i64 dd, .int .i64 nn, .string nm, .slice D ds.length dc, .slice P ps.length pc] 31)
  have hc : ∀ o, (w.alloc (.cells #[.int .i64 dd, .int .i64 nn, .string nm, .slice D ds.length dc, .slice P ps.length pc] 31)).cell? ⟨w.heap.size, o, none⟩ = (#[.int .i64 dd, .int .i64 nn, .string nm, .slice D ds.length dc, .slice P ps.length pc] : Array Value)[o]? := fun o => cell_of_row _ _ o _ _ (0, 0) (heap_alloc_new w _)
  match j, hj with
  | 0, hj =>
    obtain rfl := Option.some.inj hj
    exact ⟨hc 0, hc 1, hc 2, ⟨D, dc, hc 3, hdc, (hd.below hb (Nat.le_refl _)).more (by simp), hdl⟩, ⟨P, pc, hc 4, hpc, (hp.below hb (Nat.le_refl _)).more (by simp), hpl⟩, hn, hnm⟩
  | j + 1, hj => simp at hj
set_option maxRecDepth 100000 in
set_option maxHeartbeats 4000000 in
theorem walk {w : World} {dd nn : Int} {nm : ByteArray} {D P : Option Addr} {dc pc : Nat} {ds ps : List UInt8} (hd : PkKit.BytesAt w w.heap.size D ds.length ds) (hdl : ds.length ≤ 140737488355328) (hp : PkKit.BytesAt w w.heap.size P ps.length ps) (hpl : ps.length ≤ 140737488355328) (hn : nn ≤ 9223372036854775807) (hnm : nm.size ≤ 140737488355328) (hdc : ds.length ≤ dc) (hpc : ps.length ≤ pc) :
    Calls Try.prog 4 #[.agg #[.int .i64 dd, .int .i64 nn, .string nm, .slice D ds.length dc, .slice P ps.length pc]] w fun e w' => e = .returned (.bool true) ∧ Below w.heap.size w w' := by
  obtain ⟨W1, hW1⟩ : ∃ W1, W1 = w.alloc (.cells #[.int .i64 dd, .int .i64 nn, .string nm, .slice D ds.length dc, .slice P ps.length pc] 31) := ⟨_, rfl⟩
  have hB1 : Below w.heap.size w W1 := by rw [hW1]; exact below_alloc w _
  have hs1 : w.heap.size < W1.heap.size := by rw [hW1]; simp
  have hca := one_call (w := W1) (dd := dd) (nn := nn) (nm := nm) (dc := dc) (pc := pc) ((hd.below hB1 (Nat.le_refl _)).more hB1.size) hdl ((hp.below hB1 (Nat.le_refl _)).more hB1.size) hpl hn hnm hdc hpc
  have KH := Lib.hid (heavy_any (c := 1) hca)
  unfold HvPost at KH
  have hcc : ∀ o, W1.cell? ⟨w.heap.size, o, none⟩ = (#[.int .i64 dd, .int .i64 nn, .string nm, .slice D ds.length dc, .slice P ps.length pc] : Array Value)[o]? := fun o => by rw [hW1]; exact cell_of_row _ _ o _ _ (0, 0) (heap_alloc_new w _)
  have c0 : W1.cell? { block := w.heap.size, off := 0 } = some (.int .i64 dd) := hcc 0
  have c1 : W1.cell? { block := w.heap.size, off := 1 } = some (.int .i64 nn) := hcc 1
  have c2 : W1.cell? { block := w.heap.size, off := 2 } = some (.string nm) := hcc 2
  have c3 : W1.cell? { block := w.heap.size, off := 3 } = some (.slice D ds.length dc) := hcc 3
  have c4 : W1.cell? { block := w.heap.size, off := 4 } = some (.slice P ps.length pc) := hcc 4
  have HB1 := Lib.hid hB1
  have HS1 := Lib.hid hs1
  obtain ⟨dl, hdl2⟩ : ∃ dl, dl = ds.length := ⟨_, rfl⟩
  obtain ⟨pl, hpl2⟩ : ∃ pl, pl = ps.length := ⟨_, rfl⟩
  rw [← hdl2] at KH c3 hW1 ⊢
  rw [← hpl2] at KH c4 hW1 ⊢
  clear hcc hca hd hp hdl hpl hn hnm hdc hpc hdl2 hpl2 hB1
  go_enter Try.func4, Try.ntmps4
  go_upto_region 1 with fail
  rw [← hW1]
  have HC := Lib.hid (fun (w2 : World) (hb : Below W1.heap.size W1 w2) => show w2.cell? { block := w.heap.size, off := 1 } = some (.int .i64 nn) ∧ w2.cell? { block := w.heap.size, off := 2 } = some (.string nm) ∧ w2.cell? { block := w.heap.size, off := 3 } = some (.slice D dl dc) ∧ w2.cell? { block := w.heap.size, off := 4 } = some (.slice P pl pc) from
    ⟨(hb.cell (p := ⟨w.heap.size, 1, none⟩) HS1.out).trans c1, (hb.cell (p := ⟨w.heap.size, 2, none⟩) HS1.out).trans c2, (hb.cell (p := ⟨w.heap.size, 3, none⟩) HS1.out).trans c3, (hb.cell (p := ⟨w.heap.size, 4, none⟩) HS1.out).trans c4⟩)
  clear hW1 hs1
  have KH2 := Lib.hid (KH.out.mono fun e w2 (g : ∃ h : Int, e = .returned (.int .i64 h) ∧ 0 ≤ h ∧ h ≤ 101 ∧ _ ∧ _) => show ∃ h : Int, e = .returned (.int .i64 h) ∧ Below W1.heap.size W1 w2 from by
    obtain ⟨h, e1, _, _, _, h4⟩ := g
    exact ⟨h, e1, (below_alloc W1 _).trans (h4.mono (by simp))⟩)
  clear KH
  go_cut [8, 9] (fun s8 s9 wx => ∃ h : Int, s8 = .int .i64 h ∧ s9 = .bool (decide (0 < h)) ∧ Hid (Below W1.heap.size W1 wx))
  case first =>
    go_wp2_with (go_at_call 8; go_loud (refine KH2.out.mono ?_; rintro e w2 ⟨h, rfl, hb⟩; have HB := Lib.hid hb; clear hb))
    go_meet
    exact ⟨h, rfl, rfl, HB⟩
  case rest =>
    obtain ⟨h, rfl, rfl, HB2⟩ := hcut
    clear KH2 c0 c1 c2 c3 c4
    obtain ⟨d1, d2, d3, d4⟩ := HC.out _ HB2.out
    have HBW := Lib.hid (HB1.out.trans (HB2.out.mono HB1.out.size))
    by_cases hh : 0 < h
    · have KA := Lib.hid (awake wc)
      go_wp2_with (go_at_call 9; go_loud (refine KA.out.mono ?_; rintro e w3 ⟨rfl, hb⟩))
      go_ret
      exact ⟨rfl, HBW.out.trans (hb.mono HBW.out.size)⟩
    · have KA := Lib.hid (fun wx => awake wx)
      have hcv : ∀ w, (convert 29 9 (.slice none 0 0)).run Try.prog w = .ok (.string ⟨#[]⟩) w := fun w => PkKit.BytesAt.conv (PkKit.BytesAt.nil w 0 none) 0
      go_wp2_with (first
        | (go_at_call 18; go_loud (refine (crash0 _ _).mono ?_; rintro e w3 ⟨rfl, rfl⟩))
        | (go_at_call 20; go_loud (refine (fuse0 _ _).mono ?_; rintro e w3 ⟨rfl, rfl⟩))
        | (go_at_call 22; go_loud (refine (read0 _ _).mono ?_; rintro e w3 ⟨rfl, rfl⟩))
        | (go_at_call 12; go_loud (refine (write0 _ _ _).mono ?_; rintro e w3 ⟨rfl, rfl⟩))
        | (go_at_call 14; go_loud (refine (cut0 _ _).mono ?_; rintro e w3 ⟨rfl, rfl⟩))
        | (go_at_call 25; go_loud (refine (names0 _).mono ?_; rintro e w3 ⟨rfl, rfl⟩))
        | (go_at_call 26; go_loud (refine (size0 _).mono ?_; rintro e w3 ⟨rfl, rfl⟩))
        | (go_at_call 27; go_loud (refine (room0 _).mono ?_; rintro e w3 ⟨rfl, rfl⟩))
        | (go_at_call 16; go_loud (refine (flush0 _).mono ?_; rintro e w3 ⟨rfl, rfl⟩))
        | (go_at_call 28; go_loud (refine (loose0 _).mono ?_; rintro e w3 ⟨rfl, rfl⟩))
        | (go_at_call 29; go_loud (refine (down0 _).mono ?_; rintro e w3 ⟨rfl, rfl⟩))
        | (go_at_call 30; go_loud (refine (writes0 _).mono ?_; rintro e w3 ⟨rfl, rfl⟩))
        | (go_at_call 31; go_loud (refine (sure0 _).mono ?_; rintro e w3 ⟨rfl, rfl⟩))
        | (go_at_call 9; go_loud (refine (KA.out _).mono ?_; rintro e w3 ⟨rfl, hb⟩; have HB3 := Lib.hid hb; clear hb)))
      go_ret
      exact ⟨rfl, HBW.out.trans (HB3.out.mono HBW.out.size)⟩
end Go.Proofs.Ytefgcckdlebfaaa.RkNi
