/-
  A write that goes through, unless the fuse takes the power: the program's own.
-/
import Derived.Test.YtolkghdeppoanaaRkV
import Derived.Deep.RegionLaw
set_option linter.unusedVariables false
set_option linter.unusedSimpArgs false
namespace Go.Proofs.Ytolkghdeppoanaa.RkW
open Go.RowKit Go.Proofs.Ytolkghdeppoanaa.BxD Go.Proofs.Ytolkghdeppoanaa.BxKit Go.Proofs.Ytolkghdeppoanaa.RkO Go.Proofs.Ytolkghdeppoanaa.RkC Go.Proofs.Ytolkghdeppoanaa.RkD Go.Proofs.Ytolkghdeppoanaa.RkR Go.Proofs.Ytolkghdeppoanaa.RkK Go.Proofs.Ytolkghdeppoanaa.RkP Go.Proofs.Ytolkghdeppoanaa.RkQ Go.Proofs.Ytolkghdeppoanaa.RkE Go.Proofs.Ytolkghdeppoanaa.RkS Go.Proofs.Ytolkghdeppoanaa.RkM Go.Proofs.Ytolkghdeppoanaa.RkN Go.Proofs.Ytolkghdeppoanaa.RkV
section
variable {w : World} {base T : Nat} {s : St} {SA FA LA : Option Addr} {sn sc fn fcp ln lc : Nat}
set_option maxRecDepth 100000 in
set_option maxHeartbeats 4000000 in
theorem write_none (h : Rk w base T s SA sn sc FA fn fcp LA ln lc) {k : Nat} (hk : Ok k s) (h6 : k ≤ 1000) {NA K : Option Addr} {nn nc kc : Nat} {nx : List F} {x : ByteArray} {b : Bool} {d : List UInt8} (hx : FilesT w NA nn nx) (hc : nn ≤ nc)
    (hd : ByT w K d.length d) (hkc : d.length ≤ kc) (hB : base ≤ w.heap.size) (hf : s.fuse = none) :
    Calls Try.prog 66 #[ptr T, .agg #[.string x, .bool b, .slice K d.length kc], .slice NA nn nc] w (RkPost w base T LA (goS s ⟨x, b, d⟩ nx) (.returned (.int .i64 (goE s)))) := by
  have hE : goE s = 0 := by unfold goE; rw [hf]; rfl
  have hS : goS s ⟨x, b, d⟩ nx = { s with files := nx, loose := s.loose ++ [⟨x, b, d⟩], writes := s.writes + 1, fuse := none } := by unfold goS; rw [hf]; rfl
  rw [hE, hS]
  have hln := h.loose.len
  have hl1 : ln ≤ 1000 := by have := hk.loose; omega
  have hw1 : s.writes ≤ 1000 := by have := hk.writes; omega
  obtain ⟨c0, c1, c2, c3, c4, c5, c6, c7, cf⟩ := h.cells (wr := w.alloc (.cells #[.string x, .bool b, .slice K d.length kc] 42)) (Below.heap_alloc _ _ _ h.lt)
  rw [hf] at c6 c7
  rw [show (none : Option Nat).isSome = false from rfl] at c6
  have f2 := cf 2
  have f7 := cf 7
  have hTs := h.lt
  have hne : w.heap.size ≠ T := by omega
  obtain ⟨rs, hl, ho, hdl⟩ := h.loose
  obtain ⟨W1, hW1⟩ : ∃ W1, W1 = ((w.setCell { block := T, off := 2 } (.slice NA nn nc)).alloc (.cells #[.string x, .bool b, .slice K d.length kc] 42)) := ⟨_, rfl⟩
  have hR1 : Row W1 T 74 [.int .i64 s.room, .slice SA sn sc, .slice NA nn nc, .slice LA ln lc, .int .i64 s.writes, .bool s.down, .bool false, .int .i64 (fuseV none)] := by
    rw [hW1]
    have h0 := (h.head.stored 2 (.slice NA nn nc)).alloc (.cells #[.string x, .bool b, .slice K d.length kc] 42)
    rw [hf] at h0
    exact h0
  have hF1 : Fr w W1 T LA := by rw [hW1]; exact ((Fr.of (Below.refl w.heap.size w)).set 2 (.slice NA nn nc)).alloc (.cells #[.string x, .bool b, .slice K d.length kc] 42)
  have hO1 : W1.ownsRow base 42 3 (.slice LA ln lc) ln (cc rs) := by rw [hW1]; exact (ho.kept (setCell_grown _ ⟨T, 2, none⟩ (.slice NA nn nc)) (.inr (own_no ho h.head))).alloc (.cells #[.string x, .bool b, .slice K d.length kc] 42)
  have hp0 : Row W1 w.heap.size 42 [.string x, .bool b, .slice K d.length kc] := by
    have h0 := heap_alloc_new ((w.setCell { block := T, off := 2 } (.slice NA nn nc))) (.cells #[.string x, .bool b, .slice K d.length kc] 42)
    rw [show ((w.setCell { block := T, off := 2 } (.slice NA nn nc))).heap.size = w.heap.size by simp [World.setCell]] at h0
    rw [hW1]
    exact h0
  have HP := Lib.hid (fun (w6 : World) (v : Value) (o : Obj) h6 g6 hv z hz => Rk.wrote (w6 := w6) (r := ⟨x, b, ⟨K, kc, d⟩⟩) (v := v) (o := o) (f7 := none) h hl ho hdl ⟨hd, hkc⟩ hx hc hF1 hR1 rfl hO1 h6 g6 hv z hz)
  have HR1 := Lib.hid hR1
  have HO1 := Lib.hid hO1
  have HB1 := Lib.hid (show base ≤ W1.heap.size from Nat.le_trans hB hF1.size)
  have HTW := Lib.hid hR1.lt
  have p0 : W1.cell? { block := w.heap.size, off := 0 } = some (.string x) := hp0.cell 0
  have p1 : W1.cell? { block := w.heap.size, off := 1 } = some (.bool b) := hp0.cell 1
  have p2 : W1.cell? { block := w.heap.size, off := 2 } = some (.slice K d.length kc) := hp0.cell 2
  have q3 : W1.cell? { block := T, off := 3 } = some (.slice LA ln lc) := hR1.cell 3
  have q3' : (W1.alloc (.cells #[.string x, .bool b, .slice K d.length kc] 42)).cell? { block := T, off := 3 } = some (.slice LA ln lc) := (hR1.alloc (.cells #[.string x, .bool b, .slice K d.length kc] 42)).cell 3
  clear cf hx hd hl ho hdl hR1 hF1 hO1 hp0 h hE hS hln hkc hc
  unfold ptr
  go_enter Try.func66, Try.ntmps66
  go_upto_region 7 with fail
  rw [← hW1]
  clear hW1 c0 c1 c2 c3 c4 c5 c6 c7 f2 f7 hne
  have HO5 := Lib.hid (show (W1.alloc (.cells #[.string x, .bool b, .slice K d.length kc] 42)).drew.ownsRow base 42 3 (.slice LA ln lc) ln (cc rs) from HO1.out.alloc (.cells #[.string x, .bool b, .slice K d.length kc] 42))
  have HS5 := Lib.hid (show Src (W1.alloc (.cells #[.string x, .bool b, .slice K d.length kc] 42)).drew (some ⟨W1.heap.size, 0, none⟩) 1 3 (cell3 ⟨x, b, ⟨K, kc, d⟩⟩) from src_new W1 #[.string x, .bool b, .slice K d.length kc] 42 (m := 1) (sz := 3) rfl rfl (fun u hu => by simp at hu; rcases hu with rfl | rfl | rfl <;> rfl))
  have HZ5 := Lib.hid (show base ≤ (W1.alloc (.cells #[.string x, .bool b, .slice K d.length kc] 42)).drew.heap.size by have := HB1.out; show base ≤ (W1.alloc (.cells #[.string x, .bool b, .slice K d.length kc] 42)).heap.size; simp; omega)
  go_region_law (go_loud (
     refine step_rows elC (c := 1) rfl (.tmp 34) (.tmp 36) rfl (by simp [Act.eval]) (by simp [Act.eval]) HO5.out HS5.out (by unfold maxLen; omega) (by omega) HZ5.out ?_
     intro v6 w6 hown6 hg6 hv6
     have HP6 := Lib.hid (HP.out w6 v6 (.cells #[.string x, .bool b, .slice K d.length kc] 42) hown6 (RkO.grown_of_drew hg6) hv6)
     have hb6 : w6.heap[T]? = (W1.alloc (.cells #[.string x, .bool b, .slice K d.length kc] 42)).heap[T]? := hg6.block T (by have := HTW.out; show T < (W1.alloc (.cells #[.string x, .bool b, .slice K d.length kc] 42)).heap.size; simp; omega) (fun e => own_no (HO1.out.alloc (.cells #[.string x, .bool b, .slice K d.length kc] 42)) (HR1.out.alloc (.cells #[.string x, .bool b, .slice K d.length kc] 42)) e.symm)
     have hR6 := (HR1.out.alloc (.cells #[.string x, .bool b, .slice K d.length kc] 42)).same hb6
     have z3 : w6.cell? { block := T, off := 3 } = some (.slice LA ln lc) := hR6.cell 3
     have z4 : w6.cell? { block := T, off := 4 } = some (.int .i64 s.writes) := hR6.cell 4
     have zf3 : w6.frozen? { block := T, off := 3 } = false := hR6.frozen 3
     have zf4 : w6.frozen? { block := T, off := 4 } = false := hR6.frozen 4
     obtain ⟨A8, k8, rfl, hk8⟩ := RkR.own_slice hown6
     clear hb6 hR6 hown6 hg6 hv6
     dsimp only))
  all_goals
    go_wp2_with fail
    go_ret
    exact HP6.out _ (by omega)
set_option maxRecDepth 100000 in
set_option maxHeartbeats 4000000 in
theorem write_some (h : Rk w base T s SA sn sc FA fn fcp LA ln lc) {k : Nat} (hk : Ok k s) (h6 : k ≤ 1000) {NA K : Option Addr} {nn nc kc : Nat} {nx : List F} {x : ByteArray} {b : Bool} {d : List UInt8} (hx : FilesT w NA nn nx) (hc : nn ≤ nc)
    (hd : ByT w K d.length d) (hkc : d.length ≤ kc) (hB : base ≤ w.heap.size) {m : Nat} (hm : m < 9223372036854775807) (hf : s.fuse = some (m + 1)) :
    Calls Try.prog 66 #[ptr T, .agg #[.string x, .bool b, .slice K d.length kc], .slice NA nn nc] w (RkPost w base T LA (goS s ⟨x, b, d⟩ nx) (.returned (.int .i64 (goE s)))) := by
  have hE : goE s = 0 := by unfold goE; rw [hf]; exact if_neg (by simp)
  have hS : goS s ⟨x, b, d⟩ nx = { s with files := nx, loose := s.loose ++ [⟨x, b, d⟩], writes := s.writes + 1, fuse := some m } := by unfold goS; rw [hf]; exact if_neg (by simp)
  rw [hE, hS]
  have hln := h.loose.len
  have hl1 : ln ≤ 1000 := by have := hk.loose; omega
  have hw1 : s.writes ≤ 1000 := by have := hk.writes; omega
  obtain ⟨c0, c1, c2, c3, c4, c5, c6, c7, cf⟩ := h.cells (wr := w.alloc (.cells #[.string x, .bool b, .slice K d.length kc] 42)) (Below.heap_alloc _ _ _ h.lt)
  rw [hf] at c6 c7
  rw [show (some (m + 1)).isSome = true from rfl] at c6
  rw [show fuseV (some (m + 1)) = (m : Int) + 1 by unfold fuseV; simp] at c7
  have f2 := cf 2
  have f7 := cf 7
  have hTs := h.lt
  have hne : w.heap.size ≠ T := by omega
  obtain ⟨rs, hl, ho, hdl⟩ := h.loose
  obtain ⟨W1, hW1⟩ : ∃ W1, W1 = (((w.setCell { block := T, off := 7 } (.int .i64 (m : Int))).setCell { block := T, off := 2 } (.slice NA nn nc)).alloc (.cells #[.string x, .bool b, .slice K d.length kc] 42)) := ⟨_, rfl⟩
  have hR1 : Row W1 T 74 [.int .i64 s.room, .slice SA sn sc, .slice NA nn nc, .slice LA ln lc, .int .i64 s.writes, .bool s.down, .bool true, .int .i64 (m : Int)] := by
    rw [hW1]
    have h0 := ((h.head.stored 7 (.int .i64 (m : Int))).stored 2 (.slice NA nn nc)).alloc (.cells #[.string x, .bool b, .slice K d.length kc] 42)
    rw [hf] at h0
    exact h0
  have hF1 : Fr w W1 T LA := by rw [hW1]; exact (((Fr.of (Below.refl w.heap.size w)).set 7 (.int .i64 (m : Int))).set 2 (.slice NA nn nc)).alloc (.cells #[.string x, .bool b, .slice K d.length kc] 42)
  have hO1 : W1.ownsRow base 42 3 (.slice LA ln lc) ln (cc rs) := by rw [hW1]; exact ((ho.kept (setCell_grown _ ⟨T, 7, none⟩ (.int .i64 (m : Int))) (.inr (own_no ho h.head))).kept (setCell_grown _ ⟨T, 2, none⟩ (.slice NA nn nc)) (.inr (own_no (ho.kept (setCell_grown _ ⟨T, 7, none⟩ (.int .i64 (m : Int))) (.inr (own_no ho h.head))) (h.head.stored 7 (.int .i64 (m : Int)))))).alloc (.cells #[.string x, .bool b, .slice K d.length kc] 42)
  have hp0 : Row W1 w.heap.size 42 [.string x, .bool b, .slice K d.length kc] := by
    have h0 := heap_alloc_new (((w.setCell { block := T, off := 7 } (.int .i64 (m : Int))).setCell { block := T, off := 2 } (.slice NA nn nc))) (.cells #[.string x, .bool b, .slice K d.length kc] 42)
    rw [show (((w.setCell { block := T, off := 7 } (.int .i64 (m : Int))).setCell { block := T, off := 2 } (.slice NA nn nc))).heap.size = w.heap.size by simp [World.setCell]] at h0
    rw [hW1]
    exact h0
  have HP := Lib.hid (fun (w6 : World) (v : Value) (o : Obj) h6 g6 hv z hz => Rk.wrote (w6 := w6) (r := ⟨x, b, ⟨K, kc, d⟩⟩) (v := v) (o := o) (f7 := some m) h hl ho hdl ⟨hd, hkc⟩ hx hc hF1 hR1 rfl hO1 h6 g6 hv z hz)
  have HR1 := Lib.hid hR1
  have HO1 := Lib.hid hO1
  have HB1 := Lib.hid (show base ≤ W1.heap.size from Nat.le_trans hB hF1.size)
  have HTW := Lib.hid hR1.lt
  have p0 : W1.cell? { block := w.heap.size, off := 0 } = some (.string x) := hp0.cell 0
  have p1 : W1.cell? { block := w.heap.size, off := 1 } = some (.bool b) := hp0.cell 1
  have p2 : W1.cell? { block := w.heap.size, off := 2 } = some (.slice K d.length kc) := hp0.cell 2
  have q3 : W1.cell? { block := T, off := 3 } = some (.slice LA ln lc) := hR1.cell 3
  have g2 := ((h.head.stored 7 (.int .i64 (m : Int))).alloc (.cells #[.string x, .bool b, .slice K d.length kc] 42)).frozen 2
  have g2c : ((w.setCell { block := T, off := 7 } (.int .i64 (m : Int))).alloc (.cells #[.string x, .bool b, .slice K d.length kc] 42)).cell? { block := T, off := 2 } = some (.slice FA fn fcp) := ((h.head.stored 7 (.int .i64 (m : Int))).alloc (.cells #[.string x, .bool b, .slice K d.length kc] 42)).cell 2
  have hm0 : ((m : Int) + 1 == 0) = false := by rw [beq_eq_false_iff_ne]; omega
  have q3' : (W1.alloc (.cells #[.string x, .bool b, .slice K d.length kc] 42)).cell? { block := T, off := 3 } = some (.slice LA ln lc) := (hR1.alloc (.cells #[.string x, .bool b, .slice K d.length kc] 42)).cell 3
  clear cf hx hd hl ho hdl hR1 hF1 hO1 hp0 h hE hS hln hkc hc
  unfold ptr
  go_enter Try.func66, Try.ntmps66
  go_upto_region 7 with fail
  rw [← hW1]
  clear hW1 c0 c1 c2 c3 c4 c5 c6 c7 f2 f7 hne
  have HO5 := Lib.hid (show (W1.alloc (.cells #[.string x, .bool b, .slice K d.length kc] 42)).drew.ownsRow base 42 3 (.slice LA ln lc) ln (cc rs) from HO1.out.alloc (.cells #[.string x, .bool b, .slice K d.length kc] 42))
  have HS5 := Lib.hid (show Src (W1.alloc (.cells #[.string x, .bool b, .slice K d.length kc] 42)).drew (some ⟨W1.heap.size, 0, none⟩) 1 3 (cell3 ⟨x, b, ⟨K, kc, d⟩⟩) from src_new W1 #[.string x, .bool b, .slice K d.length kc] 42 (m := 1) (sz := 3) rfl rfl (fun u hu => by simp at hu; rcases hu with rfl | rfl | rfl <;> rfl))
  have HZ5 := Lib.hid (show base ≤ (W1.alloc (.cells #[.string x, .bool b, .slice K d.length kc] 42)).drew.heap.size by have := HB1.out; show base ≤ (W1.alloc (.cells #[.string x, .bool b, .slice K d.length kc] 42)).heap.size; simp; omega)
  go_region_law (go_loud (
     refine step_rows elC (c := 1) rfl (.tmp 34) (.tmp 36) rfl (by simp [Act.eval]) (by simp [Act.eval]) HO5.out HS5.out (by unfold maxLen; omega) (by omega) HZ5.out ?_
     intro v6 w6 hown6 hg6 hv6
     have HP6 := Lib.hid (HP.out w6 v6 (.cells #[.string x, .bool b, .slice K d.length kc] 42) hown6 (RkO.grown_of_drew hg6) hv6)
     have hb6 : w6.heap[T]? = (W1.alloc (.cells #[.string x, .bool b, .slice K d.length kc] 42)).heap[T]? := hg6.block T (by have := HTW.out; show T < (W1.alloc (.cells #[.string x, .bool b, .slice K d.length kc] 42)).heap.size; simp; omega) (fun e => own_no (HO1.out.alloc (.cells #[.string x, .bool b, .slice K d.length kc] 42)) (HR1.out.alloc (.cells #[.string x, .bool b, .slice K d.length kc] 42)) e.symm)
     have hR6 := (HR1.out.alloc (.cells #[.string x, .bool b, .slice K d.length kc] 42)).same hb6
     have z3 : w6.cell? { block := T, off := 3 } = some (.slice LA ln lc) := hR6.cell 3
     have z4 : w6.cell? { block := T, off := 4 } = some (.int .i64 s.writes) := hR6.cell 4
     have zf3 : w6.frozen? { block := T, off := 3 } = false := hR6.frozen 3
     have zf4 : w6.frozen? { block := T, off := 4 } = false := hR6.frozen 4
     obtain ⟨A8, k8, rfl, hk8⟩ := RkR.own_slice hown6
     clear hb6 hR6 hown6 hg6 hv6
     dsimp only))
  all_goals
    go_wp2_with fail
    go_ret
    exact HP6.out _ (by omega)
set_option maxRecDepth 100000 in
set_option maxHeartbeats 1000000 in
theorem write_zero (h : Rk w base T s SA sn sc FA fn fcp LA ln lc) {NA K : Option Addr} {nn nc kc : Nat} {nx : List F} {x : ByteArray} {b : Bool} {d : List UInt8} (hf : s.fuse = some 0) :
    Calls Try.prog 66 #[ptr T, .agg #[.string x, .bool b, .slice K d.length kc], .slice NA nn nc] w (RkPost w base T LA (goS s ⟨x, b, d⟩ nx) (.returned (.int .i64 (goE s)))) := by
  have hE : goE s = 5 := by unfold goE; rw [hf]; rfl
  have hS : goS s ⟨x, b, d⟩ nx = { s with down := true } := by unfold goS; exact if_pos hf
  rw [hE, hS]
  have hF : Fr w ((w.alloc (.cells #[.string x, .bool b, .slice K d.length kc] 42)).setCell ⟨T, 5, none⟩ (.bool true)) T LA := ((Fr.of (Below.refl w.heap.size w)).alloc (.cells #[.string x, .bool b, .slice K d.length kc] 42)).set 5 (.bool true)
  have HP := Lib.hid (show RkPost w base T LA { s with down := true } (.returned (.int .i64 5)) (.returned (.int .i64 5)) ((w.alloc (.cells #[.string x, .bool b, .slice K d.length kc] 42)).setCell ⟨T, 5, none⟩ (.bool true)) from
    ⟨rfl, LA, ⟨SA, sn, sc, FA, fn, fcp, ln, lc, h.turn hF ((h.head.alloc (.cells #[.string x, .bool b, .slice K d.length kc] 42)).stored 5 (.bool true)) h.sure h.scap h.files h.fcap ((h.loose.below (below_alloc w (.cells #[.string x, .bool b, .slice K d.length kc] 42))).keep (Kp.setCell (h.head.alloc (.cells #[.string x, .bool b, .slice K d.length kc] 42)) (by decide) (by decide) 5 (.bool true)) (setCell_grown _ ⟨T, 5, none⟩ _) fun ad e e2 => h.TL e (Option.some.inj e2))⟩, hF, LNew.refl w LA⟩)
  obtain ⟨c0, c1, c2, c3, c4, c5, c6, c7, cf⟩ := h.cells (wr := w.alloc (.cells #[.string x, .bool b, .slice K d.length kc] 42)) (Below.heap_alloc _ _ _ h.lt)
  rw [hf] at c6 c7
  rw [show (some 0 : Option Nat).isSome = true from rfl] at c6
  rw [show fuseV (some 0) = 0 from rfl] at c7
  have f5 := cf 5
  clear cf h hF hE hS
  unfold ptr
  go_enter Try.func66, Try.ntmps66
  go_wp2_with fail
  go_ret
  exact HP.out
set_option maxRecDepth 100000 in
theorem write_any (h : Rk w base T s SA sn sc FA fn fcp LA ln lc) {k : Nat} (hk : Ok k s) (h6 : k ≤ 1000) {NA K : Option Addr} {nn nc kc : Nat} {nx : List F} {x : ByteArray} {b : Bool} {d : List UInt8} (hx : FilesT w NA nn nx) (hc : nn ≤ nc)
    (hd : ByT w K d.length d) (hkc : d.length ≤ kc) (hB : base ≤ w.heap.size) (hm : fuseV s.fuse ≤ 9223372036854775807) :
    Calls Try.prog 66 #[ptr T, .agg #[.string x, .bool b, .slice K d.length kc], .slice NA nn nc] w (RkPost w base T LA (goS s ⟨x, b, d⟩ nx) (.returned (.int .i64 (goE s)))) := by
  cases hf : s.fuse with
  | none => exact write_none h hk h6 hx hc hd hkc hB hf
  | some m =>
    cases m with
    | zero => exact write_zero h hf
    | succ m =>
      rw [hf] at hm
      unfold fuseV at hm
      exact write_some h hk h6 hx hc hd hkc hB (m := m) (by simp at hm; omega) hf
end
end Go.Proofs.Ytolkghdeppoanaa.RkW
