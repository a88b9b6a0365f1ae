/-
  Write, Cut and Crash of the program.
-/
import Derived.Test.YtolkghdeppoanaaRkW
set_option linter.unusedVariables false
set_option linter.unusedSimpArgs false
namespace Go.Proofs.Ytolkghdeppoanaa.RkU
open Go.RowKit Go.Proofs.Ytolkghdeppoanaa.BxD Go.Proofs.Ytolkghdeppoanaa.BxKit Go.Proofs.Ytolkghdeppoanaa.RkO Go.Proofs.Ytolkghdeppoanaa.RkC Go.Proofs.Ytolkghdeppoanaa.RkD Go.Proofs.Ytolkghdeppoanaa.RkR Go.Proofs.Ytolkghdeppoanaa.RkK Go.Proofs.Ytolkghdeppoanaa.RkP Go.Proofs.Ytolkghdeppoanaa.RkQ Go.Proofs.Ytolkghdeppoanaa.RkE Go.Proofs.Ytolkghdeppoanaa.RkS Go.Proofs.Ytolkghdeppoanaa.RkM Go.Proofs.Ytolkghdeppoanaa.RkN Go.Proofs.Ytolkghdeppoanaa.RkV Go.Proofs.Ytolkghdeppoanaa.RkW

set_option maxRecDepth 100000 in
theorem Fr.after {a b c : World} {T : Nat} {LA : Option Addr} (hb : Below a.heap.size a b) (h : Fr b c T LA) : Fr a c T LA :=
  ⟨h.os.trans hb.os, h.tape.trans hb.tape, h.output.trans hb.output, Nat.le_trans hb.size h.size, fun k hk h1 h2 => (h.block k (Nat.lt_of_lt_of_le hk hb.size) h1 h2).trans (hb.block k hk)⟩
set_option maxRecDepth 100000 in
theorem RkX.drewN {w : World} {base T : Nat} {s : St} {LA : Option Addr} (h : RkX w base T s LA) (n : Nat) : RkX (w.drewN n) base T s LA := by
  obtain ⟨SA, sn, sc, FA, fn, fcp, ln, lc, h⟩ := h
  exact ⟨_, _, _, _, _, _, _, _, h.below (BxKit.below_drewN (Below.refl _ _) n)⟩
set_option maxRecDepth 100000 in
theorem RkPost.drewN {w w' : World} {base T : Nat} {LA : Option Addr} {s' : St} {e0 e : Ending} (h : RkPost w base T LA s' e0 e w') {n : Nat} : RkPost w base T LA s' e0 e (w'.drewN n) := by
  obtain ⟨he, LA', hr, hf, hl⟩ := h
  exact ⟨he, LA', RkX.drewN hr n, hf.below (BxKit.below_drewN (Below.refl _ _) n), hl⟩
set_option maxRecDepth 100000 in
theorem RkPost.lift {w w3 w' : World} {base T : Nat} {LA : Option Addr} {s' : St} {e0 e : Ending} (hb : Below w.heap.size w w3) (h : RkPost w3 base T LA s' e0 e w') : RkPost w base T LA s' e0 e w' := by
  obtain ⟨he, LA', hr, hf, hl⟩ := h
  refine ⟨he, LA', hr, Fr.after hb hf, fun ad e => ?_⟩
  rcases hl ad e with h1 | h1
  · exact .inl (Nat.le_trans hb.size h1)
  · exact .inr h1
section
variable {w : World} {base T : Nat} {s : St} {SA FA LA : Option Addr} {sn sc fn fcp ln lc : Nat}
set_option maxRecDepth 100000 in
set_option maxHeartbeats 1000000 in
theorem Write_bad (h : Rk w base T s SA sn sc FA fn fcp LA ln lc) {D : Option Addr} {dn dc : Nat} {n : ByteArray} {d : List UInt8} (hl : d.length = dn) (hb : wrBad n d = true) :
    Calls Try.prog 41 #[ptr T, .string n, .slice D dn dc] w (RkPost w base T LA (wrS s n d) (.returned (.int .i64 (wrE s n d)))) := by
  have hE : wrE s n d = 1 := if_pos hb
  have hS : wrS s n d = s := if_pos hb
  rw [hE, hS]
  have HP := Lib.hid (RkPost.same h (Below.refl _ _) (.returned (.int .i64 1)))
  have KN := Lib.hid (mayName_any n w)
  unfold wrBad at hb
  rw [hl] at hb
  clear h hE hS hl
  unfold ptr
  cases ho : okN n with
  | false =>
    rw [ho] at KN
    clear ho hb
    go_enter Try.func41, Try.ntmps41
    go_wp2_with (go_at_call 64; go_loud (refine KN.out.mono ?_; rintro e w1 ⟨rfl, rfl⟩))
    go_ret
    exact HP.out
  | true =>
    rw [ho] at KN hb
    have hgt : (200000 : Int) < (dn : Int) := by
      have := of_decide_eq_true (by simpa using hb : decide (200000 < dn) = true)
      omega
    clear ho hb
    go_enter Try.func41, Try.ntmps41
    go_wp2_with (go_at_call 64; go_loud (refine KN.out.mono ?_; rintro e w1 ⟨rfl, rfl⟩))
    go_ret
    exact HP.out
set_option maxRecDepth 100000 in
set_option maxHeartbeats 1000000 in
theorem Write_down (h : Rk w base T s SA sn sc FA fn fcp LA ln lc) {D : Option Addr} {dn dc : Nat} {n : ByteArray} {d : List UInt8} (hl : d.length = dn) (hb : wrBad n d = false) (hd : s.down = true) :
    Calls Try.prog 41 #[ptr T, .string n, .slice D dn dc] w (RkPost w base T LA (wrS s n d) (.returned (.int .i64 (wrE s n d)))) := by
  have hE : wrE s n d = 5 := by unfold wrE; rw [hb, hd]; rfl
  have hS : wrS s n d = s := by unfold wrS; rw [hb, hd]; rfl
  rw [hE, hS]
  have HP := Lib.hid (RkPost.same h (Below.refl _ _) (.returned (.int .i64 5)))
  have KN := Lib.hid (mayName_any n w)
  unfold wrBad at hb
  rw [Bool.or_eq_false_iff, hl] at hb
  have ho : okN n = true := by simpa using hb.1
  have hgt : ¬ (200000 : Int) < (dn : Int) := by have := of_decide_eq_false hb.2; omega
  rw [ho] at KN
  obtain ⟨c0, c1, c2, c3, c4, c5, c6, c7, cf⟩ := h.cells rfl
  rw [hd] at c5
  clear h hE hS hl hb ho cf
  unfold ptr
  go_enter Try.func41, Try.ntmps41
  go_wp2_with (go_at_call 64; go_loud (refine KN.out.mono ?_; rintro e w1 ⟨rfl, rfl⟩))
  go_ret
  exact HP.out
set_option maxRecDepth 100000 in
set_option maxHeartbeats 4000000 in
theorem Write_good (h : Rk w base T s SA sn sc FA fn fcp LA ln lc) {k : Nat} (hk : Ok k s) (h6 : k ≤ 900) {D : Option Addr} {dn dc B : Nat} {n : ByteArray} {d : List UInt8} (hD : PkKit.BytesAt w B D dn d) (hB : B ≤ w.heap.size) (hbase : base ≤ w.heap.size) (hm : fuseV s.fuse ≤ 9223372036854775807) (hb : wrBad n d = false) (hd : s.down = false) :
    Calls Try.prog 41 #[ptr T, .string n, .slice D dn dc] w (RkPost w base T LA (wrS s n d) (.returned (.int .i64 (wrE s n d)))) := by
  obtain ⟨z1, z2⟩ := wr_ok hb
  have hl := hD.1
  have KC := Lib.hid (clone_any (cap := dc) hD hB (by omega))
  have hE : wrE s n d = if wrFull s n d then 4 else goE s := by unfold wrE; rw [hb, hd]; rfl
  have hS : wrS s n d = if wrFull s n d then s else goS s ⟨n, false, d⟩ (putF n d s.files) := by unfold wrS; rw [hb, hd]; rfl
  rw [hE, hS]
  have KN := Lib.hid (mayName_any n w)
  unfold wrBad at hb
  rw [Bool.or_eq_false_iff, hl] at hb
  have ho : okN n = true := by simpa using hb.1
  have hgt : ¬ (200000 : Int) < (dn : Int) := by have := of_decide_eq_false hb.2; omega
  rw [ho] at KN
  obtain ⟨c0, c1, c2, c3, c4, c5, c6, c7, cf⟩ := h.cells rfl
  rw [hd] at c5
  have HH := Lib.hid h
  have HT := Lib.hid h.lt
  have HL := Lib.hid hl
  have hok := hk.files.put z1 z2
  have hfl := h.files.len
  have hfn : fn ≤ 900 := by have := hk.files.len; omega
  obtain ⟨nx, hnx⟩ : ∃ nx, nx = putF n d s.files := ⟨_, rfl⟩
  rw [← hnx] at hok
  have HNX := Lib.hid hnx
  have HOK := Lib.hid hok
  unfold ClB at KC
  obtain ⟨S', hS'⟩ : ∃ S', S' = if wrFull s n d then s else goS s ⟨n, false, d⟩ (putF n d s.files) := ⟨_, rfl⟩
  obtain ⟨E', hE'⟩ : ∃ E', E' = if wrFull s n d then (4 : Int) else goE s := ⟨_, rfl⟩
  rw [← hS', ← hE']
  have HS' := Lib.hid hS'
  have HE' := Lib.hid hE'
  clear h hE hS hb ho cf hl hD hnx hok z1 hS' hE'
  unfold ptr
  go_enter Try.func41, Try.ntmps41
  go_upto_region 6 with (first
    | (go_at_call 64; go_loud (refine KN.out.mono ?_; rintro e w1 ⟨rfl, rfl⟩))
    | (go_at_call 47; go_loud (refine KC.out.mono ?_; rintro e w1 ⟨K, kc, rfl, hkc, hby, hw1⟩; have HBY := Lib.hid hby; have HB1 := Lib.hid hw1; clear hby hw1)))
  obtain ⟨W2, hW2⟩ : ∃ W2, W2 = w1.alloc (.cells #[.string n, .bool false, .slice K d.length kc] 42) := ⟨_, rfl⟩
  have hB2 : Below w.heap.size w W2 := by rw [hW2]; exact HB1.out.alloc HB1.out.size _
  have hP : Row W2 w1.heap.size 42 [.string n, .bool false, .slice K d.length kc] := by rw [hW2]; exact heap_alloc_new w1 _
  have HS2 := Lib.hid (show w1.heap.size < W2.heap.size by rw [hW2]; simp)
  rw [← hW2]
  have hby2 : ByT W2 K d.length d := by rw [hW2]; exact HBY.out.kp (Kp.alloc _ _)
  have p0 : W2.cell? { block := w1.heap.size, off := 0 } = some (.string n) := hP.cell 0
  have p1 : W2.cell? { block := w1.heap.size, off := 1 } = some (.bool false) := hP.cell 1
  have p2 : W2.cell? { block := w1.heap.size, off := 2 } = some (.slice K d.length kc) := hP.cell 2
  have x2 : W2.cell? { block := T, off := 2 } = some (.slice FA fn fcp) := (hB2.cell (p := ⟨T, 2, none⟩) HT.out).trans c2
  have hKp2 := Kp.below hB2 (Nat.le_refl _)
  have KD := Lib.hid (done_put (w := W2.drew) (k := n) (cp := fcp) (HH.out.files.kp hKp2) (by omega) HH.out.fcap hk.files.srt (d := d) hby2 hkc)
  unfold DnPost at KD
  rw [← HNX.out] at KD
  have HB2 := Lib.hid hB2
  have HBY2 := Lib.hid hby2
  obtain ⟨q, hq⟩ : ∃ q, q = nx.length := ⟨_, rfl⟩
  rw [← hq] at KD
  have hq1 : q ≤ 901 := by have := HOK.out.len; omega
  have HQ := Lib.hid hq
  obtain ⟨m, hmd⟩ : ∃ m, m = d.length := ⟨_, rfl⟩
  rw [← hmd] at KD p2 hkc z2
  rw [← hmd]
  have HMD := Lib.hid hmd
  clear hW2 hB2 hP hby2 hKp2 hq hmd c1 c2 c3 c4 c5 c6 c7 KC KN hB hgt
  have hcells := fun (w3 : World) (hb : Below W2.heap.size W2 w3) (o : Nat) => (hb.cell (p := ⟨w1.heap.size, o, none⟩) HS2.out)
  have HC3 := Lib.hid (fun (w3 : World) (hb : Below W2.heap.size W2 w3) => show w3.cell? { block := T, off := 2 } = some (.slice FA fn fcp) ∧ w3.cell? { block := w1.heap.size, off := 0 } = some (.string n) ∧ w3.cell? { block := w1.heap.size, off := 1 } = some (.bool false) ∧ w3.cell? { block := w1.heap.size, off := 2 } = some (.slice K m kc) from
    ⟨(hb.cell (p := ⟨T, 2, none⟩) (Nat.lt_of_lt_of_le HT.out HB2.out.size)).trans x2, (hcells w3 hb 0).trans p0, (hcells w3 hb 1).trans p1, (hcells w3 hb 2).trans p2⟩)
  clear hcells
  go_region_held3 (fun wq => wq.cell? { block := T, off := 2 } = some (.slice FA fn fcp) ∧ wq.cell? { block := w1.heap.size, off := 0 } = some (.string n) ∧ wq.cell? { block := w1.heap.size, off := 1 } = some (.bool false) ∧ wq.cell? { block := w1.heap.size, off := 2 } = some (.slice K m kc)) (with_reducible first | exact ⟨x2, p0, p1, p2⟩ | exact f3 | go_keep) (first
    | (go_at_call 48; go_loud (
       refine KD.out.mono ?_
       rintro e w3 ⟨A3, k3, rfl, hk3, hf3, hw3⟩
       have HF3 := Lib.hid hf3
       have HB3 := Lib.hid (show Below W2.heap.size W2 w3 from (Below.drew (Below.refl W2.heap.size W2)).trans hw3)
       have f3 := HC3.out w3 HB3.out
       clear hf3 hw3
       dsimp only)))
  rename_i hHeld
  clear hHeld
  clear p0 p1 p2 x2 KD
  have HB30 := Lib.hid (HB2.out.trans (HB3.out.mono HB2.out.size))
  obtain ⟨x3, y0, y1, y2⟩ := f3
  by_cases h40 : 40 < q
  · have HP := Lib.hid (show RkPost w base T LA S' (.returned (.int .i64 E')) (.returned (.int .i64 4)) w3 by
      have hf : wrFull s n d = true := by unfold wrFull; rw [← HNX.out, ← HQ.out, decide_eq_true h40]; rfl
      rw [HE'.out, HS'.out, hf]
      exact RkPost.same HH.out HB30.out _)
    have hd40 : decide ((40 : Int) < (q : Int)) = true := decide_eq_true (by omega)
    have h40i : (40 : Int) < (q : Int) := by omega
    clear x3 y0 y1 y2
    go_upto_region 7 with fail
    go_quiet (fail)
    go_wp2_with fail
    go_ret
    exact RkPost.drewN HP.out
  · have hd40 : decide ((40 : Int) < (q : Int)) = false := decide_eq_false (by omega)
    have KO := Lib.hid (costs_any (w := w3.drew) (cap := k3) (by omega) HOK.out.sz HF3.out)
    have hcb := HOK.out.cost
    obtain ⟨C, hC⟩ : ∃ C, C = costs nx := ⟨_, rfl⟩
    rw [← hC] at KO hcb
    have HC := Lib.hid hC
    have r0 : w3.cell? { block := T, off := 0 } = some (.int .i64 s.room) := (HB30.out.cell (p := ⟨T, 0, none⟩) HT.out).trans c0
    have HR := Lib.hid r0
    clear hC x3
    have HT3 := Lib.hid (show T < w3.heap.size ∧ w1.heap.size < w3.heap.size from ⟨Nat.lt_of_lt_of_le HT.out HB30.out.size, Nat.lt_of_lt_of_le HS2.out HB3.out.size⟩)
    have HY := Lib.hid (show w3.cell? { block := w1.heap.size, off := 0 } = some (.string n) ∧ w3.cell? { block := w1.heap.size, off := 1 } = some (.bool false) ∧ w3.cell? { block := w1.heap.size, off := 2 } = some (.slice K m kc) from ⟨y0, y1, y2⟩)
    clear y0 y1 y2
    go_upto_region 7 with fail
    go_region_held3 (fun wq => wq.cell? { block := T, off := 0 } = some (.int .i64 s.room)) (with_reducible first | exact r0 | exact r4 | go_keep) (first
      | (go_at_call 65; go_loud (
         refine KO.out.mono ?_
         rintro e w4 ⟨rfl, hw4⟩
         have HB4 := Lib.hid (show Below w3.heap.size w3 w4 from (Below.drew (Below.refl w3.heap.size w3)).trans hw4)
         have r4 : w4.cell? { block := T, off := 0 } = some (.int .i64 s.room) := (HB4.out.cell (p := ⟨T, 0, none⟩) HT3.out.1).trans HR.out
         clear hw4
         dsimp only)))
    rename_i hHeld
    clear hHeld
    have HB40 := Lib.hid (HB30.out.trans (HB4.out.mono HB30.out.size))
    by_cases hfu : s.room < C
    · have HP := Lib.hid (show RkPost w base T LA S' (.returned (.int .i64 E')) (.returned (.int .i64 4)) w4 by
        have hf : wrFull s n d = true := by unfold wrFull; rw [← HNX.out, ← HC.out, decide_eq_true hfu, Bool.or_true]
        rw [HE'.out, HS'.out, hf]
        exact RkPost.same HH.out HB40.out _)
      have hfi : (s.room : Int) < (C : Int) := by omega
      go_wp2_with fail
      go_ret
      exact HP.out
    · have hfi : ¬ (s.room : Int) < (C : Int) := by omega
      have z0 : w4.cell? { block := w1.heap.size, off := 0 } = some (.string n) := (HB4.out.cell (p := ⟨w1.heap.size, 0, none⟩) HT3.out.2).trans HY.out.1
      have z1 : w4.cell? { block := w1.heap.size, off := 1 } = some (.bool false) := (HB4.out.cell (p := ⟨w1.heap.size, 1, none⟩) HT3.out.2).trans HY.out.2.1
      have z3 : w4.cell? { block := w1.heap.size, off := 2 } = some (.slice K m kc) := (HB4.out.cell (p := ⟨w1.heap.size, 2, none⟩) HT3.out.2).trans HY.out.2.2
      have KW := Lib.hid (show Calls Try.prog 66 #[ptr T, .agg #[.string n, .bool false, .slice K m kc], .slice A3 q k3] w4 (RkPost w base T LA S' (.returned (.int .i64 E'))) by
        have hf : wrFull s n d = false := by unfold wrFull; rw [← HNX.out, ← HC.out, ← HQ.out, decide_eq_false hfu, decide_eq_false h40]; rfl
        have hkp4 : Kp W2 w4 := (Kp.below HB3.out (Nat.le_refl _)).trans (Kp.below HB4.out (Nat.le_refl _))
        have hkc' := hkc
        rw [HMD.out] at hkc'
        have hW := write_any (HH.out.below HB40.out) hk (by omega) (x := n) (b := false) (HF3.out.kp (Kp.below HB4.out (Nat.le_refl _))) hk3 (HBY2.out.kp hkp4) hkc' (Nat.le_trans hbase HB40.out.size) hm
        rw [HE'.out, HS'.out, hf, HMD.out, ← HNX.out]
        exact hW.mono fun e w' h => RkPost.lift HB40.out h)
      unfold ptr at KW
      go_wp2_with (go_at_call 66; go_loud (refine KW.out.mono ?_; rintro e w5 ⟨rfl, hg⟩; have HG := Lib.hid hg; clear hg))
      go_ret
      exact ⟨rfl, HG.out⟩
set_option maxRecDepth 100000 in
theorem Write_any (h : Rk w base T s SA sn sc FA fn fcp LA ln lc) {k : Nat} (hk : Ok k s) (h6 : k ≤ 900) {D : Option Addr} {dn dc B : Nat} {n : ByteArray} {d : List UInt8} (hD : PkKit.BytesAt w B D dn d) (hB : B ≤ w.heap.size) (hbase : base ≤ w.heap.size) (hm : fuseV s.fuse ≤ 9223372036854775807) :
    Calls Try.prog 41 #[ptr T, .string n, .slice D dn dc] w (RkPost w base T LA (wrS s n d) (.returned (.int .i64 (wrE s n d)))) := by
  cases hb : wrBad n d with
  | true => exact Write_bad h hD.1 hb
  | false =>
    cases hd : s.down with
    | true => exact Write_down h hD.1 hb hd
    | false => exact Write_good h hk h6 hD hB hbase hm hb hd
end
end Go.Proofs.Ytolkghdeppoanaa.RkU
