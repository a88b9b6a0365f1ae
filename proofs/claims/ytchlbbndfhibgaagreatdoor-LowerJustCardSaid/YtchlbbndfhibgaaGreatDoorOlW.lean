/-
  Bytes and Parse of the first form and of the second: package old's, at a form of their own.
-/
import Derived.Test.YtchlbbndfhibgaaGreatDoorOlE
import Derived.Test.YtchlbbndfhibgaaGreatDoorOlY
set_option linter.unusedVariables false
set_option linter.unusedSimpArgs false
namespace Go.Proofs.YtchlbbndfhibgaaGreatDoor.OlW
open Go.Proofs.YtchlbbndfhibgaaGreatDoor.PtK
open Go.RowKit Go.Proofs.YtchlbbndfhibgaaGreatDoor.BxD Go.Proofs.YtchlbbndfhibgaaGreatDoor.BxKit Go.Proofs.YtchlbbndfhibgaaGreatDoor.OlD Go.Proofs.YtchlbbndfhibgaaGreatDoor.OlU Go.Proofs.YtchlbbndfhibgaaGreatDoor.OlE Go.Proofs.YtchlbbndfhibgaaGreatDoor.OlY
open Go.Proofs.YtchlbbndfhibgaaGreatDoor.PkKit (BytesAt)
open Go.Proofs.YtchlbbndfhibgaaGreatDoor.OlR (mkB)

set_option maxRecDepth 100000 in
theorem form1 (w : World) : Calls Tryz.prog 146 #[] w fun e w' => e = .returned (.agg #[.string (mkB false), .bool false]) ∧ Below w.heap.size w w' := by
  have hb := (Below.refl w.heap.size w).alloc (Nat.le_refl _) (.cells #[.string ⟨#[77, 66, 49]⟩, .bool false] 177)
  have hbs := Below.setCell (Below.setCell ((Below.refl w.heap.size w).alloc (Nat.le_refl _) (.cells #[.string ⟨#[]⟩, .bool false] 177)) (p := ⟨w.heap.size, 0, none⟩) (Nat.le_refl _) (.string ⟨#[77, 66, 49]⟩)) (p := ⟨w.heap.size, 1, none⟩) (Nat.le_refl _) (.bool false)
  go_enter Tryz.func146, Tryz.ntmps146
  go_wp2_with fail
  refine bodyPost_ret (v := .agg #[.string ⟨#[77, 66, 49]⟩, .bool false]) (by simp [results, Tryz.results146, go_sem]) rfl ?_
  exact ⟨rfl, by first | exact hb | exact hbs⟩

set_option maxHeartbeats 1000000 in
set_option maxRecDepth 100000 in
theorem bytes1_ok {w : World} {b : Box} {WA MA : Option Addr} {wn wc mn mc B : Nat} (hx : StrsAt w B WA wn b.words) (hm : MsgsAt w B MA mn b.msgs) (hwc : wn ≤ wc) (hmc : mn ≤ mc) (hB : B ≤ w.heap.size) (h0 : mbE b = 0) :
    Calls Tryz.prog 127 #[.agg #[.string b.id, .int .i64 b.valid, .int .i64 b.next, .int .i64 b.high, .slice WA wn wc, .slice MA mn mc]] w (BytesOut (eb false b) 0 w) := by
  have A0 := Lib.hid (After.start w (.cells #[.string b.id, .int .i64 b.valid, .int .i64 b.next, .int .i64 b.high, .slice WA wn wc, .slice MA mn mc] 25))
  have hbl := A0.out.below
  have HX := Lib.hid (StrsAt.below hx hbl hB)
  have HM := Lib.hid (MsgsAt.below hm hbl hB)
  have H0 := Lib.hid h0
  clear hx hm h0 hbl
  go_enter Tryz.func127, Tryz.ntmps127
  go_upto_region 1 with fail
  generalize (World.alloc w _) = w1 at A0 HX HM ⊢
  have hs1 := A0.out.size
  obtain ⟨c0, c1, c2, c3, c4, c5⟩ := A0.out.box
  have KF := Lib.hid (form1 w1.drew)
  have KB := Lib.hid (fun (wr : World) (hb : Below w1.heap.size w1 wr) => bytes_ok (cg := false) (b := b) (StrsAt.below HX.out hb (by omega)) (MsgsAt.below HM.out hb (by omega)) hwc hmc (Nat.le_trans (show B ≤ w1.heap.size by omega) hb.size) H0.out)
  have hbd := (Below.refl w1.heap.size w1).drew
  go_region_held3 (fun wr => wr.cell? { block := w.heap.size, off := 0 } = some (.string b.id) ∧ wr.cell? { block := w.heap.size, off := 1 } = some (.int .i64 b.valid) ∧ wr.cell? { block := w.heap.size, off := 2 } = some (.int .i64 b.next) ∧ wr.cell? { block := w.heap.size, off := 3 } = some (.int .i64 b.high) ∧ wr.cell? { block := w.heap.size, off := 4 } = some (.slice WA wn wc) ∧ wr.cell? { block := w.heap.size, off := 5 } = some (.slice MA mn mc)) (with_reducible first | exact ⟨c0, c1, c2, c3, c4, c5⟩ | exact A2.out.box | exact A3.out.box | go_keep) (first
    | (go_at_call 146; go_loud (
       refine KF.out.mono ?_
       rintro e w2 ⟨rfl, hb2⟩
       have hb12 := hbd.trans hb2
       have A2 := Lib.hid (A0.out.go hb12)
       have HB2 := Lib.hid hb12
       clear hb2 hb12
       dsimp only))
    | (go_at_call 147
       refine (KB.out _ HB2.out).mono ?_
       rintro e w3 ⟨A, n, c, rfl, hnc, hz, hb3⟩
       have A3 := Lib.hid (A2.out.go hb3)
       have HZ := Lib.hid hz
       clear hb3 hz
       dsimp only))
  rename_i hHeld
  clear hHeld c0 c1 c2 c3 c4 c5
  go_wp2_with fail
  go_ret2
  exact ⟨A, n, c, rfl, hnc, HZ.out, A3.out.below⟩

set_option maxHeartbeats 1000000 in
set_option maxRecDepth 100000 in
theorem bytes1_bad {w : World} {b : Box} {WA MA : Option Addr} {wn wc mn mc B : Nat} (hx : StrsAt w B WA wn b.words) (hm : MsgsAt w B MA mn b.msgs) (hwc : wn ≤ wc) (hB : B ≤ w.heap.size) (h0 : mbE b ≠ 0) :
    Calls Tryz.prog 127 #[.agg #[.string b.id, .int .i64 b.valid, .int .i64 b.next, .int .i64 b.high, .slice WA wn wc, .slice MA mn mc]] w (BytesOut [] 1 w) := by
  have A0 := Lib.hid (After.start w (.cells #[.string b.id, .int .i64 b.valid, .int .i64 b.next, .int .i64 b.high, .slice WA wn wc, .slice MA mn mc] 25))
  have hbl := A0.out.below
  have HX := Lib.hid (StrsAt.below hx hbl hB)
  have HM := Lib.hid (MsgsAt.below hm hbl hB)
  have H0 := Lib.hid h0
  clear hx hm h0 hbl
  go_enter Tryz.func127, Tryz.ntmps127
  go_upto_region 1 with fail
  generalize (World.alloc w _) = w1 at A0 HX HM ⊢
  have hs1 := A0.out.size
  obtain ⟨c0, c1, c2, c3, c4, c5⟩ := A0.out.box
  have KF := Lib.hid (form1 w1.drew)
  have KB := Lib.hid (fun (wr : World) (hb : Below w1.heap.size w1 wr) => bytes_bad (cg := false) (b := b) (mc := mc) (StrsAt.below HX.out hb (by omega)) (MsgsAt.below HM.out hb (by omega)) hwc (Nat.le_trans (show B ≤ w1.heap.size by omega) hb.size) H0.out)
  have hbd := (Below.refl w1.heap.size w1).drew
  go_region_held3 (fun wr => wr.cell? { block := w.heap.size, off := 0 } = some (.string b.id) ∧ wr.cell? { block := w.heap.size, off := 1 } = some (.int .i64 b.valid) ∧ wr.cell? { block := w.heap.size, off := 2 } = some (.int .i64 b.next) ∧ wr.cell? { block := w.heap.size, off := 3 } = some (.int .i64 b.high) ∧ wr.cell? { block := w.heap.size, off := 4 } = some (.slice WA wn wc) ∧ wr.cell? { block := w.heap.size, off := 5 } = some (.slice MA mn mc)) (with_reducible first | exact ⟨c0, c1, c2, c3, c4, c5⟩ | exact A2.out.box | exact A3.out.box | go_keep) (first
    | (go_at_call 146; go_loud (
       refine KF.out.mono ?_
       rintro e w2 ⟨rfl, hb2⟩
       have hb12 := hbd.trans hb2
       have A2 := Lib.hid (A0.out.go hb12)
       have HB2 := Lib.hid hb12
       clear hb2 hb12
       dsimp only))
    | (go_at_call 147
       refine (KB.out _ HB2.out).mono ?_
       rintro e w3 ⟨A, n, c, rfl, hnc, hz, hb3⟩
       have A3 := Lib.hid (A2.out.go hb3)
       have HZ := Lib.hid hz
       clear hb3 hz
       dsimp only))
  rename_i hHeld
  clear hHeld c0 c1 c2 c3 c4 c5
  go_wp2_with fail
  go_ret2
  exact ⟨A, n, c, rfl, hnc, HZ.out, A3.out.below⟩

set_option maxHeartbeats 2000000 in
set_option maxRecDepth 100000 in
theorem parse1_any {w : World} {B n cp : Nat} {A : Option Addr} {l : List UInt8} {id : ByteArray} (ht : BxO.Tab w) (hz : BytesAt w B A n l) (hB : B ≤ w.heap.size) (hc : n ≤ cp) (hn : n ≤ 140737488355328) (hid : id.size ≤ 200) :
    Calls Tryz.prog 128 #[.slice A n cp, .string id] w (ParseNew (parseS false l id).1 (parseS false l id).2 w) := by
  have hb0 := (Below.refl w.heap.size w).alloc (Nat.le_refl _) (.cells zbox 25)
  have hr0 := heap_alloc_new w (.cells zbox 25)
  have hz0 := hz.below hb0 hB
  have ht0 := ht.below hb0 (Nat.le_refl _)
  have hs0 : (w.alloc (.cells zbox 25)).heap.size = w.heap.size + 1 := by simp
  unfold zbox at hb0 hr0 hz0 ht0 hs0
  obtain ⟨pb, hpb⟩ : ∃ pb, pb = (parseS false l id).1 := ⟨_, rfl⟩
  obtain ⟨pe, hpe⟩ : ∃ pe, pe = (parseS false l id).2 := ⟨_, rfl⟩
  have HPB := Lib.hid hpb
  have HPE := Lib.hid hpe
  rw [← hpb, ← hpe]
  have HB0 := Lib.hid hb0
  have HR0 := Lib.hid hr0
  have HZ0 := Lib.hid hz0
  have HT0 := Lib.hid ht0
  clear ht hz hb0 hr0 hz0 ht0 hpb hpe
  go_enter Tryz.func128, Tryz.ntmps128
  go_upto_region 1 with fail
  generalize (World.alloc w _) = w1 at HB0 HR0 HZ0 HT0 hs0 ⊢
  have KF := Lib.hid (form1 w1)
  go_wp2_with (first
    | (go_at_call 146; go_loud (
       refine KF.out.mono ?_
       rintro e w2 ⟨rfl, hb2⟩
       have hs2 := hb2.size
       have kp := parse_any (cg := false) (id := id) (cp := cp) (HT0.out.below hb2 (Nat.le_refl _)) (HZ0.out.below hb2 (by omega)) (by omega) hc hn hid
       rw [← HPB.out, ← HPE.out] at kp
       have KP := Lib.hid kp
       have HB2 := Lib.hid (HB0.out.trans (hb2.mono (by omega)))
       have HR2 := Lib.hid ((hb2.block w.heap.size (by omega)).trans HR0.out)
       clear hb2 kp))
    | (go_at_call 148; go_loud (
       refine KP.out.mono ?_
       rintro e w3 ⟨WA, wn, wc, MA, mn, mc', rfl, hwc, hmc, hn3, hb3⟩
       have HN3 := Lib.hid hn3
       have hs3 := hb3.size
       have HB3 := Lib.hid (HB2.out.trans (hb3.mono (by omega)))
       have HR3 := Lib.hid ((hb3.block w.heap.size (by omega)).trans HR2.out)
       obtain ⟨z0, z1, z2, z3, z4, z5, zf⟩ := zcells6 HR3.out
       have f0 := zf 0
       have f1 := zf 1
       have f2 := zf 2
       have f3 := zf 3
       have f4 := zf 4
       have f5 := zf 5
       clear zf hn3 hb3)))
  obtain ⟨W, hW, p0, p1, p2, p3, p4, p5, hWg⟩ := ret6 HR3.out (.string pb.id) (.int .i64 pb.valid) (.int .i64 pb.next) (.int .i64 pb.high) (.slice WA wn wc) (.slice MA mn mc')
  rw [← hW]
  refine bodyPost_ret (v := .tuple #[.agg #[.string pb.id, .int .i64 pb.valid, .int .i64 pb.next, .int .i64 pb.high, .slice WA wn wc, .slice MA mn mc'], .int .i64 pe]) (by simp [results, Tryz.results128, go_sem, p0, p1, p2, p3, p4, p5]) rfl ?_
  have hsW := hWg.size
  refine ⟨WA, wn, wc, MA, mn, mc', rfl, hwc, hmc, fun W2 hW2 hW3 => HN3.out W2 (fun k h1 h2 => ?_) (by omega), HB3.out.grown hWg (by omega) (fun k e => by have : w.heap.size = k := Option.some.inj e; omega)⟩
  exact (hW2 k (by omega) (by omega)).trans (hWg.block k h2 (fun e => by have : k = w.heap.size := Option.some.inj e; omega))

set_option maxRecDepth 100000 in
theorem form2 (w : World) : Calls Tryz.prog 149 #[] w fun e w' => e = .returned (.agg #[.string (mkB true), .bool true]) ∧ Below w.heap.size w w' := by
  have hb := (Below.refl w.heap.size w).alloc (Nat.le_refl _) (.cells #[.string ⟨#[77, 66, 50]⟩, .bool true] 177)
  have hbs := Below.setCell (Below.setCell ((Below.refl w.heap.size w).alloc (Nat.le_refl _) (.cells #[.string ⟨#[]⟩, .bool false] 177)) (p := ⟨w.heap.size, 0, none⟩) (Nat.le_refl _) (.string ⟨#[77, 66, 50]⟩)) (p := ⟨w.heap.size, 1, none⟩) (Nat.le_refl _) (.bool true)
  go_enter Tryz.func149, Tryz.ntmps149
  go_wp2_with fail
  refine bodyPost_ret (v := .agg #[.string ⟨#[77, 66, 50]⟩, .bool true]) (by simp [results, Tryz.results149, go_sem]) rfl ?_
  exact ⟨rfl, by first | exact hb | exact hbs⟩

set_option maxHeartbeats 1000000 in
set_option maxRecDepth 100000 in
theorem bytes2_ok {w : World} {b : Box} {WA MA : Option Addr} {wn wc mn mc B : Nat} (hx : StrsAt w B WA wn b.words) (hm : MsgsAt w B MA mn b.msgs) (hwc : wn ≤ wc) (hmc : mn ≤ mc) (hB : B ≤ w.heap.size) (h0 : mbE b = 0) :
    Calls Tryz.prog 129 #[.agg #[.string b.id, .int .i64 b.valid, .int .i64 b.next, .int .i64 b.high, .slice WA wn wc, .slice MA mn mc]] w (BytesOut (eb true b) 0 w) := by
  have A0 := Lib.hid (After.start w (.cells #[.string b.id, .int .i64 b.valid, .int .i64 b.next, .int .i64 b.high, .slice WA wn wc, .slice MA mn mc] 25))
  have hbl := A0.out.below
  have HX := Lib.hid (StrsAt.below hx hbl hB)
  have HM := Lib.hid (MsgsAt.below hm hbl hB)
  have H0 := Lib.hid h0
  clear hx hm h0 hbl
  go_enter Tryz.func129, Tryz.ntmps129
  go_upto_region 1 with fail
  generalize (World.alloc w _) = w1 at A0 HX HM ⊢
  have hs1 := A0.out.size
  obtain ⟨c0, c1, c2, c3, c4, c5⟩ := A0.out.box
  have KF := Lib.hid (form2 w1.drew)
  have KB := Lib.hid (fun (wr : World) (hb : Below w1.heap.size w1 wr) => bytes_ok (cg := true) (b := b) (StrsAt.below HX.out hb (by omega)) (MsgsAt.below HM.out hb (by omega)) hwc hmc (Nat.le_trans (show B ≤ w1.heap.size by omega) hb.size) H0.out)
  have hbd := (Below.refl w1.heap.size w1).drew
  go_region_held3 (fun wr => wr.cell? { block := w.heap.size, off := 0 } = some (.string b.id) ∧ wr.cell? { block := w.heap.size, off := 1 } = some (.int .i64 b.valid) ∧ wr.cell? { block := w.heap.size, off := 2 } = some (.int .i64 b.next) ∧ wr.cell? { block := w.heap.size, off := 3 } = some (.int .i64 b.high) ∧ wr.cell? { block := w.heap.size, off := 4 } = some (.slice WA wn wc) ∧ wr.cell? { block := w.heap.size, off := 5 } = some (.slice MA mn mc)) (with_reducible first | exact ⟨c0, c1, c2, c3, c4, c5⟩ | exact A2.out.box | exact A3.out.box | go_keep) (first
    | (go_at_call 149; go_loud (
       refine KF.out.mono ?_
       rintro e w2 ⟨rfl, hb2⟩
       have hb12 := hbd.trans hb2
       have A2 := Lib.hid (A0.out.go hb12)
       have HB2 := Lib.hid hb12
       clear hb2 hb12
       dsimp only))
    | (go_at_call 147
       refine (KB.out _ HB2.out).mono ?_
       rintro e w3 ⟨A, n, c, rfl, hnc, hz, hb3⟩
       have A3 := Lib.hid (A2.out.go hb3)
       have HZ := Lib.hid hz
       clear hb3 hz
       dsimp only))
  rename_i hHeld
  clear hHeld c0 c1 c2 c3 c4 c5
  go_wp2_with fail
  go_ret2
  exact ⟨A, n, c, rfl, hnc, HZ.out, A3.out.below⟩

set_option maxHeartbeats 1000000 in
set_option maxRecDepth 100000 in
theorem bytes2_bad {w : World} {b : Box} {WA MA : Option Addr} {wn wc mn mc B : Nat} (hx : StrsAt w B WA wn b.words) (hm : MsgsAt w B MA mn b.msgs) (hwc : wn ≤ wc) (hB : B ≤ w.heap.size) (h0 : mbE b ≠ 0) :
    Calls Tryz.prog 129 #[.agg #[.string b.id, .int .i64 b.valid, .int .i64 b.next, .int .i64 b.high, .slice WA wn wc, .slice MA mn mc]] w (BytesOut [] 1 w) := by
  have A0 := Lib.hid (After.start w (.cells #[.string b.id, .int .i64 b.valid, .int .i64 b.next, .int .i64 b.high, .slice WA wn wc, .slice MA mn mc] 25))
  have hbl := A0.out.below
  have HX := Lib.hid (StrsAt.below hx hbl hB)
  have HM := Lib.hid (MsgsAt.below hm hbl hB)
  have H0 := Lib.hid h0
  clear hx hm h0 hbl
  go_enter Tryz.func129, Tryz.ntmps129
  go_upto_region 1 with fail
  generalize (World.alloc w _) = w1 at A0 HX HM ⊢
  have hs1 := A0.out.size
  obtain ⟨c0, c1, c2, c3, c4, c5⟩ := A0.out.box
  have KF := Lib.hid (form2 w1.drew)
  have KB := Lib.hid (fun (wr : World) (hb : Below w1.heap.size w1 wr) => bytes_bad (cg := true) (b := b) (mc := mc) (StrsAt.below HX.out hb (by omega)) (MsgsAt.below HM.out hb (by omega)) hwc (Nat.le_trans (show B ≤ w1.heap.size by omega) hb.size) H0.out)
  have hbd := (Below.refl w1.heap.size w1).drew
  go_region_held3 (fun wr => wr.cell? { block := w.heap.size, off := 0 } = some (.string b.id) ∧ wr.cell? { block := w.heap.size, off := 1 } = some (.int .i64 b.valid) ∧ wr.cell? { block := w.heap.size, off := 2 } = some (.int .i64 b.next) ∧ wr.cell? { block := w.heap.size, off := 3 } = some (.int .i64 b.high) ∧ wr.cell? { block := w.heap.size, off := 4 } = some (.slice WA wn wc) ∧ wr.cell? { block := w.heap.size, off := 5 } = some (.slice MA mn mc)) (with_reducible first | exact ⟨c0, c1, c2, c3, c4, c5⟩ | exact A2.out.box | exact A3.out.box | go_keep) (first
    | (go_at_call 149; go_loud (
       refine KF.out.mono ?_
       rintro e w2 ⟨rfl, hb2⟩
       have hb12 := hbd.trans hb2
       have A2 := Lib.hid (A0.out.go hb12)
       have HB2 := Lib.hid hb12
       clear hb2 hb12
       dsimp only))
    | (go_at_call 147
       refine (KB.out _ HB2.out).mono ?_
       rintro e w3 ⟨A, n, c, rfl, hnc, hz, hb3⟩
       have A3 := Lib.hid (A2.out.go hb3)
       have HZ := Lib.hid hz
       clear hb3 hz
       dsimp only))
  rename_i hHeld
  clear hHeld c0 c1 c2 c3 c4 c5
  go_wp2_with fail
  go_ret2
  exact ⟨A, n, c, rfl, hnc, HZ.out, A3.out.below⟩

set_option maxHeartbeats 2000000 in
set_option maxRecDepth 100000 in
theorem parse2_any {w : World} {B n cp : Nat} {A : Option Addr} {l : List UInt8} {id : ByteArray} (ht : BxO.Tab w) (hz : BytesAt w B A n l) (hB : B ≤ w.heap.size) (hc : n ≤ cp) (hn : n ≤ 140737488355328) (hid : id.size ≤ 200) :
    Calls Tryz.prog 130 #[.slice A n cp, .string id] w (ParseNew (parseS true l id).1 (parseS true l id).2 w) := by
  have hb0 := (Below.refl w.heap.size w).alloc (Nat.le_refl _) (.cells zbox 25)
  have hr0 := heap_alloc_new w (.cells zbox 25)
  have hz0 := hz.below hb0 hB
  have ht0 := ht.below hb0 (Nat.le_refl _)
  have hs0 : (w.alloc (.cells zbox 25)).heap.size = w.heap.size + 1 := by simp
  unfold zbox at hb0 hr0 hz0 ht0 hs0
  obtain ⟨pb, hpb⟩ : ∃ pb, pb = (parseS true l id).1 := ⟨_, rfl⟩
  obtain ⟨pe, hpe⟩ : ∃ pe, pe = (parseS true l id).2 := ⟨_, rfl⟩
  have HPB := Lib.hid hpb
  have HPE := Lib.hid hpe
  rw [← hpb, ← hpe]
  have HB0 := Lib.hid hb0
  have HR0 := Lib.hid hr0
  have HZ0 := Lib.hid hz0
  have HT0 := Lib.hid ht0
  clear ht hz hb0 hr0 hz0 ht0 hpb hpe
  go_enter Tryz.func130, Tryz.ntmps130
  go_upto_region 1 with fail
  generalize (World.alloc w _) = w1 at HB0 HR0 HZ0 HT0 hs0 ⊢
  have KF := Lib.hid (form2 w1)
  go_wp2_with (first
    | (go_at_call 149; go_loud (
       refine KF.out.mono ?_
       rintro e w2 ⟨rfl, hb2⟩
       have hs2 := hb2.size
       have kp := parse_any (cg := true) (id := id) (cp := cp) (HT0.out.below hb2 (Nat.le_refl _)) (HZ0.out.below hb2 (by omega)) (by omega) hc hn hid
       rw [← HPB.out, ← HPE.out] at kp
       have KP := Lib.hid kp
       have HB2 := Lib.hid (HB0.out.trans (hb2.mono (by omega)))
       have HR2 := Lib.hid ((hb2.block w.heap.size (by omega)).trans HR0.out)
       clear hb2 kp))
    | (go_at_call 148; go_loud (
       refine KP.out.mono ?_
       rintro e w3 ⟨WA, wn, wc, MA, mn, mc', rfl, hwc, hmc, hn3, hb3⟩
       have HN3 := Lib.hid hn3
       have hs3 := hb3.size
       have HB3 := Lib.hid (HB2.out.trans (hb3.mono (by omega)))
       have HR3 := Lib.hid ((hb3.block w.heap.size (by omega)).trans HR2.out)
       obtain ⟨z0, z1, z2, z3, z4, z5, zf⟩ := zcells6 HR3.out
       have f0 := zf 0
       have f1 := zf 1
       have f2 := zf 2
       have f3 := zf 3
       have f4 := zf 4
       have f5 := zf 5
       clear zf hn3 hb3)))
  obtain ⟨W, hW, p0, p1, p2, p3, p4, p5, hWg⟩ := ret6 HR3.out (.string pb.id) (.int .i64 pb.valid) (.int .i64 pb.next) (.int .i64 pb.high) (.slice WA wn wc) (.slice MA mn mc')
  rw [← hW]
  refine bodyPost_ret (v := .tuple #[.agg #[.string pb.id, .int .i64 pb.valid, .int .i64 pb.next, .int .i64 pb.high, .slice WA wn wc, .slice MA mn mc'], .int .i64 pe]) (by simp [results, Tryz.results130, go_sem, p0, p1, p2, p3, p4, p5]) rfl ?_
  have hsW := hWg.size
  refine ⟨WA, wn, wc, MA, mn, mc', rfl, hwc, hmc, fun W2 hW2 hW3 => HN3.out W2 (fun k h1 h2 => ?_) (by omega), HB3.out.grown hWg (by omega) (fun k e => by have : w.heap.size = k := Option.some.inj e; omega)⟩
  exact (hW2 k (by omega) (by omega)).trans (hWg.block k h2 (fun e => by have : k = w.heap.size := Option.some.inj e; omega))
end Go.Proofs.YtchlbbndfhibgaaGreatDoor.OlW
