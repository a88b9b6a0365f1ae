/-
  Bytes: a box in an old form.
-/
import Derived.Test.YtchlbbndfhibgaaGreatDoorOlC
import Derived.Test.YtchlbbndfhibgaaGreatDoorL2
import Derived.Test.YtchlbbndfhibgaaGreatDoorOlOq
import Derived.Test.YtchlbbndfhibgaaGreatDoorOlP
import Derived.Test.YtchlbbndfhibgaaGreatDoorL1
import Derived.Deep.RegionHeld3
import Derived.Deep.RegionHeld
set_option linter.unusedVariables false
set_option linter.unusedSimpArgs false
namespace Go.Proofs.YtchlbbndfhibgaaGreatDoor.OlE
open Go.Proofs.YtchlbbndfhibgaaGreatDoor.PtK
open Go.RowKit Go.Proofs.YtchlbbndfhibgaaGreatDoor.BxD Go.Proofs.YtchlbbndfhibgaaGreatDoor.PkKit Go.Proofs.YtchlbbndfhibgaaGreatDoor.PkA Go.Proofs.YtchlbbndfhibgaaGreatDoor.PkB Go.Proofs.YtchlbbndfhibgaaGreatDoor.PkC Go.Proofs.YtchlbbndfhibgaaGreatDoor.PkR Go.Proofs.YtchlbbndfhibgaaGreatDoor.OlD Go.Proofs.YtchlbbndfhibgaaGreatDoor.OlA Go.Proofs.YtchlbbndfhibgaaGreatDoor.OlB Go.Proofs.YtchlbbndfhibgaaGreatDoor.OlOm Go.Proofs.YtchlbbndfhibgaaGreatDoor.OlC
open Go.Proofs.YtchlbbndfhibgaaGreatDoor.OlR (mkB)
open Go.Proofs.YtchlbbndfhibgaaGreatDoor.BxKit (RowAt IntsAt StrsAt MsgsAt StrsAt.below MsgsAt.below)

/-- Behind the form's block and the box's all stays. -/
def AF (cg : Bool) (w : World) (o : Obj) (wr : World) : Prop := Below (w.heap.size + 2) ((w.alloc (.cells #[.string (mkB cg), .bool cg] 177)).alloc o) wr
section
variable {cg : Bool} {w wr w2 : World} {o : Obj}
theorem AF.start (cg : Bool) (w : World) (o : Obj) : AF cg w o ((w.alloc (.cells #[.string (mkB cg), .bool cg] 177)).alloc o) := Below.refl _ _
theorem AF.size (h : AF cg w o wr) : w.heap.size + 2 ≤ wr.heap.size := by have := Below.size h; simpa using this
theorem AF.go (h : AF cg w o wr) (hb : Below wr.heap.size wr w2) : AF cg w o w2 := Below.trans h (hb.mono h.size)
theorem AF.below (h : AF cg w o wr) : Below w.heap.size w wr := (((Below.refl _ _).alloc (Nat.le_refl _) _).alloc (by simp) o).trans (Below.mono h (by omega))
theorem AF.frm (h : AF cg w o wr) : FBk wr w.heap.size cg := by
  refine (Below.block h w.heap.size (by omega)).trans ?_
  exact (heap_alloc_old _ _ (by simp)).trans (heap_alloc_new w _)
theorem AF.box {c0 c1 c2 c3 c4 c5 : Value} {t : TypeId} (h : AF cg w (.cells #[c0, c1, c2, c3, c4, c5] t) wr) :
    wr.cell? { block := w.heap.size + 1, off := 0 } = some c0 ∧ wr.cell? { block := w.heap.size + 1, off := 1 } = some c1 ∧ wr.cell? { block := w.heap.size + 1, off := 2 } = some c2 ∧ wr.cell? { block := w.heap.size + 1, off := 3 } = some c3 ∧ wr.cell? { block := w.heap.size + 1, off := 4 } = some c4 ∧ wr.cell? { block := w.heap.size + 1, off := 5 } = some c5 := by
  have hb : wr.heap[w.heap.size + 1]? = some (.cells #[c0, c1, c2, c3, c4, c5] t (0, 0)) := by
    refine (Below.block h (w.heap.size + 1) (by omega)).trans ?_
    have := heap_alloc_new (w.alloc (.cells #[.string (mkB cg), .bool cg] 177)) (.cells #[c0, c1, c2, c3, c4, c5] t)
    rwa [show (w.alloc (.cells #[.string (mkB cg), .bool cg] 177)).heap.size = w.heap.size + 1 by simp] at this
  have c := fun o => cell_of_row wr (w.heap.size + 1) o _ _ _ hb
  exact ⟨(c 0).trans rfl, (c 1).trans rfl, (c 2).trans rfl, (c 3).trans rfl, (c 4).trans rfl, (c 5).trans rfl⟩
end
theorem em_snoc {cg : Bool} {ms : List Msg} {k : Nat} {x : Msg} (h : ms[k]? = some x) : (ms.take (k + 1)).flatMap (em cg) = (ms.take k).flatMap (em cg) ++ em cg x := by
  obtain ⟨hl, rfl⟩ := List.getElem?_eq_some_iff.1 h
  rw [List.take_succ_eq_append_getElem hl, List.flatMap_append]
  simp
theorem ints_at {w : World} {g : Nat} (hg : g = w.heap.size) (a b : Int) : IntsAt (w.alloc (.cells #[.int .i64 a, .int .i64 b] 3)) (w.alloc (.cells #[.int .i64 a, .int .i64 b] 3)).heap.size (some ⟨g, 0, none⟩) 2 [a, b] := by
  subst hg
  have := ints_two w a b
  rwa [show (w.alloc (.cells #[.int .i64 a, .int .i64 b] 3)).heap.size = w.heap.size + 1 by simp]
/-- The mark's row, then the numbers' one. -/
theorem lead_i {w : World} {cg : Bool} (a b : Int) :
    Calls Tryz.prog 163 #[.slice (some ⟨w.heap.size, 0, none⟩) 3 (grownCap w 3 0 5), .slice (some ⟨(Lib.bytesWorld w 5 (mkB cg)).heap.size, 0, none⟩) 2 2] ((Lib.bytesWorld w 5 (mkB cg)).alloc (.cells #[.int .i64 a, .int .i64 b] 3))
      fun e w' => ∃ v', e = .returned v' ∧ OO w.heap.size w w' 11 v' (mk cg ++ fxs [a, b]) := by
  have h0 := OlOq.conv_oo w (mkB cg) (by show (mk cg).toArray.size ≤ 1000000; simp [mk])
  have h1 : OO w.heap.size w (Lib.bytesWorld w 5 (mkB cg)) 3 (.slice (some ⟨w.heap.size, 0, none⟩) 3 (grownCap w 3 0 5)) (mk cg) := h0
  have h2 := h1.alloc (.cells #[.int .i64 a, .int .i64 b] 3)
  refine (appendFixed_any (cp := 2) (N := 11) h2.own (ints_at rfl a b) (Nat.le_refl _) (fun ad e => by injection e with e; subst e; exact own_none h1.own) (by decide) rfl).mono ?_
  rintro e w' ⟨v', rfl, g⟩
  exact ⟨v', rfl, h2.om g⟩
/-- The numbers' row, then the mark's one. -/
theorem lead_ii {w : World} {cg : Bool} (a b : Int) :
    Calls Tryz.prog 163 #[.slice (some ⟨w.heap.size + 1, 0, none⟩) 3 (grownCap (w.alloc (.cells #[.int .i64 a, .int .i64 b] 3)) 3 0 5), .slice (some ⟨w.heap.size, 0, none⟩) 2 2] (Lib.bytesWorld (w.alloc (.cells #[.int .i64 a, .int .i64 b] 3)) 5 (mkB cg))
      fun e w' => ∃ v', e = .returned v' ∧ OO w.heap.size w w' 11 v' (mk cg ++ fxs [a, b]) := by
  have hs : (w.alloc (.cells #[.int .i64 a, .int .i64 b] 3)).heap.size = w.heap.size + 1 := by simp
  have h0 := OlOq.conv_oo (w.alloc (.cells #[.int .i64 a, .int .i64 b] 3)) (mkB cg) (by show (mk cg).toArray.size ≤ 1000000; simp [mk])
  have h1 : OO (w.alloc (.cells #[.int .i64 a, .int .i64 b] 3)).heap.size (w.alloc (.cells #[.int .i64 a, .int .i64 b] 3)) (Lib.bytesWorld (w.alloc (.cells #[.int .i64 a, .int .i64 b] 3)) 5 (mkB cg)) 3 (.slice (some ⟨(w.alloc (.cells #[.int .i64 a, .int .i64 b] 3)).heap.size, 0, none⟩) 3 (grownCap (w.alloc (.cells #[.int .i64 a, .int .i64 b] 3)) 3 0 5)) (mk cg) := h0
  have hz := IntsAt.below (ints_at rfl a b) h1.bel (Nat.le_refl _)
  rw [hs] at h1 hz
  have hbl : Below w.heap.size w (Lib.bytesWorld (w.alloc (.cells #[.int .i64 a, .int .i64 b] 3)) 5 (mkB cg)) := ((Below.refl w.heap.size w).alloc (Nat.le_refl _) _).trans (h1.bel.mono (by omega))
  have h2 : OO w.heap.size w (Lib.bytesWorld (w.alloc (.cells #[.int .i64 a, .int .i64 b] 3)) 5 (mkB cg)) 3 (.slice (some ⟨w.heap.size + 1, 0, none⟩) 3 (grownCap (w.alloc (.cells #[.int .i64 a, .int .i64 b] 3)) 3 0 5)) (mk cg) := ⟨h1.own.down.up (fun k hk => by have := (h1.own.lt k hk).1; omega), hbl, Nat.le_refl _⟩
  refine (appendFixed_any (cp := 2) (N := 11) h2.own hz (by have := h1.bel.size; omega) (fun ad e => by injection e with e; subst e; intro e2; simp [Value.ownBlock] at e2) (by decide) rfl).mono ?_
  rintro e w' ⟨v', rfl, g⟩
  exact ⟨v', rfl, h2.om g⟩
set_option maxHeartbeats 2000000 in
set_option maxRecDepth 100000 in
theorem bytes_ok {cg : Bool} {w : World} {b : Box} {WA MA : Option Addr} {wn wc mn mc B : Nat} (hx : StrsAt w B WA wn b.words) (hm : MsgsAt w B MA mn b.msgs) (hwc : wn ≤ wc) (hmc : mn ≤ mc) (hB : B ≤ w.heap.size) (h0 : mbE b = 0) :
    Calls Tryz.prog 147 #[.agg #[.string (mkB cg), .bool cg], .agg #[.string b.id, .int .i64 b.valid, .int .i64 b.next, .int .i64 b.high, .slice WA wn wc, .slice MA mn mc]] w (BytesOut (eb cg b) 0 w) := by
  have A0 := Lib.hid (AF.start cg w (.cells #[.string b.id, .int .i64 b.valid, .int .i64 b.next, .int .i64 b.high, .slice WA wn wc, .slice MA mn mc] 25))
  have hbl := A0.out.below
  have HX := Lib.hid (StrsAt.below hx hbl hB)
  have HM := Lib.hid (MsgsAt.below hm hbl hB)
  have H0 := Lib.hid h0
  have HG := Lib.hid (OlP.good_of h0)
  have hwm := hx.max
  clear hx hm h0 hbl
  go_enter Tryz.func147, Tryz.ntmps147
  go_upto_region 1 with fail
  generalize (World.alloc (World.alloc w _) _) = w1 at A0 HX HM ⊢
  have hs1 := A0.out.size
  have km := BxB.may_box (bid := b.id) (bv := b.valid) (bn := b.next) (bh := b.high) (mc := mc) HX.out HM.out (by omega) hwc
  rw [show mbE ⟨b.id, b.valid, b.next, b.high, b.words, b.msgs⟩ = 0 from H0.out] at km
  have KM := Lib.hid km
  clear km
  obtain ⟨c0, c1, c2, c3, c4, c5⟩ := A0.out.box
  go_upto_region 3 with (go_at_call 10; go_loud (
               refine KM.out.mono ?_
               rintro e w2 ⟨rfl, hb2⟩
               have A2 := Lib.hid (A0.out.go hb2)
               have HX2 := Lib.hid (StrsAt.below HX.out hb2 (by omega))
               have HM2 := Lib.hid (MsgsAt.below HM.out hb2 (by omega))
               clear hb2 c0 c1 c2 c3 c4 c5))
  clear A0 HX HM
  have hs2 := A2.out.size
  obtain ⟨c0, c1, c2, c3, c4, c5⟩ := A2.out.box
  obtain ⟨k, hk⟩ : ∃ k, k = min wn 32 := ⟨_, rfl⟩
  have hmin : (if (32 : Int) < (wn : Int) then (32 : Int) else (wn : Int)) = (k : Int) := by split <;> omega
  have hmin2 : min (wn : Int) 32 = (k : Int) := by omega
  have hkw : k ≤ wn := by omega
  have hkc : k ≤ wc := by omega
  have hk32 : k ≤ 32 := by omega
  have HK := Lib.hid hk
  clear hk
  go_upto_region 4 with fail
  clear hmin hmin2 c0 c4 c5
  obtain ⟨f0, f1⟩ := A2.out.frm.cells
  have hMs : (mkB cg).size = 3 := rfl
  have hcv : ∀ wr : World, (convert 9 40 (.string (mkB cg))).run Tryz.prog wr = .ok (.slice (some ⟨wr.heap.size, 0, none⟩) 3 (grownCap wr 3 0 5)) (Lib.bytesWorld wr 5 (mkB cg)) := fun wr =>
    Lib.run_convert_string_bytes (P := Tryz.prog) wr 9 40 5 (mkB cg) Tryz.underlying9 Tryz.underlying40 Tryz.underlying5
  have hbd := (Below.refl w2.heap.size w2).drew
  have hbi : Below w2.heap.size w2 (Lib.bytesWorld w2.drew 5 (mkB cg)) := hbd.trans (Lib.bytesWorld_below w2.drew 5 (mkB cg))
  have hbia := hbi.alloc hbi.size (.cells #[.int .i64 b.valid, .int .i64 b.next] 3)
  have hbw : Below w2.heap.size w2 (w2.alloc (.cells #[.int .i64 b.valid, .int .i64 b.next] 3)).drew := hbd.alloc (Nat.le_refl _) (.cells #[.int .i64 b.valid, .int .i64 b.next] 3)
  have hbii : Below w2.heap.size w2 (Lib.bytesWorld (w2.alloc (.cells #[.int .i64 b.valid, .int .i64 b.next] 3)).drew 5 (mkB cg)) := hbw.trans ((Lib.bytesWorld_below (w2.alloc (.cells #[.int .i64 b.valid, .int .i64 b.next] 3)).drew 5 (mkB cg)).mono (by simp))
  have KI := Lib.hid (show Calls Tryz.prog 163 #[.slice (some ⟨w2.heap.size, 0, none⟩) 3 (grownCap w2.drew 3 0 5), .slice (some ⟨(Lib.bytesWorld w2.drew 5 (mkB cg)).heap.size, 0, none⟩) 2 2] ((Lib.bytesWorld w2.drew 5 (mkB cg)).alloc (.cells #[.int .i64 b.valid, .int .i64 b.next] 3)) (fun e w' => ∃ v', e = .returned v' ∧ OO w2.drew.heap.size w2.drew w' 11 v' (mk cg ++ fxs [b.valid, b.next])) from lead_i (w := w2.drew) (cg := cg) b.valid b.next)
  have KJ := Lib.hid (show Calls Tryz.prog 163 #[.slice (some ⟨w2.heap.size + 1, 0, none⟩) 3 (grownCap (w2.alloc (.cells #[.int .i64 b.valid, .int .i64 b.next] 3)).drew 3 0 5), .slice (some ⟨w2.heap.size, 0, none⟩) 2 2] (Lib.bytesWorld (w2.alloc (.cells #[.int .i64 b.valid, .int .i64 b.next] 3)).drew 5 (mkB cg)) (fun e w' => ∃ v', e = .returned v' ∧ OO w2.drew.heap.size w2.drew w' 11 v' (mk cg ++ fxs [b.valid, b.next])) from lead_ii (w := w2.drew) (cg := cg) b.valid b.next)
  have HA := Lib.hid (show ∀ (wr : World), Below w2.heap.size w2 wr → wr.cell? { block := w.heap.size, off := 0 } = some (.string (mkB cg)) ∧ wr.cell? { block := w.heap.size, off := 1 } = some (.bool cg) ∧ wr.cell? { block := w.heap.size + 1, off := 1 } = some (.int .i64 b.valid) ∧ wr.cell? { block := w.heap.size + 1, off := 2 } = some (.int .i64 b.next) ∧ wr.cell? { block := w.heap.size + 1, off := 3 } = some (.int .i64 b.high) from fun wr hb => by
    have a := A2.out.go hb
    exact ⟨a.frm.cells.1, a.frm.cells.2, a.box.2.1, a.box.2.2.1, a.box.2.2.2.1⟩)
  have HBX := Lib.hid (fun (wr : World) (hb : Below w2.heap.size w2 wr) => (A2.out.go hb).box.2.2.2.2)
  obtain ⟨q, hq⟩ : ∃ q, q = (ch cg b.high).length := ⟨_, rfl⟩
  have hq4 : q ≤ 4 := by rw [hq]; exact ch_le cg b.high
  have HQ := Lib.hid hq
  clear hq
  go_region_held (fun wr => wr.cell? { block := w.heap.size, off := 0 } = some (.string (mkB cg)) ∧ wr.cell? { block := w.heap.size, off := 1 } = some (.bool cg) ∧ wr.cell? { block := w.heap.size + 1, off := 1 } = some (.int .i64 b.valid) ∧ wr.cell? { block := w.heap.size + 1, off := 2 } = some (.int .i64 b.next) ∧ wr.cell? { block := w.heap.size + 1, off := 3 } = some (.int .i64 b.high)) (with_reducible first | exact ⟨f0, f1, c1, c2, c3⟩ | exact HA.out _ hbi | exact HA.out _ hbia | exact HA.out _ hbw | exact HA.out _ hbii | exact HA.out _ O3.out.bel | exact HA.out _ O4.out.bel | go_keep) (first
    | (go_at_call 163
       first | (with_reducible refine KI.out.mono ?_) | (with_reducible refine KJ.out.mono ?_) | go_loud (refine KI.out.mono ?_)
       rintro e w3 ⟨v3, rfl, g3⟩
       obtain ⟨A3, k3, rfl, hk3⟩ := g3.own.slice
       have O3 := Lib.hid (show OO w2.heap.size w2 w3 11 (.slice A3 11 k3) (mk cg ++ fxs [b.valid, b.next]) from ⟨g3.own, hbd.trans g3.bel, Nat.le_refl _⟩)
       have KC := appendChange_om (cg := cg) (M := mkB cg) g3.own b.high (show w2.drew.heap.size ≤ w3.heap.size from g3.bel.size) (by decide)
       rw [← HQ.out] at KC
       have KC := Lib.hid KC
       clear g3
       dsimp only)
    | (go_at_call 162
       refine KC.out.mono ?_
       rintro e w4 ⟨v4, rfl, g4⟩
       obtain ⟨A4, k4, rfl, hk4⟩ := g4.own.slice
       have O4 := Lib.hid (O3.out.om g4)
       clear g4
       dsimp only))
  all_goals
    rename_i hHeld
    clear hHeld hbd hbi hbia hbw hbii KI KJ hcv hMs f0 f1 c1 c2 c3 O3 KC
    obtain ⟨l0, hl0⟩ : ∃ l0, l0 = mk cg ++ fxs [b.valid, b.next] ++ ch cg b.high := ⟨_, rfl⟩
    rw [← hl0] at O4
    have HL0 := Lib.hid hl0
    clear hl0
    have KA := Lib.hid (appendFixed_any (cp := 1) (N := 11 + q + 4) (O4.out.alloc (.cells #[.int .i64 (k : Nat)] 3)).own (ints_one w4 (k : Nat)) (by simp) (fun ad e => by injection e with e; subst e; exact own_none O4.out.own) (by omega) rfl)
    go_upto_region 6 with (go_at_call 163; go_loud (
       refine KA.out.mono ?_
       rintro e w5 ⟨v5, rfl, g5⟩
       obtain ⟨A5, k5, rfl, hk5⟩ := g5.own.slice
       have O5 := Lib.hid ((O4.out.alloc _).om g5)
       clear g5))
    clear KA O4
    obtain ⟨l1, hl1⟩ : ∃ l1, l1 = l0 ++ fxs [(k : Int)] := ⟨_, rfl⟩
    rw [← hl1] at O5
    have HL1 := Lib.hid hl1
    clear hl1
    go_wp2_with fail
    go_loopw [7, 42] (fun s7 s42 wr => ∃ (v : Value) (j n : Nat), s7 = v ∧ j ≤ k ∧ s42 = .int .i64 j ∧ n ≤ 19 + 306 * j ∧ Hid (OO w2.heap.size w2 wr n v (l1 ++ (b.words.take j).flatMap tx))) (fun _ s42 _ => k - (intOf s42).toNat)
    case atStart => exact ⟨_, 0, 11 + q + 4, rfl, Nat.zero_le _, rfl, by omega, by have := O5.out; simpa [Hid] using this⟩
    case round =>
      clear O5
      obtain ⟨v, j, n, rfl, hj, rfl, hn, HO⟩ := hrel
      obtain ⟨A6, k6, rfl, hk6⟩ := HO.out.own.slice
      have hbs := HO.out.bel.size
      by_cases hlt : j < k
      · obtain ⟨ad, s, rfl, e1, q1⟩ := BxKit.StrsAt.at_ HX2.out HO.out.bel (by omega) (show j < wn by omega)
        have hsz : s.size ≤ 24 := (atB_size (OlP.wordsB_at HG.out.ws s (List.mem_of_getElem? e1))).2
        have htl := PkK.tx_len (s := s) (by omega)
        have htp : 0 < (tx s).length := by unfold tx; rw [List.length_append]; have := Lib.uvarint_pos s.size; omega
        have KT := Lib.hid (PtA.text_om HO.out.own s (by omega) (by omega))
        have HSN := Lib.hid (tx_snoc e1)
        obtain ⟨T, hT⟩ : ∃ T, T = (tx s).length := ⟨_, rfl⟩
        rw [← hT] at htl htp KT
        clear e1 hT
        go_wp2_with (go_at_call 93; go_loud (
           refine KT.out.mono ?_
           rintro e w8 ⟨v8, rfl, o8⟩
           have HO8 := Lib.hid (show OO w2.heap.size w2 w8 (n + T) v8 (l1 ++ (b.words.take (j + 1)).flatMap tx) by rw [HSN.out, ← List.append_assoc]; exact HO.out.om o8)
           clear o8 q1))
        go_roundw
        case rel => exact ⟨v8, j + 1, n + T, rfl, by omega, by go_num, by omega, HO8⟩
        case measure => simp [intOf]; omega
      · obtain rfl : k = j := by omega
        obtain ⟨c4, c5⟩ := HBX.out wr HO.out.bel
        have hml := HG.out.ml
        have hmn : mn ≤ 60 := by rw [← HM2.out.len]; exact hml
        have KA := Lib.hid (appendFixed_any (cp := 1) (N := n + 4) (HO.out.alloc (.cells #[.int .i64 (mn : Nat)] 3)).own (ints_one wr (mn : Nat)) (by simp) (fun ad e => by injection e with e; subst e; exact own_none HO.out.own) (by omega) rfl)
        go_upto_region 12 with (go_at_call 163; go_loud (
           refine KA.out.mono ?_
           rintro e w6 ⟨v6, rfl, g6⟩
           obtain ⟨A7, k7, rfl, hk7⟩ := g6.own.slice
           have O6 := Lib.hid ((HO.out.alloc _).om g6)
           clear g6 c4 c5))
        obtain ⟨c4, c5⟩ := HBX.out w6 O6.out.bel
        have hqw : (b.words.take k).flatMap tx = (b.words.take 32).flatMap tx := by
          rw [HK.out]
          by_cases h : wn ≤ 32
          · rw [Nat.min_eq_left h, List.take_of_length_le (by rw [HX2.out.len]; omega), List.take_of_length_le (by rw [HX2.out.len]; omega)]
          · rw [Nat.min_eq_right (by omega)]
        obtain ⟨l2, hl2⟩ : ∃ l2, l2 = l1 ++ (b.words.take k).flatMap tx ++ fxs [((mn : Nat) : Int)] := ⟨_, rfl⟩
        rw [← hl2] at O6
        have HL2 := Lib.hid (show l2 ++ b.msgs.flatMap (em cg) = eb cg b by
          rw [hl2, hqw, HL1.out, HL0.out, HK.out]
          unfold eb ebR fxs
          simp only [List.flatMap_cons, List.flatMap_nil, List.append_nil, List.append_assoc, mx_nat, ← HX2.out.len, ← HM2.out.len])
        clear hl2 hqw KA HO HX2
        go_wp2_with fail
        go_loopw [7, 59] (fun s7 s60 wr => ∃ (v : Value) (i n1 : Nat), s7 = v ∧ i ≤ mn ∧ s60 = .int .i64 i ∧ n1 ≤ n + 4 + 321 * i ∧ Hid (OO w2.heap.size w2 wr n1 v (l2 ++ (b.msgs.take i).flatMap (em cg)))) (fun _ s60 _ => mn - (intOf s60).toNat)
        case atStart => exact ⟨_, 0, n + 4, rfl, Nat.zero_le _, rfl, by omega, by have := O6.out; simpa [Hid] using this⟩
        case round =>
          clear O6
          clear c4 c5
          obtain ⟨v, i, n1, rfl, hi, rfl, hn1, HO⟩ := hrel
          obtain ⟨A8, k8, rfl, hk8⟩ := HO.out.own.slice
          have hbs1 := HO.out.bel.size
          by_cases hlt1 : i < mn
          · obtain ⟨ad, u, md, d, id, fl, ks, tx', K, kn, kc, rfl, hab, e1, m0, m1, m2, m3, m4, m5, m6, hkc, hks, z1, z2⟩ := BxKit.MsgsAt.sp HM2.out HO.out.bel (by omega) hlt1
            obtain ⟨p1, p2, p3, p4, p5, p6, p7⟩ := OlP.mm_parts (HG.out.ms _ (List.mem_of_getElem? e1)).1
            dsimp only at p5 p6 p7
            have HSN := Lib.hid (em_snoc (cg := cg) e1)
            have hel : (em cg ⟨u, md, d, id, fl, ks, tx'⟩).length ≤ 321 := by rw [em_len]; have := ch_le cg md; show 17 + (ch cg md).length + tx'.size ≤ 321; omega
            obtain ⟨E, hE⟩ : ∃ E, E = (em cg ⟨u, md, d, id, fl, ks, tx'⟩).length := ⟨_, rfl⟩
            have HOA := Lib.hid (HO.out.alloc (.cells #[.int .i64 u, .int .i64 md, .int .i64 d, .string id, .int .i64 fl, .slice K kn kc, .string tx'] 28))
            obtain ⟨f0, f1⟩ := (A2.out.go HOA.out.bel).frm.cells
            have KM := appendMsg_any (cg := cg) (kc := kc) (u := u) (md := md) (d := d) (id := id) HOA.out.own (BxKit.IntsAt.below hks ((Below.refl w2.heap.size wr).alloc hbs1 (.cells #[.int .i64 u, .int .i64 md, .int .i64 d, .string id, .int .i64 fl, .slice K kn kc, .string tx'] 28)) (by omega)) (show B ≤ w2.heap.size by omega) (by simp; omega) (fun k hk => ((OlD.keysB_rise p6).2 k hk).1) (show 0 ≤ fl ∧ fl ≤ 255 from ⟨p5.1, by have := p5.2; omega⟩) p7 (by omega)
            rw [← hE] at KM hel
            have KM := Lib.hid KM
            clear e1 hks p1 p2 p3 p4 p5 p6 p7 hE
            go_wp2_with (go_at_call 164; go_loud (
               refine KM.out.mono ?_
               rintro e w7 ⟨v7, rfl, o7⟩
               have HO7 := Lib.hid (show OO w2.heap.size w2 w7 (n1 + E) v7 (l2 ++ (b.msgs.take (i + 1)).flatMap (em cg)) by rw [HSN.out, ← List.append_assoc]; exact HOA.out.trans o7)
               clear o7 m0 m1 m2 m3 m4 m5 m6 f0 f1))
            go_roundw
            case rel => exact ⟨v7, i + 1, n1 + E, rfl, by omega, by go_num, by omega, HO7⟩
            case measure => simp [intOf]; omega
          · obtain rfl : mn = i := by omega
            have ho := HO.out
            rw [List.take_of_length_le (by rw [HM2.out.len]; exact Nat.le_refl _), HL2.out] at ho
            have HO2 := Lib.hid ho
            clear ho HO
            go_wp2_with fail
            go_ret2
            exact ⟨A8, n1, k8, rfl, hk8, HO2.out.own.bytes, A2.out.below.trans (HO2.out.bel.mono (by omega))⟩
set_option maxHeartbeats 1000000 in
set_option maxRecDepth 100000 in
theorem bytes_bad {cg : Bool} {w : World} {b : Box} {WA MA : Option Addr} {wn wc mn mc B : Nat} (hx : StrsAt w B WA wn b.words) (hm : MsgsAt w B MA mn b.msgs) (hwc : wn ≤ wc) (hB : B ≤ w.heap.size) (h0 : mbE b ≠ 0) :
    Calls Tryz.prog 147 #[.agg #[.string (mkB cg), .bool cg], .agg #[.string b.id, .int .i64 b.valid, .int .i64 b.next, .int .i64 b.high, .slice WA wn wc, .slice MA mn mc]] w (BytesOut [] 1 w) := by
  have A0 := Lib.hid (AF.start cg w (.cells #[.string b.id, .int .i64 b.valid, .int .i64 b.next, .int .i64 b.high, .slice WA wn wc, .slice MA mn mc] 25))
  have hbl := A0.out.below
  have HX := Lib.hid (StrsAt.below hx hbl hB)
  have HM := Lib.hid (MsgsAt.below hm hbl hB)
  have hwm := hx.max
  clear hx hm hbl
  go_enter Tryz.func147, Tryz.ntmps147
  go_upto_region 1 with fail
  generalize (World.alloc (World.alloc w _) _) = w1 at A0 HX HM ⊢
  have hs1 := A0.out.size
  have km := BxB.may_box (bid := b.id) (bv := b.valid) (bn := b.next) (bh := b.high) (mc := mc) HX.out HM.out (by omega) hwc
  rw [show (⟨b.id, b.valid, b.next, b.high, b.words, b.msgs⟩ : Box) = b from rfl] at km
  obtain ⟨q, hq⟩ : ∃ q, q = mbE b := ⟨_, rfl⟩
  rw [← hq] at km h0
  have KM := Lib.hid km
  clear km hq
  obtain ⟨c0, c1, c2, c3, c4, c5⟩ := A0.out.box
  go_wp2_with (go_at_call 10; go_loud (
               refine KM.out.mono ?_
               rintro e w2 ⟨rfl, hb2⟩
               have A2 := Lib.hid (A0.out.go hb2)
               clear hb2 c0 c1 c2 c3 c4 c5))
  go_ret2
  exact ⟨none, 0, 0, rfl, Nat.le_refl _, BytesAt.nil _ _ _, A2.out.below⟩
end Go.Proofs.YtchlbbndfhibgaaGreatDoor.OlE
