/-
  Bytes: a box in the first form.
-/
import Derived.Test.YtinkodkmbecamaaDoorFoC
import Derived.Test.YtinkodkmbecamaaDoorBxB
import Derived.Test.YtinkodkmbecamaaDoorFoF
import Derived.Test.YtinkodkmbecamaaDoorFoP
namespace Go.Proofs.YtinkodkmbecamaaDoor.FoE
open Go.RowKit Go.Proofs.YtinkodkmbecamaaDoor.BxD Go.Proofs.YtinkodkmbecamaaDoor.PkKit Go.Proofs.YtinkodkmbecamaaDoor.PkA Go.Proofs.YtinkodkmbecamaaDoor.PkB Go.Proofs.YtinkodkmbecamaaDoor.PkC Go.Proofs.YtinkodkmbecamaaDoor.PkR Go.Proofs.YtinkodkmbecamaaDoor.FoD Go.Proofs.YtinkodkmbecamaaDoor.FoA Go.Proofs.YtinkodkmbecamaaDoor.FoB Go.Proofs.YtinkodkmbecamaaDoor.FoC Go.Proofs.YtinkodkmbecamaaDoor.FoF
open Go.Proofs.YtinkodkmbecamaaDoor.BxKit (RowAt IntsAt StrsAt MsgsAt After StrsAt.below MsgsAt.below)

/-- Bytes that a call told. -/
def BytesOut (l : List UInt8) (e : Int) (w : World) (x : Ending) (w' : World) : Prop :=
  ∃ A n c, x = .returned (.tuple #[.slice A n c, .int .i64 e]) ∧ n ≤ c ∧ BytesAt w' w'.heap.size A n l ∧ Below w.heap.size w w'

theorem ints_three {w : World} {g : Nat} (hg : g = w.heap.size) (a b c : Int) : IntsAt (w.alloc (.cells #[.int .i64 a, .int .i64 b, .int .i64 c] 3)) (w.heap.size + 1) (some ⟨g, 0, none⟩) 3 [a, b, c] := by
  subst hg
  refine ⟨rfl, by decide, fun _ => ⟨_, rfl, Nat.lt_succ_self _, fun j x hj => ?_⟩⟩
  unfold BxKit.intC
  rw [Nat.mul_one, BxR.cell_new]
  match j, hj with
  | 0, hj => simp at hj; subst hj; rfl
  | 1, hj => simp at hj; subst hj; rfl
  | 2, hj => simp at hj; subst hj; rfl
theorem ints_one (w : World) (a : Int) : IntsAt (w.alloc (.cells #[.int .i64 a] 3)) (w.heap.size + 1) (some ⟨w.heap.size, 0, none⟩) 1 [a] := by
  refine ⟨rfl, by decide, fun _ => ⟨_, rfl, Nat.lt_succ_self _, fun j x hj => ?_⟩⟩
  unfold BxKit.intC
  rw [Nat.mul_one, BxR.cell_new]
  match j, hj with
  | 0, hj => simp at hj; subst hj; rfl
theorem mk_at (w : World) (o : Obj) : BytesAt ((w.alloc (.cells #[.int .u8 77, .int .u8 66, .int .u8 49] 5 (3, 4))).alloc o) ((w.alloc (.cells #[.int .u8 77, .int .u8 66, .int .u8 49] 5 (3, 4))).alloc o).heap.size (some ⟨w.heap.size, 0, none⟩) 3 mk := by
  refine ⟨rfl, fun _ => ⟨_, rfl, by simp; omega, fun j c hj => ?_⟩⟩
  rw [BxR.add_new]
  have h1 : ((w.alloc (.cells #[.int .u8 77, .int .u8 66, .int .u8 49] 5 (3, 4))).alloc o).heap[w.heap.size]? = some (.cells #[.int .u8 77, .int .u8 66, .int .u8 49] 5 (3, 4)) :=
    (heap_alloc_old _ _ (by simp)).trans (heap_alloc_new w _)
  have h2 : ((w.alloc (.cells #[.int .u8 77, .int .u8 66, .int .u8 49] 5 (3, 4))).alloc o).cell? ⟨w.heap.size, j, none⟩ = (#[.int .u8 77, .int .u8 66, .int .u8 49] : Array Value)[j]? := _root_.Go.Joins.cell_of_block h1 j
  rw [h2]
  match j, hj with
  | 0, hj => simp [mk] at hj; subst hj; rfl
  | 1, hj => simp [mk] at hj; subst hj; rfl
  | 2, hj => simp [mk] at hj; subst hj; rfl
theorem ob_trans {base n n' : Nat} {w0 w1 w2 : World} {v v' : Value} {l l' : List UInt8} (h1 : OB base w0 w1 n v l) (h2 : OB base w1 w2 n' v' l') : OB base w0 w2 n' v' l' := ⟨h2.own, h1.bel.trans h2.bel, h1.bas⟩
/-- A row of the call's own, with more behind it. -/
theorem ob_og {base n n' : Nat} {w0 w1 w2 : World} {v v' : Value} {l l' : List UInt8} (h1 : OB base w0 w1 n v l) (h2 : OG w1 v w2 n' v' l') : OB base w0 w2 n' v' l' := by
  have hb : base ≤ w1.heap.size := Nat.le_trans h1.bas h1.bel.size
  exact ob_trans h1 (og_ob h2 (fun g e => (h1.own.lt g e).1) hb)
theorem tx_snoc {ws : List ByteArray} {k : Nat} {x : ByteArray} (h : ws[k]? = some x) : (ws.take (k + 1)).flatMap tx = (ws.take k).flatMap tx ++ tx x := by
  obtain ⟨hl, rfl⟩ := List.getElem?_eq_some_iff.1 h
  rw [List.take_succ_eq_append_getElem hl, List.flatMap_append]
  simp
theorem em_snoc {ms : List Msg} {k : Nat} {x : Msg} (h : ms[k]? = some x) : (ms.take (k + 1)).flatMap em = (ms.take k).flatMap em ++ em x := by
  obtain ⟨hl, rfl⟩ := List.getElem?_eq_some_iff.1 h
  rw [List.take_succ_eq_append_getElem hl, List.flatMap_append]
  simp
set_option maxHeartbeats 1000000 in
set_option maxRecDepth 100000 in
theorem bytes_ok {w : World} {b : Box} {WA MA : Option Addr} {wn wc mn mc B : Nat} (hx : StrsAt w B WA wn b.words) (hm : MsgsAt w B MA mn b.msgs) (hwc : wn ≤ wc) (hmc : mn ≤ mc) (hB : B ≤ w.heap.size) (h0 : mbE b = 0) :
    Calls Tryd.prog 9 #[.agg #[.string b.id, .int .i64 b.valid, .int .i64 b.next, .int .i64 b.high, .slice WA wn wc, .slice MA mn mc]] w (BytesOut (eb b) 0 w) := by
  have A0 := Lib.hid (After.start w (.cells #[.string b.id, .int .i64 b.valid, .int .i64 b.next, .int .i64 b.high, .slice WA wn wc, .slice MA mn mc] 25))
  have hbl := A0.out.below
  have HX := Lib.hid (StrsAt.below hx hbl hB)
  have HM := Lib.hid (MsgsAt.below hm hbl hB)
  have H0 := Lib.hid h0
  have hg0 := FoP.good_of h0
  have HG := Lib.hid hg0
  clear hg0
  have hwm := hx.max
  clear hx hm h0 hbl
  go_enter Tryd.func9, Tryd.ntmps9
  go_upto_region 1 with fail
  generalize (World.alloc w _) = w1 at A0 HX HM ⊢
  have hs1 := A0.out.size
  have km := BxB.may_box (bid := b.id) (bv := b.valid) (bn := b.next) (bh := b.high) (mc := mc) HX.out HM.out (by omega) hwc
  rw [show mbE ⟨b.id, b.valid, b.next, b.high, b.words, b.msgs⟩ = 0 from H0.out] at km
  have KM := Lib.hid km
  clear km
  obtain ⟨c0, c1, c2, c3, c4, c5⟩ := A0.out.box
  go_upto_region 3 with (go_at_call 17; go_loud (
               refine KM.out.mono ?_
               rintro e w2 ⟨rfl, hb2⟩
               have A2 := Lib.hid (A0.out.go hb2)
               have HX2 := Lib.hid (StrsAt.below HX.out hb2 (by omega))
               have HM2 := Lib.hid (MsgsAt.below HM.out hb2 (by omega))
               clear hb2 c0 c1 c2 c3 c4 c5))
  clear A0 HX HM
  have hs2 := A2.out.size
  obtain ⟨c0, c1, c2, c3, c4, c5⟩ := A2.out.box
  obtain ⟨k, hk⟩ : ∃ k, k = min wn 32 := ⟨_, rfl⟩
  have hmin : (if (32 : Int) < (wn : Int) then (32 : Int) else (wn : Int)) = (k : Int) := by split <;> omega
  have hmin2 : min (wn : Int) 32 = (k : Int) := by omega
  have hkw : k ≤ wn := by omega
  have hkc : k ≤ wc := by omega
  have hk32 : k ≤ 32 := by omega
  have HK := Lib.hid hk
  clear hk
  go_upto_region 4 with fail
  clear hmin hmin2 c3 c4
  have hcv : (convert 26 26 (.slice (some ⟨w2.heap.size, 0, none⟩) 3 3)).run Tryd.prog (w2.alloc (.cells #[.int .u8 77, .int .u8 66, .int .u8 49] 5)) = .ok (.slice (some ⟨w2.heap.size, 0, none⟩) 3 3) (w2.alloc (.cells #[.int .u8 77, .int .u8 66, .int .u8 49] 5 (3, 4))) :=
    _root_.Go.Joins.run_convert_bytes_const_at (P := Tryd.prog) w2 26 5 #[.int .u8 77, .int .u8 66, .int .u8 49] 3 3 w2.heap.size rfl Tryd.underlying26 Tryd.underlying5
  have hbm := (Below.refl w2.heap.size w2).alloc (Nat.le_refl _) (.cells #[.int .u8 77, .int .u8 66, .int .u8 49] 5 (3, 4))
  have d1 := (hbm.cell (p := { block := w.heap.size, off := 1 }) (by show w.heap.size < _; omega)).trans c1
  have d2 := (hbm.cell (p := { block := w.heap.size, off := 2 }) (by show w.heap.size < _; omega)).trans c2
  clear hbm c1 c2 c0 c5
  have KA := Lib.hid (appendFixed_lead (cp := 3) (N := 15) (g := w2.heap.size) (mk_at w2 (.cells #[.int .i64 b.valid, .int .i64 b.next, .int .i64 (k : Nat)] 3)) (ints_three (w := w2.alloc (.cells #[.int .u8 77, .int .u8 66, .int .u8 49] 5 (3, 4))) (g := w2.heap.size + 1) (by simp) b.valid b.next (k : Nat)) (by simp) (by decide) (by decide) rfl)
  go_upto_region 5 with (go_at_call 18; go_loud (
     refine KA.out.mono ?_
     rintro e w3 ⟨v3, rfl, g3⟩
     obtain ⟨A3, k3, rfl, hk3⟩ := own_slice g3.own
     have hb3 : Below w2.heap.size w2 w3 := (((Below.refl _ _).alloc (Nat.le_refl _) _).alloc (by simp) _).grown g3.fr (by simp; omega) (fun k e => by simp [Value.ownBlock] at e)
     have O3 := Lib.hid (show OB w2.heap.size w2 w3 15 (.slice A3 15 k3) (mk ++ fxs [b.valid, b.next, (k : Int)]) from ⟨own_up g3.own (og_at g3 (fun k e => by simp [Value.ownBlock] at e) (by simp; omega)), hb3, Nat.le_refl _⟩)
     clear g3 hb3 d1 d2))
  clear KA hcv
  obtain ⟨l0, hl0⟩ : ∃ l0, l0 = mk ++ fxs [b.valid, b.next, (k : Int)] := ⟨_, rfl⟩
  rw [← hl0] at O3
  have HL0 := Lib.hid hl0
  clear hl0
  have HA := Lib.hid (fun (wr : World) (hb : Below w2.heap.size w2 wr) => (A2.out.go hb).box)
  go_wp2_with fail
  go_loopw [5, 32] (fun s5 s32 wr => ∃ (v : Value) (j n : Nat), s5 = v ∧ j ≤ k ∧ s32 = .int .i64 j ∧ n ≤ 15 + 306 * j ∧ Hid (OB w2.heap.size w2 wr n v (l0 ++ (b.words.take j).flatMap tx))) (fun _ s32 _ => k - (intOf s32).toNat)
  case atStart => exact ⟨_, 0, 15, rfl, Nat.zero_le _, rfl, by omega, by have := O3.out; simpa [Hid] using this⟩
  case round =>
    clear O3
    obtain ⟨v, j, n, rfl, hj, rfl, hn, HO⟩ := hrel
    obtain ⟨A4, k4, rfl, hk4⟩ := own_slice HO.out.own
    have hbs := HO.out.bel.size
    by_cases hlt : j < k
    · obtain ⟨ad, s, rfl, e1, q1⟩ := BxKit.StrsAt.at_ HX2.out HO.out.bel (by omega) (show j < wn by omega)
      have hsz : s.size ≤ 24 := (atB_size (FoP.wordsB_at HG.out.ws s (List.mem_of_getElem? e1))).2
      have htl := PkK.tx_len (s := s) (by omega)
      have KT := Lib.hid (text_any (cp := 0) (nil_bytes wr wr.heap.size) (Nat.le_refl _) s (by omega) (by omega))
      have HSN := Lib.hid (tx_snoc e1)
      obtain ⟨T, hT⟩ : ∃ T, T = (tx s).length := ⟨_, rfl⟩
      rw [← hT] at htl
      have HT := Lib.hid hT
      clear e1 hT
      go_wp2_with (first
        | (go_at_call 19; go_loud (
           refine KT.out.mono ?_
           rintro e w4 ⟨v4, rfl, o4⟩
           rw [List.nil_append, ← HT.out] at o4
           obtain ⟨A5, k5, rfl, hk5⟩ := own_slice o4.own
           have O4 := Lib.hid o4
           have HO4 := Lib.hid (HO.out.below o4.bel)
           clear o4 q1))
        | (at_builtin; go_loud (
           refine wpList_by rfl _ _ rfl rfl rfl HO4.out.own O4.out.at_ (by omega) (Nat.le_trans HO4.out.bas HO4.out.bel.size) ?_
           intro v6 w6 hown6 hg6 hat6
           have HO6 := Lib.hid (HO4.out.app (m := n + T) (l' := l0 ++ (b.words.take (j + 1)).flatMap tx) (by rw [HSN.out, ← List.append_assoc, by_append]; exact hown6) hg6)
           clear hown6 hg6 hat6)))
      go_roundw
      case rel => exact ⟨v6, j + 1, n + T, rfl, by omega, by go_num, by omega, HO6⟩
      case measure => simp [intOf]; omega
    · obtain rfl : k = j := by omega
      obtain ⟨c0, c1, c2, c3, c4, c5⟩ := HA.out wr HO.out.bel
      have hml := HG.out.ml
      have hmn : mn ≤ 60 := by rw [← HM2.out.len]; exact hml
      have KA := Lib.hid (appendFixed_any (cp := 1) (N := n + 4) (HO.out.own.alloc (.cells #[.int .i64 (mn : Nat)] 3)) (ints_one wr (mn : Nat)) (by simp) (fun ad e => by injection e with e; subst e; exact own_none HO.out.own) (by omega) rfl)
      go_upto_region 11 with (go_at_call 18; go_loud (
         refine KA.out.mono ?_
         rintro e w4 ⟨v4, rfl, g4⟩
         obtain ⟨A5, k5, rfl, hk5⟩ := own_slice g4.own
         have O4 := Lib.hid (ob_og (HO.out.alloc _) g4)
         clear g4 c0 c1 c2 c3 c4 c5))
      obtain ⟨c0, c1, c2, c3, c4, c5⟩ := HA.out w4 O4.out.bel
      have hq : (b.words.take k).flatMap tx = (b.words.take 32).flatMap tx := by
        rw [HK.out]
        by_cases h : wn ≤ 32
        · rw [Nat.min_eq_left h, List.take_of_length_le (by rw [HX2.out.len]; omega), List.take_of_length_le (by rw [HX2.out.len]; omega)]
        · rw [Nat.min_eq_right (by omega)]
      obtain ⟨l1, hl1⟩ : ∃ l1, l1 = l0 ++ (b.words.take k).flatMap tx ++ fxs [((mn : Nat) : Int)] := ⟨_, rfl⟩
      rw [← hl1] at O4
      have HL1 := Lib.hid (show l1 ++ b.msgs.flatMap em = eb b by
        rw [hl1, hq, HL0.out, HK.out]
        unfold eb ebR fxs
        simp only [List.flatMap_cons, List.flatMap_nil, List.append_nil, List.append_assoc, mx_nat, ← HX2.out.len, ← HM2.out.len])
      clear hl1 hq KA HO HX2
      go_wp2_with fail
      go_loopw [5, 50] (fun s5 s50 wr => ∃ (v : Value) (i n1 : Nat), s5 = v ∧ i ≤ mn ∧ s50 = .int .i64 i ∧ n1 ≤ n + 4 + 317 * i ∧ Hid (OB w2.heap.size w2 wr n1 v (l1 ++ (b.msgs.take i).flatMap em))) (fun _ s50 _ => mn - (intOf s50).toNat)
      case atStart => exact ⟨_, 0, n + 4, rfl, Nat.zero_le _, rfl, by omega, by have := O4.out; simpa [Hid] using this⟩
      case round =>
        clear O4
        clear c0 c1 c2 c3 c4 c5
        obtain ⟨v, i, n1, rfl, hi, rfl, hn1, HO⟩ := hrel
        obtain ⟨A6, k6, rfl, hk6⟩ := own_slice HO.out.own
        have hbs1 := HO.out.bel.size
        by_cases hlt1 : i < mn
        · obtain ⟨ad, u, md, d, id, fl, ks, tx', K, kn, kc, rfl, hab, e1, m0, m1, m2, m3, m4, m5, m6, hkc, hks, z1, z2⟩ := BxKit.MsgsAt.sp HM2.out HO.out.bel (by omega) hlt1
          obtain ⟨p1, p2, p3, p4, p5, p6, p7⟩ := FoP.mm_parts (HG.out.ms _ (List.mem_of_getElem? e1)).1
          dsimp only at p5 p6 p7
          have HSN := Lib.hid (em_snoc e1)
          have hel : (em ⟨u, md, d, id, fl, ks, tx'⟩).length ≤ 317 := by rw [em_len]; show 17 + tx'.size ≤ 317; omega
          obtain ⟨E, hE⟩ : ∃ E, E = (em ⟨u, md, d, id, fl, ks, tx'⟩).length := ⟨_, rfl⟩
          have KM := appendMsg_any (kc := kc) (u := u) (md := md) (d := d) (id := id) (HO.out.own.alloc (.cells #[.int .i64 u, .int .i64 md, .int .i64 d, .string id, .int .i64 fl, .slice K kn kc, .string tx'] 41)) (BxKit.IntsAt.below hks ((Below.refl w2.heap.size wr).alloc hbs1 (.cells #[.int .i64 u, .int .i64 md, .int .i64 d, .string id, .int .i64 fl, .slice K kn kc, .string tx'] 41)) (by omega)) (show B ≤ w2.heap.size by omega) (by simp; omega) (fun k hk => ((keysB_rise p6).2 k hk).1) (show 0 ≤ fl ∧ fl ≤ 255 from ⟨p5.1, by have := p5.2; omega⟩) p7 (by omega)
          rw [← hE] at KM hel
          have KM := Lib.hid KM
          have HOA := Lib.hid (HO.out.alloc (.cells #[.int .i64 u, .int .i64 md, .int .i64 d, .string id, .int .i64 fl, .slice K kn kc, .string tx'] 41))
          clear e1 hks p1 p2 p3 p4 p5 p6 p7 hE
          go_wp2_with (go_at_call 20; go_loud (
             refine KM.out.mono ?_
             rintro e w6 ⟨v6, rfl, o6⟩
             have HO6 := Lib.hid (show OB w2.heap.size w2 w6 (n1 + E) v6 (l1 ++ (b.msgs.take (i + 1)).flatMap em) by rw [HSN.out, ← List.append_assoc]; exact ob_trans HOA.out o6)
             clear o6 m0 m1 m2 m3 m4 m5 m6))
          go_roundw
          case rel => exact ⟨v6, i + 1, n1 + E, rfl, by omega, by go_num, by omega, HO6⟩
          case measure => simp [intOf]; omega
        · obtain rfl : mn = i := by omega
          have ho := HO.out
          rw [List.take_of_length_le (by rw [HM2.out.len]; exact Nat.le_refl _), HL1.out] at ho
          have HO2 := Lib.hid ho
          clear ho HO
          go_wp2_with fail
          go_ret2
          exact ⟨A6, n1, k6, rfl, hk6, HO2.out.at_, A2.out.below.trans (HO2.out.bel.mono (by omega))⟩
end Go.Proofs.YtinkodkmbecamaaDoor.FoE
