/-
  The document's bytes of a box, in an old form.
-/
import Derived.Test.YtfhdoecackdflaaDoorOlE
import Derived.Test.YtfhdoecackdflaaDoorOlEd
import Derived.Test.YtfhdoecackdflaaDoorOlPn
import Derived.Test.YtfhdoecackdflaaDoorBxO
set_option linter.unusedVariables false
set_option linter.unusedSimpArgs false
namespace Go.Proofs.YtfhdoecackdflaaDoor.OlOld
open Go.Proofs.YtfhdoecackdflaaDoor.PtK
open Go.RowKit Go.Proofs.YtfhdoecackdflaaDoor.BxD Go.Proofs.YtfhdoecackdflaaDoor.PkKit Go.Proofs.YtfhdoecackdflaaDoor.PkA Go.Proofs.YtfhdoecackdflaaDoor.PkB Go.Proofs.YtfhdoecackdflaaDoor.PkC Go.Proofs.YtfhdoecackdflaaDoor.PkR Go.Proofs.YtfhdoecackdflaaDoor.OlD Go.Proofs.YtfhdoecackdflaaDoor.OlA Go.Proofs.YtfhdoecackdflaaDoor.OlB Go.Proofs.YtfhdoecackdflaaDoor.OlOm Go.Proofs.YtfhdoecackdflaaDoor.OlC Go.Proofs.YtfhdoecackdflaaDoor.OlE Go.Proofs.YtfhdoecackdflaaDoor.OlPn
open Go.Proofs.YtfhdoecackdflaaDoor.OlR (mkB)
open Go.Proofs.YtfhdoecackdflaaDoor.BxKit (RowAt IntsAt StrsAt MsgsAt StrsAt.below MsgsAt.below After)

set_option maxRecDepth 100000 in
theorem step_ow {w : World} {base n m c B : Nat} {v : Value} {xs : List Value} {A : Option Addr} {l : List UInt8} {ops : Array Oper} {o : Oper} {a : Act} {K : Act → World → Prop} {Q : Exit → Act → World → Prop} {E : Prop} (hgd : o.guard = none) (s x : Operand)
    (ho : o.op = .call { callee := .builtin .append, args := #[s, x], argTypes := #[26, 26] }) (hs : a.eval s = v) (hx : a.eval x = .slice A m c) (hown : Ow w base v n xs) (hz : BytesAt w B A m l)
    (hb : n + m ≤ 140737488355328) (hbase : base ≤ w.heap.size) (hm : 0 < m)
    (h : ∀ v' w', Ow w' base v' (n + m) (xs ++ by_ l) → w.grownBy w' v.ownBlock → (v'.ownBlock = v.ownBlock ∨ v'.ownBlock = some w.heap.size) → K (a.put o.dst v') w') :
    if Region.wanted o (yielded ops a.tmps) = true then Oper.wp Tryd.prog o a w K Q else E := by
  have hw : Region.wanted o (yielded ops a.tmps) = true := by simp [Region.wanted, hgd]
  rw [if_pos hw]
  obtain ⟨v', w', hrun, h2, h3, h4⟩ := run_ow (c := c) o.type hown hz hb hbase hm
  unfold Oper.wp execOp
  simp only [ho, resolve, invoke, builtin, Sem.run_bind, Sem.run_pure, Result.andThen_ok, List.map_toArray, List.map_cons, List.map_nil, hs, hx, hrun]
  exact h v' w' h2 h3 h4
set_option maxRecDepth 100000 in
theorem step_ows {w : World} {base n : Nat} {v : Value} {xs : List Value} {t : ByteArray} {ops : Array Oper} {o : Oper} {a : Act} {K : Act → World → Prop} {Q : Exit → Act → World → Prop} {E : Prop} (hgd : o.guard = none) (s x : Operand)
    (ho : o.op = .call { callee := .builtin .append, args := #[s, x], argTypes := #[26, 9] }) (hs : a.eval s = v) (hx : a.eval x = .string t) (hown : Ow w base v n xs)
    (hb : n + t.size ≤ 140737488355328) (hbase : base ≤ w.heap.size)
    (h : ∀ v' w', Ow w' base v' (n + t.size) (xs ++ Lib.strCells t) → w.grownBy w' v.ownBlock → K (a.put o.dst v') w') :
    if Region.wanted o (yielded ops a.tmps) = true then Oper.wp Tryd.prog o a w K Q else E := by
  have hw : Region.wanted o (yielded ops a.tmps) = true := by simp [Region.wanted, hgd]
  rw [if_pos hw]
  obtain ⟨v', w', hrun, h2, h3⟩ := run_ows o.type hown hb hbase
  unfold Oper.wp execOp
  simp only [ho, resolve, invoke, builtin, Sem.run_bind, Sem.run_pure, Result.andThen_ok, List.map_toArray, List.map_cons, List.map_nil, hs, hx, hrun]
  exact h v' w' h2 h3
theorem pf {w0 w : World} {n N : Nat} {v0 v : Value} {l : List UInt8} (hO : OM w0 v0 w n v l) (x : Int) (hn : n ≤ 1099511627776) (hN : N = n + 4) :
    Calls Tryd.prog 26 #[v, .int .i64 x] w fun e w' => ∃ v', e = .returned v' ∧ OM w0 v0 w' N v' (l ++ fx (mx x)) := by
  subst hN
  exact putFixed_om hO x hn

theorem digs1 : BxO.digs 1 = [49] := by
  rw [BxO.digs_eq]
  exact Lib.decDigits_one (show (max (1 : Int) 0).toNat < 10 by decide)
set_option maxHeartbeats 4000000 in
set_option maxRecDepth 100000 in
theorem old1_ok {w : World} {b : Box} {WA MA : Option Addr} {wn wc mn mc B : Nat} (ht : BxO.Tab w) (hx : StrsAt w B WA wn b.words) (hm : MsgsAt w B MA mn b.msgs) (hwc : wn ≤ wc) (hmc : mn ≤ mc) (hB : B ≤ w.heap.size) (h0 : mbE b = 0) :
    Calls Tryd.prog 14 #[.int .i64 1, .agg #[.string b.id, .int .i64 b.valid, .int .i64 b.next, .int .i64 b.high, .slice WA wn wc, .slice MA mn mc]] w (BytesOut (eb false b) 0 w) := by
  have A0 := Lib.hid (After.start w (.cells #[.string b.id, .int .i64 b.valid, .int .i64 b.next, .int .i64 b.high, .slice WA wn wc, .slice MA mn mc] 25))
  have hbl := A0.out.below
  have HT := Lib.hid ht
  have HX := Lib.hid (StrsAt.below hx hbl hB)
  have HM := Lib.hid (MsgsAt.below hm hbl hB)
  have H0 := Lib.hid h0
  have HG := Lib.hid (OlP.good_of h0)
  have hwm := hx.max
  clear hx hm h0 hbl ht
  go_enter Tryd.func14, Tryd.ntmps14
  go_upto_region 1 with fail
  generalize (World.alloc w _) = w1 at A0 HX HM ⊢
  have hs1 := A0.out.size
  have km := BxB.ref_may (bid := b.id) (bv := b.valid) (bn := b.next) (bh := b.high) (mc := mc) HX.out HM.out (by omega) hwc
  rw [show mbE ⟨b.id, b.valid, b.next, b.high, b.words, b.msgs⟩ = 0 from H0.out] at km
  have KM := Lib.hid km
  clear km
  obtain ⟨c0, c1, c2, c3, c4, c5⟩ := A0.out.box
  go_upto_region 3 with (go_at_call 18; go_loud (
               refine KM.out.mono ?_
               rintro e w2 ⟨rfl, hb2⟩
               have A2 := Lib.hid (A0.out.go hb2)
               have HX2 := Lib.hid (StrsAt.below HX.out hb2 (by omega))
               have HM2 := Lib.hid (MsgsAt.below HM.out hb2 (by omega))
               clear hb2 c0 c1 c2 c3 c4 c5))
  clear A0 HX HM KM
  have hs2 := A2.out.size
  have ki := BxO.itoa_max (u := 1) (HT.out.below (A2.out.below.trans (Below.drew (Below.refl _ _) |>.mono A2.out.below.size)) (Nat.le_refl _)) (by decide)
  rw [show max (1 : Int) 0 = 1 from rfl, digs1] at ki
  have KI := Lib.hid (show Calls Tryd.prog 27 #[.int .i64 1] w2.drew (fun e w' => e = .returned (.string ⟨#[49]⟩) ∧ Below w2.drew.heap.size w2.drew w') from ki)
  clear ki
  obtain ⟨c0, c1, c2, c3, c4, c5⟩ := A2.out.box
  have hcat : (⟨#[77, 66]⟩ : ByteArray) ++ ⟨#[49]⟩ = mkB false := rfl
  have hcv : ∀ wr : World, (convert 9 26 (.string (mkB false))).run Tryd.prog wr = .ok (.slice (some ⟨wr.heap.size, 0, none⟩) 3 (grownCap wr 3 0 5)) (Lib.bytesWorld wr 5 (mkB false)) := fun wr =>
    Lib.run_convert_string_bytes (P := Tryd.prog) wr 9 26 5 (mkB false) Tryd.underlying9 Tryd.underlying26 Tryd.underlying5
  have hcs : ∀ s : ByteArray, (⟨#[77, 66]⟩ : ByteArray) ++ ⟨#[49]⟩ = mkB false := fun _ => rfl
  have HA := Lib.hid (show ∀ (wr : World), Below w2.heap.size w2 wr → wr.cell? { block := w.heap.size, off := 1 } = some (.int .i64 b.valid) ∧ wr.cell? { block := w.heap.size, off := 2 } = some (.int .i64 b.next) from fun wr hb => ⟨(A2.out.go hb).box.2.1, (A2.out.go hb).box.2.2.1⟩)
  go_region_held (fun wr => wr.cell? { block := w.heap.size, off := 1 } = some (.int .i64 b.valid) ∧ wr.cell? { block := w.heap.size, off := 2 } = some (.int .i64 b.next)) (with_reducible first | exact ⟨c1, c2⟩ | exact HA.out _ hb23 | exact HA.out _ hb24 | exact HA.out _ hb25 | exact HA.out _ hb26 | go_keep) (first
    | (go_at_call 27; go_loud (
       refine KI.out.mono ?_
       rintro e w3 ⟨rfl, hb3⟩
       have hb23 : Below w2.heap.size w2 w3 := (Below.drew (Below.refl _ _)).trans hb3
       have hb24 : Below w2.heap.size w2 (Lib.bytesWorld w3 5 (mkB false)) := hb23.trans ((Lib.bytesWorld_below w3 5 (mkB false)).mono hb23.size)
       have h1 : OO w3.heap.size w3 (Lib.bytesWorld w3 5 (mkB false)) 3 (.slice (some ⟨w3.heap.size, 0, none⟩) 3 (grownCap w3 3 0 5)) (mk false) := OlOq.conv_oo w3 (mkB false) (by show (mk false).toArray.size ≤ 1000000; simp [mk])
       have O4 := Lib.hid (show OO w2.heap.size w2 (Lib.bytesWorld w3 5 (mkB false)) 3 (.slice (some ⟨w3.heap.size, 0, none⟩) 3 (grownCap w3 3 0 5)) (mk false) from ⟨h1.own.down.up (fun g e => by have := (h1.own.lt g e).1; have := hb23.size; omega), hb24, Nat.le_refl _⟩)
       have KP := Lib.hid (putFixed_om (OM.start O4.out.own) b.valid (by decide))
       clear hb3 h1
       dsimp only))
    | (go_at_call 26
       (with_reducible refine KP.out.mono ?_)
       rintro e w5 ⟨v5, rfl, g5⟩
       obtain ⟨A5, k5, rfl, hk5⟩ := g5.own.slice
       have O5 := Lib.hid (O4.out.om g5)
       have hb25 := O5.out.bel
       have KQ := Lib.hid (putFixed_om (OM.start O5.out.own) b.next (by decide))
       clear g5
       dsimp only)
    | (go_at_call 26; go_loud (
       refine KQ.out.mono ?_
       rintro e w6 ⟨v6, rfl, g6⟩
       obtain ⟨A6, k6, rfl, hk6⟩ := g6.own.slice
       have O6 := Lib.hid (O5.out.om g6)
       have hb26 := O6.out.bel
       clear g6
       dsimp only)))
  rename_i hHeld
  clear hHeld hb23 hb24 hb25 hb26 KI KP KQ O4 O5 hcv hcs hcat HA c0 c1 c2 c3 c4 c5
  obtain ⟨l0, hl0⟩ : ∃ l0, l0 = mk false ++ fx (mx b.valid) ++ fx (mx b.next) := ⟨_, rfl⟩
  replace O6 := Lib.hid (show OO w2.heap.size w2 w6 11 (.slice A6 11 k6) l0 by rw [hl0]; exact O6.out)
  have HL0 := Lib.hid hl0
  clear hl0
  obtain ⟨c0, c1, c2, c3, c4, c5⟩ := (A2.out.go O6.out.bel).box
  have O7 := O6
  obtain ⟨w7, hw7⟩ : ∃ w7, w7 = w6 := ⟨_, rfl⟩
  subst hw7
  obtain ⟨l0h, hl0h⟩ : ∃ l0h, l0h = l0 := ⟨_, rfl⟩
  rw [← hl0h] at O7
  have HLH := Lib.hid hl0h
  clear hl0h O6
  go_upto_region 6 with fail
  have HBX := Lib.hid (fun (wr : World) (hb : Below w2.heap.size w2 wr) => (A2.out.go hb).box.2.2.2.2)
  obtain ⟨kw, hkw⟩ : ∃ kw, kw = min wn 32 := ⟨_, rfl⟩
  have hmin : (if (32 : Int) < (wn : Int) then (32 : Int) else (wn : Int)) = (kw : Int) := by split <;> omega
  have hmin2 : min (wn : Int) 32 = (kw : Int) := by omega
  have hkww : kw ≤ wn := by omega
  have hkc : kw ≤ wc := by omega
  have hk32 : kw ≤ 32 := by omega
  have HK := Lib.hid hkw
  clear hkw
  have KP := Lib.hid (pf (OM.start O7.out.own) (kw : Nat) (by decide) (N := 11 + 4) rfl)
  go_upto_region 8 with (go_at_call 26; go_loud (
     refine KP.out.mono ?_
     rintro e w8 ⟨v8, rfl, g8⟩
     obtain ⟨A8, k8, rfl, hk8⟩ := g8.own.slice
     have O8 := Lib.hid (O7.out.om g8)
     clear g8))
  clear KP O7 hmin hmin2 c0 c1 c2 c3 c4 c5
  obtain ⟨l1, hl1⟩ : ∃ l1, l1 = l0h ++ fx (mx (kw : Nat)) := ⟨_, rfl⟩
  rw [← hl1] at O8
  have HL1 := Lib.hid hl1
  clear hl1
  go_wp2_with fail
  go_loopw [6, 44] (fun s6 s44 wr => ∃ (v : Value) (j n : Nat), s6 = v ∧ j ≤ kw ∧ s44 = .int .i64 j ∧ n ≤ 19 + 306 * j ∧ Hid (OO w2.heap.size w2 wr n v (l1 ++ (b.words.take j).flatMap tx))) (fun _ s44 _ => kw - (intOf s44).toNat)
  case atStart => exact ⟨_, 0, 11 + 4, rfl, Nat.zero_le _, rfl, by omega, by have := O8.out; simpa [Hid] using this⟩
  case round =>
    clear O8
    obtain ⟨v, j, n, rfl, hj, rfl, hn, HO⟩ := hrel
    obtain ⟨A9, k9, rfl, hk9⟩ := HO.out.own.slice
    have hbs := HO.out.bel.size
    by_cases hlt : j < kw
    · obtain ⟨ad, s, rfl, e1, q1⟩ := BxKit.StrsAt.at_ HX2.out HO.out.bel (by omega) (show j < wn by omega)
      have hsz : s.size ≤ 24 := (atB_size (OlP.wordsB_at HG.out.ws s (List.mem_of_getElem? e1))).2
      have htl := PkK.tx_len (s := s) (by omega)
      have KT := Lib.hid (putText_oo HO.out s (by omega) (by omega))
      have HSN := Lib.hid (tx_snoc e1)
      obtain ⟨T, hT⟩ : ∃ T, T = (tx s).length := ⟨_, rfl⟩
      rw [← hT] at htl KT
      clear e1 hT
      go_wp2_with (go_at_call 28; go_loud (
         refine KT.out.mono ?_
         rintro e wa ⟨va, rfl, oa⟩
         have HO8 := Lib.hid (show OO w2.heap.size w2 wa (n + T) va (l1 ++ (b.words.take (j + 1)).flatMap tx) by rw [HSN.out, ← List.append_assoc]; exact oa)
         clear oa q1))
      go_roundw
      case rel => exact ⟨va, j + 1, n + T, rfl, by omega, by go_num, by omega, HO8⟩
      case measure => simp [intOf]; omega
    · obtain rfl : kw = j := by omega
      obtain ⟨c4, c5⟩ := HBX.out wr HO.out.bel
      have hml := HG.out.ml
      have hmn : mn ≤ 60 := by rw [← HM2.out.len]; exact hml
      have KP := Lib.hid (pf (OM.start HO.out.own) (mn : Nat) (by omega) (N := n + 4) rfl)
      go_upto_region 14 with (go_at_call 26; go_loud (
         refine KP.out.mono ?_
         rintro e wa ⟨va, rfl, ga⟩
         obtain ⟨Aa, ka, rfl, hka⟩ := ga.own.slice
         have Oa := Lib.hid (HO.out.om ga)
         clear ga c4 c5))
      obtain ⟨c4, c5⟩ := HBX.out wa Oa.out.bel
      have hqw : (b.words.take kw).flatMap tx = (b.words.take 32).flatMap tx := by
        rw [HK.out]
        by_cases h : wn ≤ 32
        · rw [Nat.min_eq_left h, List.take_of_length_le (by rw [HX2.out.len]; omega), List.take_of_length_le (by rw [HX2.out.len]; omega)]
        · rw [Nat.min_eq_right (by omega)]
      obtain ⟨l2, hl2⟩ : ∃ l2, l2 = l1 ++ (b.words.take kw).flatMap tx ++ fx (mx (mn : Nat)) := ⟨_, rfl⟩
      rw [← hl2] at Oa
      have HL2 := Lib.hid (show l2 ++ b.msgs.flatMap (em false) = eb false b by
        rw [hl2, hqw, HL1.out, HLH.out, HL0.out, HK.out]
        unfold eb ebR ch
        simp only [if_true, if_false, Bool.false_eq_true, List.nil_append, List.append_nil, List.append_assoc, mx_nat, ← HX2.out.len, ← HM2.out.len])
      clear hl2 hqw KP HO HX2
      go_wp2_with fail
      go_loopw [6, 60] (fun s6 s60 wr => ∃ (v : Value) (i n1 : Nat), s6 = v ∧ i ≤ mn ∧ s60 = .int .i64 i ∧ n1 ≤ n + 4 + 321 * i ∧ Hid (OO w2.heap.size w2 wr n1 v (l2 ++ (b.msgs.take i).flatMap (em false)))) (fun _ s60 _ => mn - (intOf s60).toNat)
      case atStart => exact ⟨_, 0, n + 4, rfl, Nat.zero_le _, rfl, by omega, by have := Oa.out; simpa [Hid] using this⟩
      case round =>
        clear Oa
        clear c4 c5
        obtain ⟨v, i, n1, rfl, hi, rfl, hn1, HO⟩ := hrel
        obtain ⟨A8, k8, rfl, hk8⟩ := HO.out.own.slice
        have hbs1 := HO.out.bel.size
        by_cases hlt1 : i < mn
        · obtain ⟨ad, u, md, d, id, fl, ks, tx', K, kn, kc, rfl, hab, e1, m0, m1, m2, m3, m4, m5, m6, hkc, hks, z1, z2⟩ := BxKit.MsgsAt.sp HM2.out HO.out.bel (by omega) hlt1
          obtain ⟨p1, p2, p3, p4, p5, p6, p7⟩ := OlP.mm_parts (HG.out.ms _ (List.mem_of_getElem? e1)).1
          dsimp only at p5 p6 p7
          have hfl : 0 ≤ fl ∧ fl ≤ 255 := ⟨p5.1, by have := p5.2; omega⟩
          have hfw : IntKind.u8.wrap fl = fl := by rw [show IntKind.u8.wrap fl = fl % 256 from rfl]; omega
          have HSN := Lib.hid (em_snoc (cg := false) e1)
          have HP := Lib.hid (fun (k : Int) (hk : k ∈ ks) => ((OlD.keysB_rise p6).2 k hk).1)
          have HOA := Lib.hid (HO.out.alloc (.cells #[.int .i64 u, .int .i64 md, .int .i64 d, .string id, .int .i64 fl, .slice K kn kc, .string tx'] 41))
          have HKS := Lib.hid (BxKit.IntsAt.below hks ((Below.refl w2.heap.size wr).alloc hbs1 (.cells #[.int .i64 u, .int .i64 md, .int .i64 d, .string id, .int .i64 fl, .slice K kn kc, .string tx'] 41)) (show B ≤ w2.heap.size by omega))
          have HM7 := Lib.hid (show MBk (wr.alloc (.cells #[.int .i64 u, .int .i64 md, .int .i64 d, .string id, .int .i64 fl, .slice K kn kc, .string tx'] 41)) wr.heap.size u md d id fl K kn kc tx' from heap_alloc_new wr _)
          have hne := own_none HO.out.own
          have hs7 : wr.heap.size + 1 ≤ (wr.alloc (.cells #[.int .i64 u, .int .i64 md, .int .i64 d, .string id, .int .i64 fl, .slice K kn kc, .string tx'] 41)).heap.size := by simp
          go_upto_region 17 with fail
          obtain ⟨L, hL⟩ : ∃ L, L = wr.heap.size := ⟨_, rfl⟩
          rw [← hL] at HM7 hs7 hne ⊢
          have hL2 : w2.heap.size ≤ L := by omega
          clear e1 hks p1 p2 p3 p4 p5 p6 hL m0 m1 m2 m3 m4 m5 m6
          generalize (World.alloc wr _) = w7 at HOA HKS HM7 hs7 ⊢
          have O7 := Lib.hid (OM.start HOA.out.own)
          have HMC := Lib.hid (fun (wx : World) (g : w7.grownBy wx (Value.slice A8 n1 k8).ownBlock) => (HM7.out.keep (g.block L (by omega) (fun e => hne e.symm))).cells)
          obtain ⟨m0, m1, m2, m3, m4, m5, m6⟩ := HM7.out.cells
          have KP := Lib.hid (pf (OM.start O7.out.own) u (by omega) (N := n1 + 4) rfl)
          go_upto_region 18 with (go_at_call 26; go_loud (
             refine KP.out.mono ?_
             rintro e wb ⟨vb, rfl, gb⟩
             obtain ⟨Ab, kb, rfl, hkb⟩ := gb.own.slice
             have Ob := Lib.hid (O7.out.trans gb)
             clear gb m0 m1 m2 m3 m4 m5 m6))
          clear KP
          obtain ⟨m0, m1, m2, m3, m4, m5, m6⟩ := HMC.out wb Ob.out.fr
          obtain ⟨lc, hlc⟩ : ∃ lc, lc = l2 ++ (b.msgs.take i).flatMap (em false) ++ fx (mx u) := ⟨_, rfl⟩
          rw [← hlc] at Ob
          have HLC := Lib.hid hlc
          have Oc := Ob
          obtain ⟨wc', hwc'⟩ : ∃ wc', wc' = wb := ⟨_, rfl⟩
          obtain ⟨Ac, hAc⟩ : ∃ Ac, Ac = Ab := ⟨_, rfl⟩
          obtain ⟨kc', hkc'⟩ : ∃ kc', kc' = kb := ⟨_, rfl⟩
          subst hwc' hAc hkc'
          clear hlc Ob
          go_upto_region 20 with fail
          have Ocd := Lib.hid (OM.go Oc.out ((Below.refl wc'.heap.size wc').drew))
          have Oca := Lib.hid (show OM w7 (.slice A8 n1 k8) (wc'.alloc (.cells #[.int .u8 fl] 5)).drew (n1 + 4) (.slice Ac (n1 + 4) kc') lc from OM.go Oc.out (((Below.refl wc'.heap.size wc').drew).alloc (Nat.le_refl _) (.cells #[.int .u8 fl] 5)))
          have KP := Lib.hid (pf (OM.start Ocd.out.own) d (by omega) (N := (n1 + 4) + 4) rfl)
          have KQ := Lib.hid (pf (OM.start Oca.out.own) d (by omega) (N := (n1 + 4) + 4) rfl)
          have hbz : BytesAt (wc'.alloc (.cells #[.int .u8 fl] 5)).drew (wc'.heap.size + 1) (some ⟨wc'.heap.size, 0, none⟩) 1 [fl.toNat.toUInt8] := bytesAt_new wc'.drew [fl.toNat.toUInt8] rfl (Nat.lt_succ_self _) rfl (by_int (x := fl) (by omega) (by omega)).symm
          have hnc := own_none Oc.out.own
          have hSa : ∀ wx, w7.grownBy wx (Value.slice A8 n1 k8).ownBlock → wx.cell? { block := L, off := 2 } = some (.int .i64 d) ∧ wx.cell? { block := L, off := 4 } = some (.int .i64 fl) := fun wx g => ⟨(HMC.out wx g).2.2.1, (HMC.out wx g).2.2.2.2.1⟩
          have HSA := Lib.hid hSa
          clear hSa
          go_region_held3 (fun wx => wx.cell? { block := L, off := 2 } = some (.int .i64 d) ∧ wx.cell? { block := L, off := 4 } = some (.int .i64 fl)) (with_reducible first | exact ⟨m2, m4⟩ | exact HSA.out _ Ocd.out.fr | exact HSA.out _ Oca.out.fr | exact HSA.out _ Od.out.fr | exact HSA.out _ (OM.alloc Od.out _).fr | exact HSA.out _ Oe.out.fr | go_keep) (first
            | (go_at_call 26
               first | (with_reducible refine KP.out.mono ?_) | (with_reducible refine KQ.out.mono ?_)
               go_loud (
               rintro e wd ⟨vd, rfl, gd⟩
               obtain ⟨Ad, kd, rfl, hkd⟩ := gd.own.slice
               have Od := Lib.hid (show OM w7 (.slice A8 n1 k8) wd ((n1 + 4) + 4) (.slice Ad ((n1 + 4) + 4) kd) (lc ++ fx (mx d)) by first | exact Ocd.out.trans gd | exact Oca.out.trans gd)
               try (have Zd : BytesAt wd wd.heap.size (some ⟨wc'.heap.size, 0, none⟩) 1 [fl.toNat.toUInt8] := by
                     have hsz := gd.fr.size
                     refine ⟨hbz.1, fun h0 => ?_⟩
                     obtain ⟨ad2, e2, h2, h3⟩ := hbz.2 h0
                     injection e2 with e2
                     subst e2
                     refine ⟨_, rfl, by simp at hsz; show wc'.heap.size < _; omega, fun jj cc hj => (World.cell?_of_block ?_).trans (h3 jj cc hj)⟩
                     rw [add_block]
                     exact gd.fr.block wc'.heap.size (by simp) (fun e => hnc e.symm))
               clear gd
               dsimp only))
            | (show (if Region.wanted ⟨some 82, _, _, _, _, _⟩ _ = true then _ else _)
               go_loud (
               first
               | (refine step_ow (base := 0) (c := 1) rfl (.tmp 77) (.tmp 81) rfl (by simp [Act.eval]) (by simp [Act.eval]) Od.out.own Zd (by omega) (Nat.zero_le _) (Nat.succ_pos 0) ?_
                  intro ve we hown hg hat
                  replace hown : Ow we 0 ve ((n1 + 4) + 4 + 1) (by_ (lc ++ fx (mx d)) ++ by_ [fl.toNat.toUInt8]) := hown
                  obtain ⟨Ae, ke, rfl, hke⟩ := hown.slice
                  have Oe := Lib.hid (Od.out.app (m := (n1 + 4) + 4 + 1) (l' := lc ++ fx (mx d) ++ [fl.toNat.toUInt8]) (by rw [by_append]; exact hown) hg hat)
                  clear hown hg hat)
               | (refine step_ow (base := 0) (c := 1) rfl (.tmp 77) (.tmp 81) rfl (by simp [Act.eval]) (by simp [Act.eval]) (OM.alloc Od.out _).own (bytesAt_new wd [fl.toNat.toUInt8] rfl (Nat.lt_succ_self _) rfl (by_int (x := fl) (by omega) (by omega)).symm) (by show (n1 + 4) + 4 + 1 ≤ 140737488355328; omega) (Nat.zero_le _) (Nat.succ_pos 0) ?_
                  intro ve we hown hg hat
                  replace hown : Ow we 0 ve ((n1 + 4) + 4 + 1) (by_ (lc ++ fx (mx d)) ++ by_ [fl.toNat.toUInt8]) := hown
                  obtain ⟨Ae, ke, rfl, hke⟩ := hown.slice
                  have Oe := Lib.hid ((OM.alloc Od.out _).app (m := (n1 + 4) + 4 + 1) (l' := lc ++ fx (mx d) ++ [fl.toNat.toUInt8]) (by rw [by_append]; exact hown) hg hat)
                  clear hown hg hat)
               dsimp only)))
          all_goals
            rename_i hHeld
            clear hHeld m0 m1 m2 m3 m4 m5 m6 KP KQ Ocd Oca HSA hbz hnc Od
            obtain ⟨m0, m1, m2, m3, m4, m5, m6⟩ := HMC.out we Oe.out.fr
            obtain ⟨le, hle⟩ : ∃ le, le = lc ++ fx (mx d) ++ [fl.toNat.toUInt8] := ⟨_, rfl⟩
            rw [← hle] at Oe
            have HLE := Lib.hid hle
            clear hle
            have hbe := Oe.out.below (fun g e => (HOA.out.own.lt g e).1) (show w2.heap.size ≤ w7.heap.size from HOA.out.bel.size)
            have KM := Lib.hid (OlEd.mask_any (cp := kc) (BxKit.IntsAt.below HKS.out (BxKit.below_drewN hbe 1) (show B ≤ w2.heap.size by omega)) HP.out)
            obtain ⟨M, hM⟩ : ∃ M, M = maskN ks := ⟨_, rfl⟩
            rw [← hM] at KM
            have HMM := Lib.hid hM
            clear hM hbe
            have Oed := Lib.hid (OM.go Oe.out (BxKit.below_drewN (Below.refl we.heap.size we) 1))
            have KP := Lib.hid (pf (OM.start Oed.out.own) (M : Nat) (by omega) (N := (n1 + 4) + 4 + 1 + 4) rfl)
            have hSb : ∀ wx, w7.grownBy wx (Value.slice A8 n1 k8).ownBlock → wx.cell? { block := L, off := 5 } = some (.slice K kn kc) ∧ wx.cell? { block := L, off := 6 } = some (.string tx') := fun wx g => ⟨(HMC.out wx g).2.2.2.2.2.1, (HMC.out wx g).2.2.2.2.2.2⟩
            have HSB := Lib.hid hSb
            clear hSb
            go_upto_region 21 with fail
            go_region_held3 (fun wx => wx.cell? { block := L, off := 5 } = some (.slice K kn kc) ∧ wx.cell? { block := L, off := 6 } = some (.string tx')) (with_reducible first | exact ⟨m5, m6⟩ | exact HSB.out _ Oed.out.fr | exact HSB.out _ Of.out.fr | exact HSB.out _ Og.out.fr | exact HSB.out _ hgr | go_keep) (first
              | (go_at_call 29; go_loud (
                 refine KM.out.mono ?_
                 rintro e wz ⟨rfl, rfl⟩
                 dsimp only))
              | (go_at_call 26
                 (with_reducible refine KP.out.mono ?_)
                 go_loud (
                 rintro e wf ⟨vf, rfl, gf⟩
                 obtain ⟨Af, kf, rfl, hkf⟩ := gf.own.slice
                 have Of := Lib.hid (Oed.out.trans gf)
                 have KQ := Lib.hid (pf (OM.start Of.out.own) (tx'.size : Nat) (by omega) (N := (n1 + 4) + 4 + 1 + 4 + 4) rfl)
                 clear gf
                 dsimp only))
              | (go_at_call 26; go_loud (
                 refine KQ.out.mono ?_
                 rintro e wg ⟨vg, rfl, gg⟩
                 obtain ⟨Ag, kg, rfl, hkg⟩ := gg.own.slice
                 have Og := Lib.hid (Of.out.trans gg)
                 clear gg
                 dsimp only))
              | (show (if Region.wanted ⟨some 94, _, _, _, _, _⟩ _ = true then _ else _)
                 go_loud (
                 refine step_ows (base := w2.heap.size) (t := tx') rfl (.tmp 91) (.tmp 93) rfl (by simp [Act.eval]) (by simp [Act.eval]) (Og.out.oo (fun g e => (HOA.out.own.lt g e).1) HOA.out.bel.size).own (by omega) (Nat.le_trans HOA.out.bel.size Og.out.fr.size) ?_
                 intro vh wh hownh hgh
                 have hgr := Og.out.last hgh
                 dsimp only)))
            rename_i hHeld
            clear hHeld m0 m1 m2 m3 m4 m5 m6 hgr KM KP HSB
            have Bg := Og.out.oo (fun g e => (HOA.out.own.lt g e).1) (show w2.heap.size ≤ w7.heap.size from HOA.out.bel.size)
            have HO9 := Lib.hid (show OO w2.heap.size w2 wh ((n1 + 4) + 4 + 1 + 4 + 4 + tx'.size) vh (l2 ++ (b.msgs.take (i + 1)).flatMap (em false)) by
              have e : l2 ++ (b.msgs.take (i + 1)).flatMap (em false) = (le ++ fx (mx (M : Nat)) ++ fx (mx (tx'.size : Nat))) ++ tx'.data.toList := by
                rw [HSN.out, HLE.out, HLC.out]
                unfold em ch
                rw [mx_nat, mx_nat, HMM.out, Nat.mod_eq_of_lt (show fl.toNat < 256 by omega)]
                simp only [if_true, if_false, Bool.false_eq_true, List.nil_append, List.append_assoc]
              rw [e]
              refine OO.app (HOA.out.trans Bg) ?_ hgh
              rw [by_append, ← strCells_by]
              exact hownh)
            clear hownh hgh Og Bg Of Oe
            go_wp2_with fail
            go_roundw
            case rel => exact ⟨vh, i + 1, (n1 + 4) + 4 + 1 + 4 + 4 + tx'.size, rfl, by omega, by go_num, by omega, HO9⟩
            case measure => simp [intOf]; omega
        · obtain rfl : mn = i := by omega
          have ho := HO.out
          rw [List.take_of_length_le (by rw [HM2.out.len]; exact Nat.le_refl _), HL2.out] at ho
          have HO2 := Lib.hid ho
          clear ho HO
          go_wp2_with fail
          go_ret2
          exact ⟨A8, n1, k8, rfl, hk8, HO2.out.own.bytes, A2.out.below.trans (HO2.out.bel.mono (by omega))⟩

theorem digs2 : BxO.digs 2 = [50] := by
  rw [BxO.digs_eq]
  exact Lib.decDigits_one (show (max (2 : Int) 0).toNat < 10 by decide)
set_option maxHeartbeats 4000000 in
set_option maxRecDepth 100000 in
theorem old2_ok {w : World} {b : Box} {WA MA : Option Addr} {wn wc mn mc B : Nat} (ht : BxO.Tab w) (hx : StrsAt w B WA wn b.words) (hm : MsgsAt w B MA mn b.msgs) (hwc : wn ≤ wc) (hmc : mn ≤ mc) (hB : B ≤ w.heap.size) (h0 : mbE b = 0) :
    Calls Tryd.prog 14 #[.int .i64 2, .agg #[.string b.id, .int .i64 b.valid, .int .i64 b.next, .int .i64 b.high, .slice WA wn wc, .slice MA mn mc]] w (BytesOut (eb true b) 0 w) := by
  have A0 := Lib.hid (After.start w (.cells #[.string b.id, .int .i64 b.valid, .int .i64 b.next, .int .i64 b.high, .slice WA wn wc, .slice MA mn mc] 25))
  have hbl := A0.out.below
  have HT := Lib.hid ht
  have HX := Lib.hid (StrsAt.below hx hbl hB)
  have HM := Lib.hid (MsgsAt.below hm hbl hB)
  have H0 := Lib.hid h0
  have HG := Lib.hid (OlP.good_of h0)
  have hwm := hx.max
  clear hx hm h0 hbl ht
  go_enter Tryd.func14, Tryd.ntmps14
  go_upto_region 1 with fail
  generalize (World.alloc w _) = w1 at A0 HX HM ⊢
  have hs1 := A0.out.size
  have km := BxB.ref_may (bid := b.id) (bv := b.valid) (bn := b.next) (bh := b.high) (mc := mc) HX.out HM.out (by omega) hwc
  rw [show mbE ⟨b.id, b.valid, b.next, b.high, b.words, b.msgs⟩ = 0 from H0.out] at km
  have KM := Lib.hid km
  clear km
  obtain ⟨c0, c1, c2, c3, c4, c5⟩ := A0.out.box
  go_upto_region 3 with (go_at_call 18; go_loud (
               refine KM.out.mono ?_
               rintro e w2 ⟨rfl, hb2⟩
               have A2 := Lib.hid (A0.out.go hb2)
               have HX2 := Lib.hid (StrsAt.below HX.out hb2 (by omega))
               have HM2 := Lib.hid (MsgsAt.below HM.out hb2 (by omega))
               clear hb2 c0 c1 c2 c3 c4 c5))
  clear A0 HX HM KM
  have hs2 := A2.out.size
  have ki := BxO.itoa_max (u := 2) (HT.out.below (A2.out.below.trans (Below.drew (Below.refl _ _) |>.mono A2.out.below.size)) (Nat.le_refl _)) (by decide)
  rw [show max (2 : Int) 0 = 2 from rfl, digs2] at ki
  have KI := Lib.hid (show Calls Tryd.prog 27 #[.int .i64 2] w2.drew (fun e w' => e = .returned (.string ⟨#[50]⟩) ∧ Below w2.drew.heap.size w2.drew w') from ki)
  clear ki
  obtain ⟨c0, c1, c2, c3, c4, c5⟩ := A2.out.box
  have hcat : (⟨#[77, 66]⟩ : ByteArray) ++ ⟨#[50]⟩ = mkB true := rfl
  have hcv : ∀ wr : World, (convert 9 26 (.string (mkB true))).run Tryd.prog wr = .ok (.slice (some ⟨wr.heap.size, 0, none⟩) 3 (grownCap wr 3 0 5)) (Lib.bytesWorld wr 5 (mkB true)) := fun wr =>
    Lib.run_convert_string_bytes (P := Tryd.prog) wr 9 26 5 (mkB true) Tryd.underlying9 Tryd.underlying26 Tryd.underlying5
  have hcs : ∀ s : ByteArray, (⟨#[77, 66]⟩ : ByteArray) ++ ⟨#[50]⟩ = mkB true := fun _ => rfl
  have HA := Lib.hid (show ∀ (wr : World), Below w2.heap.size w2 wr → wr.cell? { block := w.heap.size, off := 1 } = some (.int .i64 b.valid) ∧ wr.cell? { block := w.heap.size, off := 2 } = some (.int .i64 b.next) from fun wr hb => ⟨(A2.out.go hb).box.2.1, (A2.out.go hb).box.2.2.1⟩)
  go_region_held (fun wr => wr.cell? { block := w.heap.size, off := 1 } = some (.int .i64 b.valid) ∧ wr.cell? { block := w.heap.size, off := 2 } = some (.int .i64 b.next)) (with_reducible first | exact ⟨c1, c2⟩ | exact HA.out _ hb23 | exact HA.out _ hb24 | exact HA.out _ hb25 | exact HA.out _ hb26 | go_keep) (first
    | (go_at_call 27; go_loud (
       refine KI.out.mono ?_
       rintro e w3 ⟨rfl, hb3⟩
       have hb23 : Below w2.heap.size w2 w3 := (Below.drew (Below.refl _ _)).trans hb3
       have hb24 : Below w2.heap.size w2 (Lib.bytesWorld w3 5 (mkB true)) := hb23.trans ((Lib.bytesWorld_below w3 5 (mkB true)).mono hb23.size)
       have h1 : OO w3.heap.size w3 (Lib.bytesWorld w3 5 (mkB true)) 3 (.slice (some ⟨w3.heap.size, 0, none⟩) 3 (grownCap w3 3 0 5)) (mk true) := OlOq.conv_oo w3 (mkB true) (by show (mk true).toArray.size ≤ 1000000; simp [mk])
       have O4 := Lib.hid (show OO w2.heap.size w2 (Lib.bytesWorld w3 5 (mkB true)) 3 (.slice (some ⟨w3.heap.size, 0, none⟩) 3 (grownCap w3 3 0 5)) (mk true) from ⟨h1.own.down.up (fun g e => by have := (h1.own.lt g e).1; have := hb23.size; omega), hb24, Nat.le_refl _⟩)
       have KP := Lib.hid (putFixed_om (OM.start O4.out.own) b.valid (by decide))
       clear hb3 h1
       dsimp only))
    | (go_at_call 26
       (with_reducible refine KP.out.mono ?_)
       rintro e w5 ⟨v5, rfl, g5⟩
       obtain ⟨A5, k5, rfl, hk5⟩ := g5.own.slice
       have O5 := Lib.hid (O4.out.om g5)
       have hb25 := O5.out.bel
       have KQ := Lib.hid (putFixed_om (OM.start O5.out.own) b.next (by decide))
       clear g5
       dsimp only)
    | (go_at_call 26; go_loud (
       refine KQ.out.mono ?_
       rintro e w6 ⟨v6, rfl, g6⟩
       obtain ⟨A6, k6, rfl, hk6⟩ := g6.own.slice
       have O6 := Lib.hid (O5.out.om g6)
       have hb26 := O6.out.bel
       clear g6
       dsimp only)))
  rename_i hHeld
  clear hHeld hb23 hb24 hb25 hb26 KI KP KQ O4 O5 hcv hcs hcat HA c0 c1 c2 c3 c4 c5
  obtain ⟨l0, hl0⟩ : ∃ l0, l0 = mk true ++ fx (mx b.valid) ++ fx (mx b.next) := ⟨_, rfl⟩
  replace O6 := Lib.hid (show OO w2.heap.size w2 w6 11 (.slice A6 11 k6) l0 by rw [hl0]; exact O6.out)
  have HL0 := Lib.hid hl0
  clear hl0
  obtain ⟨c0, c1, c2, c3, c4, c5⟩ := (A2.out.go O6.out.bel).box
  have KP := Lib.hid (pf (OM.start O6.out.own) b.high (by decide) (N := 15) rfl)
  go_upto_region 6 with (go_at_call 26; go_loud (
     refine KP.out.mono ?_
     rintro e w7 ⟨v7, rfl, g7⟩
     obtain ⟨A7, k7, rfl, hk7⟩ := g7.own.slice
     have O7 := Lib.hid (O6.out.om g7)
     clear g7 c0 c1 c2 c3 c4 c5))
  clear KP O6
  obtain ⟨c0, c1, c2, c3, c4, c5⟩ := (A2.out.go O7.out.bel).box
  obtain ⟨l0h, hl0h⟩ : ∃ l0h, l0h = l0 ++ fx (mx b.high) := ⟨_, rfl⟩
  rw [← hl0h] at O7
  have HLH := Lib.hid hl0h
  clear hl0h
  have HBX := Lib.hid (fun (wr : World) (hb : Below w2.heap.size w2 wr) => (A2.out.go hb).box.2.2.2.2)
  obtain ⟨kw, hkw⟩ : ∃ kw, kw = min wn 32 := ⟨_, rfl⟩
  have hmin : (if (32 : Int) < (wn : Int) then (32 : Int) else (wn : Int)) = (kw : Int) := by split <;> omega
  have hmin2 : min (wn : Int) 32 = (kw : Int) := by omega
  have hkww : kw ≤ wn := by omega
  have hkc : kw ≤ wc := by omega
  have hk32 : kw ≤ 32 := by omega
  have HK := Lib.hid hkw
  clear hkw
  have KP := Lib.hid (pf (OM.start O7.out.own) (kw : Nat) (by decide) (N := 15 + 4) rfl)
  go_upto_region 8 with (go_at_call 26; go_loud (
     refine KP.out.mono ?_
     rintro e w8 ⟨v8, rfl, g8⟩
     obtain ⟨A8, k8, rfl, hk8⟩ := g8.own.slice
     have O8 := Lib.hid (O7.out.om g8)
     clear g8))
  clear KP O7 hmin hmin2 c0 c1 c2 c3 c4 c5
  obtain ⟨l1, hl1⟩ : ∃ l1, l1 = l0h ++ fx (mx (kw : Nat)) := ⟨_, rfl⟩
  rw [← hl1] at O8
  have HL1 := Lib.hid hl1
  clear hl1
  go_wp2_with fail
  go_loopw [6, 44] (fun s6 s44 wr => ∃ (v : Value) (j n : Nat), s6 = v ∧ j ≤ kw ∧ s44 = .int .i64 j ∧ n ≤ 19 + 306 * j ∧ Hid (OO w2.heap.size w2 wr n v (l1 ++ (b.words.take j).flatMap tx))) (fun _ s44 _ => kw - (intOf s44).toNat)
  case atStart => exact ⟨_, 0, 15 + 4, rfl, Nat.zero_le _, rfl, by omega, by have := O8.out; simpa [Hid] using this⟩
  case round =>
    clear O8
    obtain ⟨v, j, n, rfl, hj, rfl, hn, HO⟩ := hrel
    obtain ⟨A9, k9, rfl, hk9⟩ := HO.out.own.slice
    have hbs := HO.out.bel.size
    by_cases hlt : j < kw
    · obtain ⟨ad, s, rfl, e1, q1⟩ := BxKit.StrsAt.at_ HX2.out HO.out.bel (by omega) (show j < wn by omega)
      have hsz : s.size ≤ 24 := (atB_size (OlP.wordsB_at HG.out.ws s (List.mem_of_getElem? e1))).2
      have htl := PkK.tx_len (s := s) (by omega)
      have KT := Lib.hid (putText_oo HO.out s (by omega) (by omega))
      have HSN := Lib.hid (tx_snoc e1)
      obtain ⟨T, hT⟩ : ∃ T, T = (tx s).length := ⟨_, rfl⟩
      rw [← hT] at htl KT
      clear e1 hT
      go_wp2_with (go_at_call 28; go_loud (
         refine KT.out.mono ?_
         rintro e wa ⟨va, rfl, oa⟩
         have HO8 := Lib.hid (show OO w2.heap.size w2 wa (n + T) va (l1 ++ (b.words.take (j + 1)).flatMap tx) by rw [HSN.out, ← List.append_assoc]; exact oa)
         clear oa q1))
      go_roundw
      case rel => exact ⟨va, j + 1, n + T, rfl, by omega, by go_num, by omega, HO8⟩
      case measure => simp [intOf]; omega
    · obtain rfl : kw = j := by omega
      obtain ⟨c4, c5⟩ := HBX.out wr HO.out.bel
      have hml := HG.out.ml
      have hmn : mn ≤ 60 := by rw [← HM2.out.len]; exact hml
      have KP := Lib.hid (pf (OM.start HO.out.own) (mn : Nat) (by omega) (N := n + 4) rfl)
      go_upto_region 14 with (go_at_call 26; go_loud (
         refine KP.out.mono ?_
         rintro e wa ⟨va, rfl, ga⟩
         obtain ⟨Aa, ka, rfl, hka⟩ := ga.own.slice
         have Oa := Lib.hid (HO.out.om ga)
         clear ga c4 c5))
      obtain ⟨c4, c5⟩ := HBX.out wa Oa.out.bel
      have hqw : (b.words.take kw).flatMap tx = (b.words.take 32).flatMap tx := by
        rw [HK.out]
        by_cases h : wn ≤ 32
        · rw [Nat.min_eq_left h, List.take_of_length_le (by rw [HX2.out.len]; omega), List.take_of_length_le (by rw [HX2.out.len]; omega)]
        · rw [Nat.min_eq_right (by omega)]
      obtain ⟨l2, hl2⟩ : ∃ l2, l2 = l1 ++ (b.words.take kw).flatMap tx ++ fx (mx (mn : Nat)) := ⟨_, rfl⟩
      rw [← hl2] at Oa
      have HL2 := Lib.hid (show l2 ++ b.msgs.flatMap (em true) = eb true b by
        rw [hl2, hqw, HL1.out, HLH.out, HL0.out, HK.out]
        unfold eb ebR ch
        simp only [if_true, if_false, Bool.false_eq_true, List.nil_append, List.append_nil, List.append_assoc, mx_nat, ← HX2.out.len, ← HM2.out.len])
      clear hl2 hqw KP HO HX2
      go_wp2_with fail
      go_loopw [6, 60] (fun s6 s60 wr => ∃ (v : Value) (i n1 : Nat), s6 = v ∧ i ≤ mn ∧ s60 = .int .i64 i ∧ n1 ≤ n + 4 + 321 * i ∧ Hid (OO w2.heap.size w2 wr n1 v (l2 ++ (b.msgs.take i).flatMap (em true)))) (fun _ s60 _ => mn - (intOf s60).toNat)
      case atStart => exact ⟨_, 0, n + 4, rfl, Nat.zero_le _, rfl, by omega, by have := Oa.out; simpa [Hid] using this⟩
      case round =>
        clear Oa
        clear c4 c5
        obtain ⟨v, i, n1, rfl, hi, rfl, hn1, HO⟩ := hrel
        obtain ⟨A8, k8, rfl, hk8⟩ := HO.out.own.slice
        have hbs1 := HO.out.bel.size
        by_cases hlt1 : i < mn
        · obtain ⟨ad, u, md, d, id, fl, ks, tx', K, kn, kc, rfl, hab, e1, m0, m1, m2, m3, m4, m5, m6, hkc, hks, z1, z2⟩ := BxKit.MsgsAt.sp HM2.out HO.out.bel (by omega) hlt1
          obtain ⟨p1, p2, p3, p4, p5, p6, p7⟩ := OlP.mm_parts (HG.out.ms _ (List.mem_of_getElem? e1)).1
          dsimp only at p5 p6 p7
          have hfl : 0 ≤ fl ∧ fl ≤ 255 := ⟨p5.1, by have := p5.2; omega⟩
          have hfw : IntKind.u8.wrap fl = fl := by rw [show IntKind.u8.wrap fl = fl % 256 from rfl]; omega
          have HSN := Lib.hid (em_snoc (cg := true) e1)
          have HP := Lib.hid (fun (k : Int) (hk : k ∈ ks) => ((OlD.keysB_rise p6).2 k hk).1)
          have HOA := Lib.hid (HO.out.alloc (.cells #[.int .i64 u, .int .i64 md, .int .i64 d, .string id, .int .i64 fl, .slice K kn kc, .string tx'] 41))
          have HKS := Lib.hid (BxKit.IntsAt.below hks ((Below.refl w2.heap.size wr).alloc hbs1 (.cells #[.int .i64 u, .int .i64 md, .int .i64 d, .string id, .int .i64 fl, .slice K kn kc, .string tx'] 41)) (show B ≤ w2.heap.size by omega))
          have HM7 := Lib.hid (show MBk (wr.alloc (.cells #[.int .i64 u, .int .i64 md, .int .i64 d, .string id, .int .i64 fl, .slice K kn kc, .string tx'] 41)) wr.heap.size u md d id fl K kn kc tx' from heap_alloc_new wr _)
          have hne := own_none HO.out.own
          have hs7 : wr.heap.size + 1 ≤ (wr.alloc (.cells #[.int .i64 u, .int .i64 md, .int .i64 d, .string id, .int .i64 fl, .slice K kn kc, .string tx'] 41)).heap.size := by simp
          go_upto_region 17 with fail
          obtain ⟨L, hL⟩ : ∃ L, L = wr.heap.size := ⟨_, rfl⟩
          rw [← hL] at HM7 hs7 hne ⊢
          have hL2 : w2.heap.size ≤ L := by omega
          clear e1 hks p1 p2 p3 p4 p5 p6 hL m0 m1 m2 m3 m4 m5 m6
          generalize (World.alloc wr _) = w7 at HOA HKS HM7 hs7 ⊢
          have O7 := Lib.hid (OM.start HOA.out.own)
          have HMC := Lib.hid (fun (wx : World) (g : w7.grownBy wx (Value.slice A8 n1 k8).ownBlock) => (HM7.out.keep (g.block L (by omega) (fun e => hne e.symm))).cells)
          obtain ⟨m0, m1, m2, m3, m4, m5, m6⟩ := HM7.out.cells
          have KP := Lib.hid (pf (OM.start O7.out.own) u (by omega) (N := n1 + 4) rfl)
          go_upto_region 18 with (go_at_call 26; go_loud (
             refine KP.out.mono ?_
             rintro e wb ⟨vb, rfl, gb⟩
             obtain ⟨Ab, kb, rfl, hkb⟩ := gb.own.slice
             have Ob := Lib.hid (O7.out.trans gb)
             clear gb m0 m1 m2 m3 m4 m5 m6))
          clear KP
          obtain ⟨m0, m1, m2, m3, m4, m5, m6⟩ := HMC.out wb Ob.out.fr
          have KP := Lib.hid (pf (OM.start Ob.out.own) md (by omega) (N := n1 + 4 + 4) rfl)
          go_upto_region 20 with (go_at_call 26; go_loud (
             refine KP.out.mono ?_
             rintro e wc' ⟨vc, rfl, gc⟩
             obtain ⟨Ac, kc', rfl, hkc'⟩ := gc.own.slice
             have Oc := Lib.hid (Ob.out.trans gc)
             clear gc m0 m1 m2 m3 m4 m5 m6))
          clear KP Ob
          obtain ⟨m0, m1, m2, m3, m4, m5, m6⟩ := HMC.out wc' Oc.out.fr
          obtain ⟨lc, hlc⟩ : ∃ lc, lc = l2 ++ (b.msgs.take i).flatMap (em true) ++ fx (mx u) ++ fx (mx md) := ⟨_, rfl⟩
          rw [← hlc] at Oc
          have HLC := Lib.hid hlc
          clear hlc
          have Ocd := Lib.hid (OM.go Oc.out ((Below.refl wc'.heap.size wc').drew))
          have Oca := Lib.hid (show OM w7 (.slice A8 n1 k8) (wc'.alloc (.cells #[.int .u8 fl] 5)).drew (n1 + 4 + 4) (.slice Ac (n1 + 4 + 4) kc') lc from OM.go Oc.out (((Below.refl wc'.heap.size wc').drew).alloc (Nat.le_refl _) (.cells #[.int .u8 fl] 5)))
          have KP := Lib.hid (pf (OM.start Ocd.out.own) d (by omega) (N := (n1 + 4 + 4) + 4) rfl)
          have KQ := Lib.hid (pf (OM.start Oca.out.own) d (by omega) (N := (n1 + 4 + 4) + 4) rfl)
          have hbz : BytesAt (wc'.alloc (.cells #[.int .u8 fl] 5)).drew (wc'.heap.size + 1) (some ⟨wc'.heap.size, 0, none⟩) 1 [fl.toNat.toUInt8] := bytesAt_new wc'.drew [fl.toNat.toUInt8] rfl (Nat.lt_succ_self _) rfl (by_int (x := fl) (by omega) (by omega)).symm
          have hnc := own_none Oc.out.own
          have hSa : ∀ wx, w7.grownBy wx (Value.slice A8 n1 k8).ownBlock → wx.cell? { block := L, off := 2 } = some (.int .i64 d) ∧ wx.cell? { block := L, off := 4 } = some (.int .i64 fl) := fun wx g => ⟨(HMC.out wx g).2.2.1, (HMC.out wx g).2.2.2.2.1⟩
          have HSA := Lib.hid hSa
          clear hSa
          go_region_held3 (fun wx => wx.cell? { block := L, off := 2 } = some (.int .i64 d) ∧ wx.cell? { block := L, off := 4 } = some (.int .i64 fl)) (with_reducible first | exact ⟨m2, m4⟩ | exact HSA.out _ Ocd.out.fr | exact HSA.out _ Oca.out.fr | exact HSA.out _ Od.out.fr | exact HSA.out _ (OM.alloc Od.out _).fr | exact HSA.out _ Oe.out.fr | go_keep) (first
            | (go_at_call 26
               first | (with_reducible refine KP.out.mono ?_) | (with_reducible refine KQ.out.mono ?_)
               go_loud (
               rintro e wd ⟨vd, rfl, gd⟩
               obtain ⟨Ad, kd, rfl, hkd⟩ := gd.own.slice
               have Od := Lib.hid (show OM w7 (.slice A8 n1 k8) wd ((n1 + 4 + 4) + 4) (.slice Ad ((n1 + 4 + 4) + 4) kd) (lc ++ fx (mx d)) by first | exact Ocd.out.trans gd | exact Oca.out.trans gd)
               try (have Zd : BytesAt wd wd.heap.size (some ⟨wc'.heap.size, 0, none⟩) 1 [fl.toNat.toUInt8] := by
                     have hsz := gd.fr.size
                     refine ⟨hbz.1, fun h0 => ?_⟩
                     obtain ⟨ad2, e2, h2, h3⟩ := hbz.2 h0
                     injection e2 with e2
                     subst e2
                     refine ⟨_, rfl, by simp at hsz; show wc'.heap.size < _; omega, fun jj cc hj => (World.cell?_of_block ?_).trans (h3 jj cc hj)⟩
                     rw [add_block]
                     exact gd.fr.block wc'.heap.size (by simp) (fun e => hnc e.symm))
               clear gd
               dsimp only))
            | (show (if Region.wanted ⟨some 82, _, _, _, _, _⟩ _ = true then _ else _)
               go_loud (
               first
               | (refine step_ow (base := 0) (c := 1) rfl (.tmp 77) (.tmp 81) rfl (by simp [Act.eval]) (by simp [Act.eval]) Od.out.own Zd (by omega) (Nat.zero_le _) (Nat.succ_pos 0) ?_
                  intro ve we hown hg hat
                  replace hown : Ow we 0 ve ((n1 + 4 + 4) + 4 + 1) (by_ (lc ++ fx (mx d)) ++ by_ [fl.toNat.toUInt8]) := hown
                  obtain ⟨Ae, ke, rfl, hke⟩ := hown.slice
                  have Oe := Lib.hid (Od.out.app (m := (n1 + 4 + 4) + 4 + 1) (l' := lc ++ fx (mx d) ++ [fl.toNat.toUInt8]) (by rw [by_append]; exact hown) hg hat)
                  clear hown hg hat)
               | (refine step_ow (base := 0) (c := 1) rfl (.tmp 77) (.tmp 81) rfl (by simp [Act.eval]) (by simp [Act.eval]) (OM.alloc Od.out _).own (bytesAt_new wd [fl.toNat.toUInt8] rfl (Nat.lt_succ_self _) rfl (by_int (x := fl) (by omega) (by omega)).symm) (by show (n1 + 4 + 4) + 4 + 1 ≤ 140737488355328; omega) (Nat.zero_le _) (Nat.succ_pos 0) ?_
                  intro ve we hown hg hat
                  replace hown : Ow we 0 ve ((n1 + 4 + 4) + 4 + 1) (by_ (lc ++ fx (mx d)) ++ by_ [fl.toNat.toUInt8]) := hown
                  obtain ⟨Ae, ke, rfl, hke⟩ := hown.slice
                  have Oe := Lib.hid ((OM.alloc Od.out _).app (m := (n1 + 4 + 4) + 4 + 1) (l' := lc ++ fx (mx d) ++ [fl.toNat.toUInt8]) (by rw [by_append]; exact hown) hg hat)
                  clear hown hg hat)
               dsimp only)))
          all_goals
            rename_i hHeld
            clear hHeld m0 m1 m2 m3 m4 m5 m6 KP KQ Ocd Oca HSA hbz hnc Od
            obtain ⟨m0, m1, m2, m3, m4, m5, m6⟩ := HMC.out we Oe.out.fr
            obtain ⟨le, hle⟩ : ∃ le, le = lc ++ fx (mx d) ++ [fl.toNat.toUInt8] := ⟨_, rfl⟩
            rw [← hle] at Oe
            have HLE := Lib.hid hle
            clear hle
            have hbe := Oe.out.below (fun g e => (HOA.out.own.lt g e).1) (show w2.heap.size ≤ w7.heap.size from HOA.out.bel.size)
            have KM := Lib.hid (OlEd.mask_any (cp := kc) (BxKit.IntsAt.below HKS.out (BxKit.below_drewN hbe 1) (show B ≤ w2.heap.size by omega)) HP.out)
            obtain ⟨M, hM⟩ : ∃ M, M = maskN ks := ⟨_, rfl⟩
            rw [← hM] at KM
            have HMM := Lib.hid hM
            clear hM hbe
            have Oed := Lib.hid (OM.go Oe.out (BxKit.below_drewN (Below.refl we.heap.size we) 1))
            have KP := Lib.hid (pf (OM.start Oed.out.own) (M : Nat) (by omega) (N := (n1 + 4 + 4) + 4 + 1 + 4) rfl)
            have hSb : ∀ wx, w7.grownBy wx (Value.slice A8 n1 k8).ownBlock → wx.cell? { block := L, off := 5 } = some (.slice K kn kc) ∧ wx.cell? { block := L, off := 6 } = some (.string tx') := fun wx g => ⟨(HMC.out wx g).2.2.2.2.2.1, (HMC.out wx g).2.2.2.2.2.2⟩
            have HSB := Lib.hid hSb
            clear hSb
            go_upto_region 21 with fail
            go_region_held3 (fun wx => wx.cell? { block := L, off := 5 } = some (.slice K kn kc) ∧ wx.cell? { block := L, off := 6 } = some (.string tx')) (with_reducible first | exact ⟨m5, m6⟩ | exact HSB.out _ Oed.out.fr | exact HSB.out _ Of.out.fr | exact HSB.out _ Og.out.fr | exact HSB.out _ hgr | go_keep) (first
              | (go_at_call 29; go_loud (
                 refine KM.out.mono ?_
                 rintro e wz ⟨rfl, rfl⟩
                 dsimp only))
              | (go_at_call 26
                 (with_reducible refine KP.out.mono ?_)
                 go_loud (
                 rintro e wf ⟨vf, rfl, gf⟩
                 obtain ⟨Af, kf, rfl, hkf⟩ := gf.own.slice
                 have Of := Lib.hid (Oed.out.trans gf)
                 have KQ := Lib.hid (pf (OM.start Of.out.own) (tx'.size : Nat) (by omega) (N := (n1 + 4 + 4) + 4 + 1 + 4 + 4) rfl)
                 clear gf
                 dsimp only))
              | (go_at_call 26; go_loud (
                 refine KQ.out.mono ?_
                 rintro e wg ⟨vg, rfl, gg⟩
                 obtain ⟨Ag, kg, rfl, hkg⟩ := gg.own.slice
                 have Og := Lib.hid (Of.out.trans gg)
                 clear gg
                 dsimp only))
              | (show (if Region.wanted ⟨some 94, _, _, _, _, _⟩ _ = true then _ else _)
                 go_loud (
                 refine step_ows (base := w2.heap.size) (t := tx') rfl (.tmp 91) (.tmp 93) rfl (by simp [Act.eval]) (by simp [Act.eval]) (Og.out.oo (fun g e => (HOA.out.own.lt g e).1) HOA.out.bel.size).own (by omega) (Nat.le_trans HOA.out.bel.size Og.out.fr.size) ?_
                 intro vh wh hownh hgh
                 have hgr := Og.out.last hgh
                 dsimp only)))
            rename_i hHeld
            clear hHeld m0 m1 m2 m3 m4 m5 m6 hgr KM KP HSB
            have Bg := Og.out.oo (fun g e => (HOA.out.own.lt g e).1) (show w2.heap.size ≤ w7.heap.size from HOA.out.bel.size)
            have HO9 := Lib.hid (show OO w2.heap.size w2 wh ((n1 + 4 + 4) + 4 + 1 + 4 + 4 + tx'.size) vh (l2 ++ (b.msgs.take (i + 1)).flatMap (em true)) by
              have e : l2 ++ (b.msgs.take (i + 1)).flatMap (em true) = (le ++ fx (mx (M : Nat)) ++ fx (mx (tx'.size : Nat))) ++ tx'.data.toList := by
                rw [HSN.out, HLE.out, HLC.out]
                unfold em ch
                rw [mx_nat, mx_nat, HMM.out, Nat.mod_eq_of_lt (show fl.toNat < 256 by omega)]
                simp only [if_true, if_false, Bool.false_eq_true, List.nil_append, List.append_assoc]
              rw [e]
              refine OO.app (HOA.out.trans Bg) ?_ hgh
              rw [by_append, ← strCells_by]
              exact hownh)
            clear hownh hgh Og Bg Of Oe
            go_wp2_with fail
            go_roundw
            case rel => exact ⟨vh, i + 1, (n1 + 4 + 4) + 4 + 1 + 4 + 4 + tx'.size, rfl, by omega, by go_num, by omega, HO9⟩
            case measure => simp [intOf]; omega
        · obtain rfl : mn = i := by omega
          have ho := HO.out
          rw [List.take_of_length_le (by rw [HM2.out.len]; exact Nat.le_refl _), HL2.out] at ho
          have HO2 := Lib.hid ho
          clear ho HO
          go_wp2_with fail
          go_ret2
          exact ⟨A8, n1, k8, rfl, hk8, HO2.out.own.bytes, A2.out.below.trans (HO2.out.bel.mono (by omega))⟩
set_option maxHeartbeats 1000000 in
set_option maxRecDepth 100000 in
theorem old_bad {w : World} {b : Box} {WA MA : Option Addr} {wn wc mn mc B : Nat} (form : Int) (hx : StrsAt w B WA wn b.words) (hm : MsgsAt w B MA mn b.msgs) (hwc : wn ≤ wc) (hB : B ≤ w.heap.size) (h0 : mbE b ≠ 0) :
    Calls Tryd.prog 14 #[.int .i64 form, .agg #[.string b.id, .int .i64 b.valid, .int .i64 b.next, .int .i64 b.high, .slice WA wn wc, .slice MA mn mc]] w (BytesOut [] 1 w) := by
  have A0 := Lib.hid (After.start w (.cells #[.string b.id, .int .i64 b.valid, .int .i64 b.next, .int .i64 b.high, .slice WA wn wc, .slice MA mn mc] 25))
  have hbl := A0.out.below
  have HX := Lib.hid (StrsAt.below hx hbl hB)
  have HM := Lib.hid (MsgsAt.below hm hbl hB)
  have hwm := hx.max
  clear hx hm hbl
  go_enter Tryd.func14, Tryd.ntmps14
  go_upto_region 1 with fail
  generalize (World.alloc w _) = w1 at A0 HX HM ⊢
  have hs1 := A0.out.size
  have km := BxB.ref_may (bid := b.id) (bv := b.valid) (bn := b.next) (bh := b.high) (mc := mc) HX.out HM.out (by omega) hwc
  rw [show (⟨b.id, b.valid, b.next, b.high, b.words, b.msgs⟩ : Box) = b from rfl] at km
  obtain ⟨q, hq⟩ : ∃ q, q = mbE b := ⟨_, rfl⟩
  rw [← hq] at km h0
  have KM := Lib.hid km
  clear km hq
  obtain ⟨c0, c1, c2, c3, c4, c5⟩ := A0.out.box
  go_wp2_with (go_at_call 18; go_loud (
               refine KM.out.mono ?_
               rintro e w2 ⟨rfl, hb2⟩
               have A2 := Lib.hid (A0.out.go hb2)
               clear hb2 c0 c1 c2 c3 c4 c5))
  go_ret2
  exact ⟨none, 0, 0, rfl, Nat.le_refl _, BytesAt.nil _ _ _, A2.out.below⟩
end Go.Proofs.YtfhdoecackdflaaDoor.OlOld
