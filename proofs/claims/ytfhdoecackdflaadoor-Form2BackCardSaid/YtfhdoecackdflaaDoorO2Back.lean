/-
  Form2Back: what is written is read as it was, but for what the form does not know.
-/
import Derived.Test.YtfhdoecackdflaaDoorO2Aw
import Derived.Test.YtfhdoecackdflaaDoorOlW
import Derived.Test.YtfhdoecackdflaaDoorBxH
import Derived.Deep.CutBlock
set_option linter.unusedVariables false
set_option linter.unusedSimpArgs false
namespace Go.Proofs.YtfhdoecackdflaaDoor.O2Back
open Go.Proofs.YtfhdoecackdflaaDoor.PtK
open Go.RowKit Go.Proofs.YtfhdoecackdflaaDoor.BxD Go.Proofs.YtfhdoecackdflaaDoor.BxKit Go.Proofs.YtfhdoecackdflaaDoor.BxB Go.Proofs.YtfhdoecackdflaaDoor.BxH Go.Proofs.YtfhdoecackdflaaDoor.OlD Go.Proofs.YtfhdoecackdflaaDoor.OlU Go.Proofs.YtfhdoecackdflaaDoor.OlY
open Go.Proofs.YtfhdoecackdflaaDoor.PkKit (BytesAt)

theorem flat_le {α : Type} {f : α → List UInt8} {K : Nat} : ∀ {l : List α}, (∀ x ∈ l, (f x).length ≤ K) → (l.flatMap f).length ≤ l.length * K
  | [], _ => by simp
  | x :: l, h => by
    have h1 := h x (by simp)
    have h2 := flat_le (l := l) (fun y hy => h y (List.mem_cons_of_mem _ hy))
    rw [List.flatMap_cons, List.length_append, List.length_cons, Nat.add_mul]
    omega
theorem eb_len {b : Box} (h : mbE b = 0) : 3 ≤ (eb true b).length ∧ (eb true b).length ≤ 100000 := by
  have g := OlP.good_of h
  have h1 : ((b.words.take 32).flatMap PkB.tx).length ≤ (b.words.take 32).length * 306 := flat_le fun s hs => PkK.tx_len (by have := (atB_size (OlP.wordsB_at g.ws s (List.mem_of_mem_take hs))).2; omega)
  have h2 : (b.msgs.flatMap (em true)).length ≤ b.msgs.length * 321 := flat_le fun m hm => by
    obtain ⟨_, _, _, _, _, _, h7⟩ := OlP.mm_parts (g.ms m hm).1
    rw [OlC.em_len]; have := OlC.ch_le true m.mod; omega
  have h3 := g.ml
  have h4 : (b.words.take 32).length ≤ 32 := by rw [List.length_take]; omega
  unfold eb ebR
  simp only [List.length_append, fx_len]
  have e : (mk true).length = 3 := rfl
  have e7 := OlC.ch_le true b.high
  have h5 : (b.words.take 32).length * 306 ≤ 32 * 306 := Nat.mul_le_mul_right _ h4
  have h6 : b.msgs.length * 321 ≤ 60 * 321 := Nat.mul_le_mul_right _ h3
  omega
/-- A box in a block of its own, its cells laid one by one. -/
theorem six_below {B : Nat} {w wr : World} {P : Nat} (h : Below B w wr) (hP : B ≤ P) (c0 c1 c2 c3 c4 c5 : Value) : Below B w ((((((wr.setCell { block := P, off := 0 } c0).setCell { block := P, off := 1 } c1).setCell { block := P, off := 2 } c2).setCell { block := P, off := 3 } c3).setCell { block := P, off := 4 } c4).setCell { block := P, off := 5 } c5) :=
  (((((h.setCell hP _).setCell hP _).setCell hP _).setCell hP _).setCell hP _).setCell hP _
theorem six_cell {wr : World} {P : Nat} {p : Addr} (hp : p.block ≠ P) (c0 c1 c2 c3 c4 c5 : Value) : ((((((wr.setCell { block := P, off := 0 } c0).setCell { block := P, off := 1 } c1).setCell { block := P, off := 2 } c2).setCell { block := P, off := 3 } c3).setCell { block := P, off := 4 } c4).setCell { block := P, off := 5 } c5).cell? p = wr.cell? p := by
  refine World.cell?_of_block ?_
  iterate 6 rw [Below.heap_setCell _ _ _ _ (by show p.block ≠ P; exact hp)]
theorem seven_cells {wr : World} {L : Nat} {c0 c1 c2 c3 c4 c5 c6 : Value} {t : TypeId} (h : wr.heap[L]? = some (.cells #[c0, c1, c2, c3, c4, c5, c6] t (0, 0))) :
    wr.cell? { block := L, off := 0 } = some c0 ∧ wr.cell? { block := L, off := 1 } = some c1 ∧ wr.cell? { block := L, off := 2 } = some c2 ∧ wr.cell? { block := L, off := 3 } = some c3 ∧ wr.cell? { block := L, off := 4 } = some c4 ∧ wr.cell? { block := L, off := 5 } = some c5 ∧ wr.cell? { block := L, off := 6 } = some c6 := by
  have c : ∀ o, wr.cell? { block := L, off := o } = (#[c0, c1, c2, c3, c4, c5, c6] : Array Value)[o]? := fun o => cell_of_row wr L o _ _ _ h
  exact ⟨(c 0).trans rfl, (c 1).trans rfl, (c 2).trans rfl, (c 3).trans rfl, (c 4).trans rfl, (c 5).trans rfl, (c 6).trans rfl⟩
set_option maxHeartbeats 4000000 in
set_option maxRecDepth 100000 in
theorem walk {b : Box} {WA MA : Option Addr} {wn wcp mn mcp : Nat} {w : World} (ht : BxO.Tab w) (h1 : StrsAt w w.heap.size WA wn b.words) (h2 : MsgsAt w w.heap.size MA mn b.msgs) (hwc : wn ≤ wcp) (hmc : mn ≤ mcp) (z1 : b.id.size ≤ 140737488355328) :
    Calls Tryd.prog 8 #[.agg #[.string b.id, .int .i64 b.valid, .int .i64 b.next, .int .i64 b.high, .slice WA wn wcp, .slice MA mn mcp]] w fun e w' => e = .returned (.bool true) ∧ Below w.heap.size w w' := by
  have KH := fun o => heavy_any (bid := b.id) (bv := b.valid) (bn := b.next) (bh := b.high) (wc := wcp) (mc := mcp) (StrsAt.below h1 ((Below.refl _ w).alloc (Nat.le_refl _) o) (Nat.le_refl _)) (MsgsAt.below h2 ((Below.refl _ w).alloc (Nat.le_refl _) o) (Nat.le_refl _)) (by simp) (by simp) z1
  have KM := fun (wr : World) (h : After w (.cells #[.string b.id, .int .i64 b.valid, .int .i64 b.next, .int .i64 b.high, .slice WA wn wcp, .slice MA mn mcp] 25) wr) => ref_may (bid := b.id) (bv := b.valid) (bn := b.next) (bh := b.high) (wc := wcp) (mc := mcp) (StrsAt.below h1 h.below (Nat.le_refl _)) (MsgsAt.below h2 h.below (Nat.le_refl _)) h.below.size hwc
  have HAW := Lib.hid (fun (wr : World) => O2Aw.awake wr)
  have HS := Lib.hid (After.start w (.cells #[.string b.id, .int .i64 b.valid, .int .i64 b.next, .int .i64 b.high, .slice WA wn wcp, .slice MA mn mcp] 25))
  have HX := Lib.hid h1
  have HM := Lib.hid h2
  have HT := Lib.hid ht
  have HWC := Lib.hid hwc
  have HMC := Lib.hid hmc
  clear h1 h2 ht hwc hmc
  rcases hv_or b.id b.words b.msgs with hh | ⟨hh, _, _, _⟩
  · simp only [hh] at KH
    have K1 := Lib.hid KH
    clear KH hh KM
    go_enter Tryd.func8, Tryd.ntmps8
    go_wp2_with fail
    refine (K1.out _).mono ?_
    rintro e w1 ⟨rfl, hb1⟩
    have HB := Lib.hid (HS.out.go hb1).below
    clear hb1
    go_wp2_with (go_at_call 21; refine (HAW.out _).mono ?_; rintro e w2 ⟨rfl, hb2⟩)
    go_ret
    exact ⟨rfl, HB.out.trans (hb2.mono HB.out.size)⟩
  simp only [hh] at KH
  have K1 := Lib.hid KH
  clear KH hh
  obtain ⟨em, hem⟩ : ∃ em, em = mbE b := ⟨_, rfl⟩
  simp only [show mbE ⟨b.id, b.valid, b.next, b.high, b.words, b.msgs⟩ = mbE b from rfl, ← hem] at KM
  have K2 := Lib.hid KM
  clear KM
  by_cases he : em = 0
  case neg =>
    have hne : (em != 0) = true := by simpa using he
    clear he hem
    go_enter Tryd.func8, Tryd.ntmps8
    go_wp2_with fail
    refine (K1.out _).mono ?_
    rintro e w1 ⟨rfl, hb1⟩
    have HB := Lib.hid (HS.out.go hb1)
    obtain ⟨b0, b1, b2, b3, b4, b5⟩ := HB.out.box
    clear hb1
    go_wp2_with fail
    refine (K2.out _ HB.out).mono ?_
    rintro e w2 ⟨rfl, hb2⟩
    have HB2 := Lib.hid (HB.out.go hb2).below
    clear hb2
    go_wp2_with (go_at_call 21; refine (HAW.out _).mono ?_; rintro e w2 ⟨rfl, hb2⟩)
    go_ret
    exact ⟨rfl, HB2.out.trans (hb2.mono HB2.out.size)⟩
  subst he
  have HE := Lib.hid hem.symm
  clear hem
  go_enter Tryd.func8, Tryd.ntmps8
  go_wp2_with fail
  refine (K1.out _).mono ?_
  rintro e w1 ⟨rfl, hb1⟩
  have HB := Lib.hid (HS.out.go hb1)
  obtain ⟨b0, b1, b2, b3, b4, b5⟩ := HB.out.box
  clear hb1 K1 HS
  go_upto_region 3 with (go_at_call 18; go_loud (
     refine (K2.out _ HB.out).mono ?_
     rintro e w2 ⟨rfl, hb2⟩
     have HB2 := Lib.hid (HB.out.go hb2)
     clear hb2 b0 b1 b2 b3 b4 b5))
  obtain ⟨b0, b1, b2, b3, b4, b5⟩ := HB2.out.box
  have KB := Lib.hid (OlW.bytes2_ok (b := b) (StrsAt.below HX.out HB2.out.below (Nat.le_refl _)) (MsgsAt.below HM.out HB2.out.below (Nat.le_refl _)) HWC.out HMC.out HB2.out.below.size HE.out)
  clear K2 HB
  go_upto_region 4 with (go_at_call 22; go_loud (
     refine KB.out.mono ?_
     rintro e w3 ⟨A, n, c, rfl, hc, hx, hb3⟩
     have HB3 := Lib.hid (HB2.out.go hb3)
     have HX3 := Lib.hid hx
     have hnl := hx.1
     obtain ⟨hn3, hn5⟩ := eb_len HE.out
     rw [hnl] at hn3 hn5
     clear hnl hb3 hx b0 b1 b2 b3 b4 b5))
  have kp := (OlW.parse2_any (cp := c) (id := b.id) (HT.out.below HB3.out.below (Nat.le_refl _)) HX3.out (Nat.le_refl _) hc (by omega) (by have := (OlP.good_of HE.out).ids; omega)).mono (fun _ _ => PtK.ParseNew.out)
  rw [OlP.parse_good HE.out] at kp
  have KP := Lib.hid (kp.mono (R' := fun e w' => ∃ WA' k wc' MA' mc', e = .returned (.tuple #[.agg #[.string b.id, .int .i64 b.valid, .int .i64 b.next, .int .i64 b.high, .slice WA' k wc', .slice MA' mn mc'], .int .i64 0]) ∧ k = min wn 32 ∧ k ≤ wc' ∧ mn ≤ mc' ∧ StrsAt w' w'.heap.size WA' k (b.words.take 32) ∧ MsgsAt w' w'.heap.size MA' mn (b.msgs.map (pm true b.id)) ∧ Below w3.heap.size w3 w') (by
    rintro e w' ⟨WA', k, wc', MA', mn', mc', rfl, h1, h2, h3, h4, h5⟩
    have e1 : k = min wn 32 := by have a1 := h3.len; have a2 := HX.out.len; unfold pb at a1; rw [List.length_take] at a1; omega
    have e2 : mn' = mn := by have a1 := h4.len; have a2 := HM.out.len; unfold pb at a1; rw [List.length_map] at a1; omega
    subst e2
    exact ⟨WA', k, wc', MA', mc', rfl, e1, h1, h2, h3, h4, h5⟩))
  clear kp KB
  obtain ⟨b0, b1, b2, b3, b4, b5⟩ := HB3.out.box
  go_upto_region 5 with (go_at_call 23; go_loud (
     refine KP.out.mono ?_
     rintro e w4 ⟨WA4, k, wc4, MA4, mc4, rfl, hk, hwc4, hmc4, hx4, hm4, hb4⟩
     have HB4 := Lib.hid (HB3.out.go hb4)
     have HX4 := Lib.hid hx4
     have HM4 := Lib.hid hm4
     have X34 := Lib.hid hb4
     have HK := Lib.hid hk
     clear hx4 hm4 hb4 hk b0 b1 b2 b3 b4 b5))
  have hs4 := HB4.out.size
  have HC5 := Lib.hid (heap_alloc_new w4 (.cells #[.string b.id, .int .i64 b.valid, .int .i64 b.next, .int .i64 b.high, .slice WA4 k wc4, .slice MA4 mn mc4] 25))
  have X45 := Lib.hid ((Below.refl w4.heap.size w4).alloc (Nat.le_refl _) (.cells #[.string b.id, .int .i64 b.valid, .int .i64 b.next, .int .i64 b.high, .slice WA4 k wc4, .slice MA4 mn mc4] 25))
  obtain ⟨L, hL⟩ : ∃ L, L = w4.heap.size := ⟨_, rfl⟩
  rw [← hL] at HC5 ⊢
  have HLL := Lib.hid hL
  clear hL
  generalize (World.alloc w4 _) = w5 at HC5 X45 ⊢
  have HB5 := Lib.hid (HB4.out.go X45.out)
  obtain ⟨b0, b1, b2, b3, b4, b5⟩ := HB5.out.box
  have cX := fun o => cell_of_row w5 L o _ _ _ HC5.out
  have d0 := (cX 0).trans (show _ = some (Value.string b.id) from rfl)
  have d1 := (cX 1).trans (show _ = some (Value.int .i64 b.valid) from rfl)
  have d2 := (cX 2).trans (show _ = some (Value.int .i64 b.next) from rfl)
  have d3 := (cX 3).trans (show _ = some (Value.int .i64 b.high) from rfl)
  have d4 := (cX 4).trans (show _ = some (Value.slice WA4 k wc4) from rfl)
  have d5 := (cX 5).trans (show _ = some (Value.slice MA4 mn mc4) from rfl)
  clear cX
  have hmin : (if (32 : Int) < (wn : Int) then (32 : Int) else (wn : Int)) = (k : Int) := by have := HK.out; split <;> omega
  have hmin2 : min (wn : Int) 32 = (k : Int) := by have := HK.out; omega
  go_upto_region 7 with fail
  clear hmin hmin2 b0 b1 b2 b3 b4 b5 d0 d1 d2 d3 d4 d5
  have hs5 := HB5.out.size
  have HLw := Lib.hid (show L < w5.heap.size from (Array.getElem?_eq_some_iff.1 HC5.out).1)
  have HSP := Lib.hid (fun (wr : World) (hb : Below w5.heap.size w5 wr) => (HB5.out.go hb).box)
  have HSL := Lib.hid (fun (wr : World) (hb : Below w5.heap.size w5 wr) => show wr.heap[L]? = some (.cells #[.string b.id, .int .i64 b.valid, .int .i64 b.next, .int .i64 b.high, .slice WA4 k wc4, .slice MA4 mn mc4] 25 (0, 0)) from (hb.block L HLw.out).trans HC5.out)
  have HWW := Lib.hid (fun (wr : World) (hb : Below w5.heap.size w5 wr) => show Below w.heap.size w wr from (HB5.out.go hb).below)
  have HW4 := Lib.hid (fun (wr : World) (hb : Below w5.heap.size w5 wr) => show Below w4.heap.size w4 wr from X45.out.trans (hb.mono X45.out.size))
  have hmn := HM.out.max
  obtain ⟨b0, b1, b2, b3, b4, b5⟩ := HSP.out w5 (Below.refl _ _)
  go_wp2_with fail
  go_loopw [89] (fun s89 wr => ∃ i : Nat, i ≤ mn ∧ s89 = .int .i64 i ∧ Hid (Below w5.heap.size w5 wr)) (fun s89 _ => mn - (intOf s89).toNat)
  case atStart => exact ⟨0, Nat.zero_le _, rfl, Below.refl _ _⟩
  case round =>
    clear b0 b1 b2 b3 b4 b5
    obtain ⟨i, hi, rfl, HR⟩ := hrel
    obtain ⟨b0, b1, b2, b3, b4, b5⟩ := HSP.out wr HR.out
    have cX := fun o => cell_of_row wr L o _ _ _ (HSL.out wr HR.out)
    have d4 := (cX 4).trans (show _ = some (Value.slice WA4 k wc4) from rfl)
    have d5 := (cX 5).trans (show _ = some (Value.slice MA4 mn mc4) from rfl)
    have hsr := HR.out.size
    by_cases hlt : i < mn
    · obtain ⟨ad, u, md, d, id, fl, ks, tx, K, kn, kc, rfl, hab, e1, m0, m1, m2, m3, m4, m5, m6, hkc, hks, y1, y2⟩ := MsgsAt.sp HM.out (HWW.out wr HR.out) (Nat.le_refl _) hlt
      obtain ⟨p1, p2, p3, p4, p5, p6, p7⟩ := OlP.mm_parts ((OlP.good_of HE.out).ms _ (List.mem_of_getElem? e1)).1
      obtain ⟨ad2, x, hA2, hab2, e2, q0, q1, q2, q3, q4, ⟨K2, c2, q5, _, _⟩, q6, _⟩ := MsgsAt.at_ HM4.out (HW4.out wr HR.out) (Nat.le_refl _) hlt
      rw [List.getElem?_map, e1] at e2
      obtain rfl : pm true b.id ⟨u, md, d, id, fl, ks, tx⟩ = x := Option.some.inj e2
      subst hA2
      obtain ⟨O, hO⟩ : ∃ O, O = ownT b.id u := ⟨_, rfl⟩
      obtain ⟨kn2, hkn2⟩ : ∃ kn2, kn2 = (pm true b.id ⟨u, md, d, id, fl, ks, tx⟩).keys.length := ⟨_, rfl⟩
      have r0 : wr.cell? (ad2.add (i * 7)) = some (.int .i64 u) := q0
      have r1 : wr.cell? { block := (ad2.add (i * 7)).block, off := (ad2.add (i * 7)).off + 1 } = some (.int .i64 md) := q1
      have r2 : wr.cell? { block := (ad2.add (i * 7)).block, off := (ad2.add (i * 7)).off + 2 } = some (.int .i64 d) := q2
      have r3 : wr.cell? { block := (ad2.add (i * 7)).block, off := (ad2.add (i * 7)).off + 3 } = some (.string O) := by rw [hO]; exact q3
      have r4 : wr.cell? { block := (ad2.add (i * 7)).block, off := (ad2.add (i * 7)).off + 4 } = some (.int .i64 fl) := q4
      have r5 : wr.cell? { block := (ad2.add (i * 7)).block, off := (ad2.add (i * 7)).off + 5 } = some (.slice K2 kn2 c2) := by rw [hkn2]; exact q5
      have r6 : wr.cell? { block := (ad2.add (i * 7)).block, off := (ad2.add (i * 7)).off + 6 } = some (.string tx) := q6
      have hu : 1 ≤ u ∧ u ≤ 999999 := p1
      have HO := Lib.hid hO
      clear q0 q1 q2 q3 q4 q5 q6 e1 e2 hks hkn2 hO p1 p2 p3 p4 p5 p6 p7
      have hb2 := hab2
      go_upto_region 10 with fail
      have HA8 := Lib.hid ((Below.refl wr.heap.size wr).alloc (Nat.le_refl _) (.cells #[.int .i64 u, .int .i64 md, .int .i64 d, .string id, .int .i64 fl, .slice K kn kc, .string tx] 41))
      have HC8 := Lib.hid (heap_alloc_new wr (.cells #[.int .i64 u, .int .i64 md, .int .i64 d, .string id, .int .i64 fl, .slice K kn kc, .string tx] 41))
      obtain ⟨L8, hL8⟩ : ∃ L8, L8 = wr.heap.size := ⟨_, rfl⟩
      rw [← hL8] at HC8 ⊢
      have hL8w : w5.heap.size ≤ L8 := by rw [hL8]; exact hsr
      have hsb : (ad2.add (i * 7)).block < wr.heap.size := by rw [add_block]; have := (HW4.out wr HR.out).size; omega
      clear hL8
      have k0 := fun (p : Addr) (hp : p.block < wr.heap.size) => HA8.out.cell hp
      have r0 := (k0 _ hsb).trans r0
      have r1 := (k0 { block := (ad2.add (i * 7)).block, off := (ad2.add (i * 7)).off + 1 } hsb).trans r1
      have r2 := (k0 { block := (ad2.add (i * 7)).block, off := (ad2.add (i * 7)).off + 2 } hsb).trans r2
      have r3 := (k0 { block := (ad2.add (i * 7)).block, off := (ad2.add (i * 7)).off + 3 } hsb).trans r3
      have r4 := (k0 { block := (ad2.add (i * 7)).block, off := (ad2.add (i * 7)).off + 4 } hsb).trans r4
      have r5 := (k0 { block := (ad2.add (i * 7)).block, off := (ad2.add (i * 7)).off + 5 } hsb).trans r5
      have r6 := (k0 { block := (ad2.add (i * 7)).block, off := (ad2.add (i * 7)).off + 6 } hsb).trans r6
      have d5 := (k0 { block := L, off := 5 } (show L < wr.heap.size by have := HLw.out; omega)).trans d5
      clear k0 m0 m1 m2 m3 m4 m5 m6 b0 b1 b2 b3 b4 b5 d4
      generalize (World.alloc wr _) = wv at HA8 HC8 r0 r1 r2 r3 r4 r5 r6 d5 ⊢
      have HV := Lib.hid (HR.out.trans (HA8.out.mono hsr))
      go_upto_region 11 with fail
      have HA9 := Lib.hid ((Below.refl wv.heap.size wv).alloc (Nat.le_refl _) (.cells #[.int .i64 u, .int .i64 md, .int .i64 d, .string O, .int .i64 fl, .slice K2 kn2 c2, .string tx] 41))
      have HC9 := Lib.hid (heap_alloc_new wv (.cells #[.int .i64 u, .int .i64 md, .int .i64 d, .string O, .int .i64 fl, .slice K2 kn2 c2, .string tx] 41))
      obtain ⟨L9, hL9⟩ : ∃ L9, L9 = wv.heap.size := ⟨_, rfl⟩
      rw [← hL9] at HC9 ⊢
      have HL9 := Lib.hid hL9
      have h8lt : L8 < wv.heap.size := (Array.getElem?_eq_some_iff.1 HC8.out).1
      have HC8b := Lib.hid ((HA9.out.block L8 h8lt).trans HC8.out)
      clear hL9 r0 r1 r2 r3 r4 r5 r6 d5
      generalize (World.alloc wv _) = wu at HA9 HC9 HC8b ⊢
      have HU := Lib.hid (HV.out.trans (HA9.out.mono HV.out.size))
      have h8u : L8 < wu.heap.size := (Array.getElem?_eq_some_iff.1 HC8b.out).1
      have h9u : L9 < wu.heap.size := (Array.getElem?_eq_some_iff.1 HC9.out).1
      have HF := Lib.hid (fun (wx : World) (hb : Below wu.heap.size wu wx) => And.intro (HSP.out wx (HU.out.trans (hb.mono HU.out.size))).1 (And.intro (seven_cells ((hb.block L8 h8u).trans HC8b.out)) (seven_cells ((hb.block L9 h9u).trans HC9.out))))
      have KO := Lib.hid (fun (wx : World) (hb : Below wu.heap.size wu wx) => BxO.refOwn_any (id := b.id) (u := u) (HT.out.below (HWW.out wx (HU.out.trans (hb.mono HU.out.size))) (Nat.le_refl _)) (by omega) (by have := (OlP.good_of HE.out).ids; omega))
      simp only [← HO.out] at KO
      obtain ⟨b0, ⟨m0, m1, m2, m3, m4, m5, m6⟩, n0, n1, n2, n3, n4, n5, n6⟩ := HF.out wu (Below.refl _ _)
      go_region_held3 (fun wx => wx.cell? { block := w.heap.size, off := 0 } = some (.string b.id) ∧ wx.cell? { block := L8, off := 0 } = some (.int .i64 u) ∧ wx.cell? { block := L8, off := 1 } = some (.int .i64 md) ∧ wx.cell? { block := L8, off := 2 } = some (.int .i64 d) ∧ wx.cell? { block := L8, off := 4 } = some (.int .i64 fl) ∧ wx.cell? { block := L8, off := 6 } = some (.string tx) ∧ wx.cell? { block := L9, off := 0 } = some (.int .i64 u) ∧ wx.cell? { block := L9, off := 1 } = some (.int .i64 md) ∧ wx.cell? { block := L9, off := 2 } = some (.int .i64 d) ∧ wx.cell? { block := L9, off := 3 } = some (.string O) ∧ wx.cell? { block := L9, off := 4 } = some (.int .i64 fl) ∧ wx.cell? { block := L9, off := 6 } = some (.string tx))
        (with_reducible first | exact ⟨b0, m0, m1, m2, m4, m6, n0, n1, n2, n3, n4, n6⟩ | exact hS2 | go_keep) (first
        | (go_at_call 19
           ((with_reducible refine (KO.out _ ?d1).mono ?_); rotate_left)
           case d1 => with_reducible first | exact (Below.refl _ _).drew | exact BxKit.below_drewN (Below.refl _ _) _
           go_loud (
           rintro e wt ⟨rfl, hbt⟩
           have HT9 := Lib.hid (show Below wu.heap.size wu wt from (Below.drew (Below.refl _ _)).trans hbt)
           obtain ⟨k1, ⟨k2, k2b, k3, _, k4, _, k5⟩, k6, k7, k8, k9, k10, _, k11⟩ := HF.out wt HT9.out
           have hS2 := And.intro k1 (And.intro k2 (And.intro k2b (And.intro k3 (And.intro k4 (And.intro k5 (And.intro k6 (And.intro k7 (And.intro k8 (And.intro k9 (And.intro k10 k11))))))))))
           clear hbt k1 k2 k2b k3 k4 k5 k6 k7 k8 k9 k10 k11
           dsimp only)))
      rename_i hHeld
      clear hHeld b0 m0 m1 m2 m3 m4 m5 m6 n0 n1 n2 n3 n4 n5 n6 hS2 KO HF HC8 HC9 HC8b HA8 HA9
      have HR2 := Lib.hid (HU.out.trans (HT9.out.mono HU.out.size))
      go_wp2_with fail
      go_roundw
      case rel => exact ⟨i + 1, by omega, by go_num, HR2⟩
      case measure => simp [intOf]; omega
    · obtain rfl : mn = i := by omega
      have d0 := (cX 0).trans (show _ = some (Value.string b.id) from rfl)
      have d1 := (cX 1).trans (show _ = some (Value.int .i64 b.valid) from rfl)
      have d2 := (cX 2).trans (show _ = some (Value.int .i64 b.next) from rfl)
      have d3 := (cX 3).trans (show _ = some (Value.int .i64 b.high) from rfl)
      clear cX b0 b1 b2 b3 b4 b5
      have kb := OlW.bytes2_ok (b := pb true b) (wc := wc4) (mc := mc4) (StrsAt.below HX4.out (HW4.out wr HR.out) (Nat.le_refl _)) (MsgsAt.below HM4.out (HW4.out wr HR.out) (Nat.le_refl _)) hwc4 hmc4 (HW4.out wr HR.out).size (OlP.good_may (OlP.pb_good (OlP.good_of HE.out)))
      rw [OlP.eb_pb] at kb
      have KB := Lib.hid (show Calls Tryd.prog 22 #[.agg #[.string b.id, .int .i64 b.valid, .int .i64 b.next, .int .i64 b.high, .slice WA4 k wc4, .slice MA4 mn mc4]] wr (PtK.BytesOut (eb true b) 0 wr) from kb)
      clear kb
      go_upto_region 15 with (go_at_call 22; go_loud (
         refine KB.out.mono ?_
         rintro e w6 ⟨A6, n6, c6, rfl, hc6, hx6, hb6⟩
         have h3 : Below w3.heap.size w3 w6 := X34.out.trans ((HW4.out wr HR.out).mono X34.out.size |>.trans (hb6.mono (by have := (HW4.out wr HR.out).size; have := X34.out.size; omega)))
         have hx3 := HX3.out.below h3 (Nat.le_refl _)
         have q1 := hx3.conv c
         have q2 := hx6.conv c6
         have HW6 := Lib.hid ((HWW.out wr HR.out).trans (hb6.mono (HWW.out wr HR.out).size))
         clear h3 hx3 hx6 hb6 d0 d1 d2 d3 d4 d5))
      obtain ⟨T, hT⟩ : ∃ T : ByteArray, T = ⟨(eb true b).toArray⟩ := ⟨_, rfl⟩
      rw [← hT] at q1 q2
      clear hT
      have q3 : (T.toList == T.toList) = true := by simp
      go_wp2_with (go_at_call 21; refine (HAW.out _).mono ?_; rintro e w7 ⟨rfl, hb7⟩)
      go_ret
      exact ⟨rfl, HW6.out.trans (hb7.mono HW6.out.size)⟩
end Go.Proofs.YtfhdoecackdflaaDoor.O2Back
