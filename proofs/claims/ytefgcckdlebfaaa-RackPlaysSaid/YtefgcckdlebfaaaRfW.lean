/-
  The document's Write and Cut.
-/
import Derived.Test.YtefgcckdlebfaaaRfS
import Derived.Deep.RegionHeld3
namespace Go.Proofs.Ytefgcckdlebfaaa.RfW
open Go.RowKit Go.Proofs.Ytefgcckdlebfaaa.BxD Go.Proofs.Ytefgcckdlebfaaa.BxKit Go.Proofs.Ytefgcckdlebfaaa.RkO Go.Proofs.Ytefgcckdlebfaaa.RkC Go.Proofs.Ytefgcckdlebfaaa.RkD Go.Proofs.Ytefgcckdlebfaaa.RkR Go.Proofs.Ytefgcckdlebfaaa.RkK Go.Proofs.Ytefgcckdlebfaaa.RkP Go.Proofs.Ytefgcckdlebfaaa.RkQ Go.Proofs.Ytefgcckdlebfaaa.RkE Go.Proofs.Ytefgcckdlebfaaa.RkS Go.Proofs.Ytefgcckdlebfaaa.RkV Go.Proofs.Ytefgcckdlebfaaa.RkU Go.Proofs.Ytefgcckdlebfaaa.RfA Go.Proofs.Ytefgcckdlebfaaa.RfP Go.Proofs.Ytefgcckdlebfaaa.RfS
section
variable {w : World} {base T : Nat} {s : St} {SA NA LA : Option Addr} {sn sc nn nc ln lc : Nat}
set_option maxHeartbeats 1000000 in
theorem Write_bad (h : Rf w base T s NA nn nc SA sn sc LA ln lc) {D : Option Addr} {dn dc : Nat} {n : ByteArray} {d : List UInt8} (hl : d.length = dn) (hb : wrBad n d = true) :
    Calls Try.prog 13 #[ptr T, .string n, .slice D dn dc] w (RfPost w base T LA (wrR s n d) (.returned (.int .i64 (wrE s n d)))) := by
  have hE : wrE s n d = 1 := if_pos hb
  have hS : wrR s n d = s := if_pos hb
  rw [hE, hS]
  have HP := Lib.hid (RfPost.same h (Below.refl _ _) (.returned (.int .i64 1)))
  have KN := Lib.hid (named_any n w)
  unfold wrBad at hb
  rw [hl] at hb
  clear h hE hS hl
  unfold ptr
  cases ho : okN n with
  | false =>
    rw [ho] at KN
    clear ho hb
    go_enter Try.func13, Try.ntmps13
    go_wp2_with (go_at_call 38; go_loud (refine KN.out.mono ?_; rintro e w1 ⟨rfl, rfl⟩))
    go_ret
    exact HP.out
  | true =>
    rw [ho] at KN hb
    have hgt : (200000 : Int) < (dn : Int) := by
      have := of_decide_eq_true (by simpa using hb : decide (200000 < dn) = true)
      omega
    clear ho hb
    go_enter Try.func13, Try.ntmps13
    go_wp2_with (go_at_call 38; go_loud (refine KN.out.mono ?_; rintro e w1 ⟨rfl, rfl⟩))
    go_ret
    exact HP.out
set_option maxHeartbeats 1000000 in
theorem Write_down (h : Rf w base T s NA nn nc SA sn sc LA ln lc) {D : Option Addr} {dn dc : Nat} {n : ByteArray} {d : List UInt8} (hl : d.length = dn) (hb : wrBad n d = false) (hd : s.down = true) :
    Calls Try.prog 13 #[ptr T, .string n, .slice D dn dc] w (RfPost w base T LA (wrR s n d) (.returned (.int .i64 (wrE s n d)))) := by
  have hE : wrE s n d = 5 := by unfold wrE; rw [hb, hd]; rfl
  have hS : wrR s n d = s := by unfold wrR; rw [hb, hd]; rfl
  rw [hE, hS]
  have HP := Lib.hid (RfPost.same h (Below.refl _ _) (.returned (.int .i64 5)))
  have KN := Lib.hid (named_any n w)
  unfold wrBad at hb
  rw [Bool.or_eq_false_iff, hl] at hb
  have ho : okN n = true := by simpa using hb.1
  have hgt : ¬ (200000 : Int) < (dn : Int) := by have := of_decide_eq_false hb.2; omega
  rw [ho] at KN
  obtain ⟨c0, c1, c2, c3, c4, c5, c6, cf⟩ := h.cells rfl
  rw [hd] at c5
  clear h hE hS hl hb ho cf
  unfold ptr
  go_enter Try.func13, Try.ntmps13
  go_wp2_with (go_at_call 38; go_loud (refine KN.out.mono ?_; rintro e w1 ⟨rfl, rfl⟩))
  go_ret
  exact HP.out
set_option maxHeartbeats 4000000 in
theorem Write_good (h : Rf w base T s NA nn nc SA sn sc LA ln lc) {k : Nat} (hk : Ok k s) (h6 : k ≤ 900) {D : Option Addr} {dn dc B : Nat} {n : ByteArray} {d : List UInt8} (hD : PkKit.BytesAt w B D dn d) (hB : B ≤ w.heap.size) (hbase : base ≤ w.heap.size) (hm : leftV s.fuse ≤ 9223372036854775807) (hb : wrBad n d = false) (hd : s.down = false) :
    Calls Try.prog 13 #[ptr T, .string n, .slice D dn dc] w (RfPost w base T LA (wrR s n d) (.returned (.int .i64 (wrE s n d)))) := by
  obtain ⟨z1, z2⟩ := wr_ok hb
  have hl := hD.1
  have hE : wrE s n d = if wrFull s n d then 4 else goE s := by unfold wrE; rw [hb, hd]; rfl
  have hS : wrR s n d = if wrFull s n d then s else goR s ⟨n, false, d⟩ (putF n d s.files) := by unfold wrR; rw [hb, hd]; rfl
  rw [hE, hS]
  have KN := Lib.hid (named_any n w)
  unfold wrBad at hb
  rw [Bool.or_eq_false_iff, hl] at hb
  have ho : okN n = true := by simpa using hb.1
  have hgt : ¬ (200000 : Int) < (dn : Int) := by have := of_decide_eq_false hb.2; omega
  rw [ho] at KN
  have HH := Lib.hid h
  have HT := Lib.hid h.lt
  have HL := Lib.hid hl
  have HKK := Lib.hid hk
  have HDD := Lib.hid hD
  have hok := hk.files.put (n := n) (d := d) z1 z2
  have hfn : nn ≤ 900 := by have := h.files.len; have := hk.files.len; omega
  have hln : ln ≤ 900 := by have := h.loose.len; have := hk.loose; omega
  have hdn : dn ≤ 200000 := by omega
  have hwr : s.writes ≤ 900 := by have := hk.writes; omega
  obtain ⟨nx, hnx⟩ : ∃ nx, nx = putF n d s.files := ⟨_, rfl⟩
  rw [← hnx] at hok
  have HNX := Lib.hid hnx
  have HOK := Lib.hid hok
  obtain ⟨S', hS'⟩ : ∃ S', S' = if wrFull s n d then s else goR s ⟨n, false, d⟩ (putF n d s.files) := ⟨_, rfl⟩
  obtain ⟨E', hE'⟩ : ∃ E', E' = if wrFull s n d then (4 : Int) else goE s := ⟨_, rfl⟩
  rw [← hS', ← hE']
  have HS' := Lib.hid hS'
  have HE' := Lib.hid hE'
  obtain ⟨c0, c1, c2, c3, c4, c5, c6, cf⟩ := h.cells rfl
  rw [hd] at c5
  clear h hE hS hb ho cf hl hD hnx hok z1 z2 hS' hE' hk
  unfold ptr
  go_enter Try.func13, Try.ntmps13
  go_upto_region 5 with (go_at_call 38; go_loud (refine KN.out.mono ?_; rintro e w1 ⟨rfl, rfl⟩))
  clear KN
  go_upto_region 6 with (at_builtin; go_loud (
     refine PkKit.wpList_by rfl _ _ rfl rfl rfl (World.ownsRow_nil _ _ _ _ : _root_.Go.World.ownsRow _ _ 5 1 (.slice none 0 0) 0 (PkKit.by_ [])) (HDD.out.more hB) (by omega) (by omega) ?_
     intro v1 w1 hown hg _
     rw [Nat.zero_add] at hown
     obtain ⟨K, kc, rfl, hkc⟩ := RkR.own_slice hown
     have HBY := Lib.hid (byT_own (d := d) (by simpa [PkKit.by_, Lib.byteCells] using hown))
     have HB1 := Lib.hid (below_none hg)
     clear hown hg))
  have HB1k := Lib.hid (Kp.below HB1.out (Nat.le_refl _))
  obtain ⟨c0, c1, c2, c3, c4, c5, c6, cf⟩ := (HH.out.below HB1.out).cells rfl
  clear cf
  have KP := Lib.hid (put_any (w := w1) (cap := nc) (ps := s.files) n (by omega) HKK.out.files.srt (HH.out.files.kp HB1k.out) HBY.out hkc)
  unfold DnPost at KP
  rw [← HNX.out] at KP
  obtain ⟨q, hq⟩ : ∃ q, q = nx.length := ⟨_, rfl⟩
  rw [← hq] at KP
  have hq1 : q ≤ 901 := by have := HOK.out.len; omega
  have HQ := Lib.hid hq
  clear hq
  go_upto_region 7 with (go_at_call 39; go_loud (
     refine KP.out.mono ?_
     rintro e w3 ⟨A3, k3, rfl, hk3, hf3, hw3⟩
     have HF3 := Lib.hid hf3
     have HB3 := Lib.hid (HB1.out.trans (hw3.mono HB1.out.size))
     have HB13 := Lib.hid hw3
     clear hf3 hw3 c0 c1 c2 c3 c4 c5 c6))
  clear KP
  by_cases h40 : 40 < q
  · have HP := Lib.hid (show RfPost w base T LA S' (.returned (.int .i64 E')) (.returned (.int .i64 4)) w3 by
      have hf : wrFull s n d = true := by unfold wrFull; rw [← HNX.out, ← HQ.out, decide_eq_true h40]; rfl
      rw [HE'.out, HS'.out, hf]
      exact RfPost.same HH.out HB3.out _)
    have hd40 : decide ((40 : Int) < (q : Int)) = true := decide_eq_true (by omega)
    have h40i : (40 : Int) < (q : Int) := by omega
    go_quiet (fail)
    go_wp2_with fail
    go_ret
    exact RfPost.drewN HP.out
  have hd40 : decide ((40 : Int) < (q : Int)) = false := decide_eq_false (by omega)
  have KO := Lib.hid (RfA.costs_any (w := w3.drew) (cap := k3) (by omega) HOK.out.sz HF3.out)
  have hcb := HOK.out.cost
  obtain ⟨C, hC⟩ : ∃ C, C = costs nx := ⟨_, rfl⟩
  rw [← hC] at KO hcb
  have HC := Lib.hid hC
  have r0 : w3.cell? { block := T, off := 0 } = some (.int .i64 s.room) := ((HH.out.below HB3.out).cells rfl).1
  have HR := Lib.hid (fun (w4 : World) (hb : Below w3.heap.size w3 w4) => (((HH.out.below HB3.out).below hb).cells rfl).1)
  clear hC
  go_region_held3 (fun wq => wq.cell? { block := T, off := 0 } = some (.int .i64 s.room)) (with_reducible first | exact r0 | exact r4 | go_keep) (first
    | (go_at_call 40; go_loud (
       refine KO.out.mono ?_
       rintro e w4 ⟨rfl, hw4⟩
       have HB4 := Lib.hid (show Below w3.heap.size w3 w4 from (Below.drew (Below.refl w3.heap.size w3)).trans hw4)
       have r4 : w4.cell? { block := T, off := 0 } = some (.int .i64 s.room) := HR.out w4 HB4.out
       clear hw4
       dsimp only)))
  rename_i hHeld
  clear hHeld KO r0 r4 HR
  have HB40 := Lib.hid (HB3.out.trans (HB4.out.mono HB3.out.size))
  by_cases hfu : s.room < C
  · have HP := Lib.hid (show RfPost w base T LA S' (.returned (.int .i64 E')) (.returned (.int .i64 4)) w4 by
      have hf : wrFull s n d = true := by unfold wrFull; rw [← HNX.out, ← HC.out, decide_eq_true hfu, Bool.or_true]
      rw [HE'.out, HS'.out, hf]
      exact RfPost.same HH.out HB40.out _)
    have hfi : (s.room : Int) < (C : Int) := by omega
    go_wp2_with fail
    go_ret
    exact HP.out
  have hfi : ¬ (s.room : Int) < (C : Int) := by omega
  have HFF := Lib.hid (show wrFull s n d = false by unfold wrFull; rw [← HNX.out, ← HC.out, ← HQ.out, decide_eq_false hfu, decide_eq_false h40]; rfl)
  have KB := Lib.hid (burns_any (HH.out.below HB40.out) hm)
  have HF4 := Lib.hid (HF3.out.kp (Kp.below HB4.out (Nat.le_refl _)))
  have HBY4 := Lib.hid (HBY.out.kp (Kp.below (HB13.out.trans (HB4.out.mono HB13.out.size)) (Nat.le_refl _)))
  clear hfu h40 HF3 HBY
  unfold ptr BnPost at KB
  by_cases hz : s.fuse = some 0
  · have hbb : bnB s = false := decide_eq_false (not_not_intro hz)
    rw [hbb] at KB
    have HP := Lib.hid (fun (w5 : World) (hr : Rf w5 base T (bnS s) NA nn nc SA sn sc LA ln lc) (hf : Fr w4 w5 T LA) => show RfPost w base T LA S' (.returned (.int .i64 E')) (.returned (.int .i64 5)) w5 by
      rw [HE'.out, HS'.out, HFF.out, if_neg (by decide), if_neg (by decide)]
      rw [show goE s = 5 from if_pos hz, show goR s ⟨n, false, d⟩ (putF n d s.files) = bnS s from if_pos hz]
      exact RfPost.lift (Fr.of HB40.out) ⟨rfl, LA, ⟨_, _, _, _, _, _, _, _, hr⟩, hf, LNew.refl _ _⟩)
    go_wp2_with (go_at_call 41; go_loud (
       refine KB.out.mono ?_
       rintro e w5 ⟨rfl, hr, hf⟩
       have HP5 := Lib.hid (HP.out w5 hr hf)
       clear hr hf))
    go_ret
    exact HP5.out
  have hbb : bnB s = true := decide_eq_true hz
  rw [hbb] at KB
  have HZ := Lib.hid hz
  clear hz
  go_upto_region 11 with (go_at_call 41; go_loud (
     refine KB.out.mono ?_
     rintro e w5 ⟨rfl, hr, hf⟩
     have HBN := Lib.hid hr
     have HFR := Lib.hid hf
     clear hr hf))
  clear KB
  have HBS := Lib.hid (show base ≤ w5.heap.size from Nat.le_trans hbase (Nat.le_trans HB40.out.size HFR.out.size))
  have hk5 := (HH.out.below HB40.out).kp HFR.out
  have HF5 := Lib.hid (HF4.out.kp hk5)
  have HBY5 := Lib.hid (HBY4.out.kp hk5)
  obtain ⟨e1, e2, e3, e4, e5⟩ := bn_same s
  have hwb : (bnS s).writes ≤ 900 := by rw [e5]; exact hwr
  have HES := Lib.hid (show goR s ⟨n, false, d⟩ nx = { bnS s with files := nx, loose := (bnS s).loose ++ [⟨n, false, d⟩], writes := (bnS s).writes + 1 } by
    unfold goR
    rw [if_neg HZ.out, e4, e5])
  have HEE := Lib.hid (show goE s = 0 from if_neg HZ.out)
  clear hk5 e1 e2 e3 e4 e5 HF4 HBY4
  have HRD := Lib.hid (show ByT w5 K d.length d ∧ d.length ≤ kc by have e := HL.out; subst e; exact ⟨HBY5.out, hkc⟩)
  have HCL := Lib.hid (show cell3 ⟨n, false, ⟨K, kc, d⟩⟩ = [.string n, .bool false, .slice K dn kc] by have e := HL.out; subst e; rfl)
  have HBX := Lib.hid (show leftV (bnS s).fuse = leftV (bnS s).fuse from rfl)
  obtain ⟨rs, hrl, hro, hrd⟩ := HBN.out.loose
  obtain ⟨W5, hW5⟩ : ∃ W5, W5 = w5.setCell ⟨T, 1, none⟩ (.slice A3 q k3) := ⟨_, rfl⟩
  have HR5 := Lib.hid (show Row W5 T 60 _ by rw [hW5]; exact HBN.out.head.stored 1 (.slice A3 q k3))
  have HO5 := Lib.hid (show W5.ownsRow base 64 3 (.slice LA ln lc) ln (cc rs) by rw [hW5]; exact hro.kept (setCell_grown w5 ⟨T, 1, none⟩ (.slice A3 q k3)) (.inr (own_no hro HBN.out.head)))
  have HB5 := Lib.hid (show base ≤ W5.heap.size by rw [hW5]; simpa [World.setCell] using HBS.out)
  have HP := Lib.hid (fun (w6 : World) (v : Value) (o : Obj) h6 g6 hv z hz => Rf.wrote (w6 := w6) (r := ⟨n, false, ⟨K, kc, d⟩⟩) (v := v) (o := o) HBN.out hrl hro hrd HRD.out HF5.out hk3 h6 g6 hv z hz)
  rw [← hW5] at HP
  rw [HCL.out] at HP
  obtain ⟨c0, c1, c2, c3, c4, c5, c6, cf⟩ := HBN.out.cells rfl
  have f1 := cf 1
  clear cf hrl hro hrd
  go_upto_region 12 with fail
  rw [← hW5]
  clear c0 c1 c2 c3 c4 c5 c6 f1 hW5
  have q3 : W5.cell? { block := T, off := 3 } = some (.slice LA ln lc) := HR5.out.cell 3
  go_wp2_with (at_builtin; go_loud (
     refine wpList_rows elC rfl _ _ rfl rfl rfl (HO5.out.alloc (.cells #[.string n, .bool false, .slice K dn kc] 64)) (src_new W5 #[.string n, .bool false, .slice K dn kc] 64 (m := 1) (sz := 3) rfl rfl (fun u hu => by simp at hu; rcases hu with rfl | rfl | rfl <;> rfl)) (by unfold maxLen; omega) (by omega) (by have := HB5.out; simp; omega) ?_
     intro v6 w6 hown6 hg6 hv6
     have HP6 := Lib.hid (HP.out w6 v6 (.cells #[.string n, .bool false, .slice K dn kc] 64) hown6 hg6 hv6)
     have hb6 : w6.heap[T]? = (W5.alloc (.cells #[.string n, .bool false, .slice K dn kc] 64)).heap[T]? := hg6.block T (by have := HR5.out.lt; simp; omega) (fun e => own_no (HO5.out.alloc (.cells #[.string n, .bool false, .slice K dn kc] 64)) (HR5.out.alloc (.cells #[.string n, .bool false, .slice K dn kc] 64)) e.symm)
     have hR6 := (HR5.out.alloc (.cells #[.string n, .bool false, .slice K dn kc] 64)).same hb6
     have z3 : w6.cell? { block := T, off := 3 } = some (.slice LA ln lc) := hR6.cell 3
     have z6 : w6.cell? { block := T, off := 6 } = some (.int .i64 (bnS s).writes) := hR6.cell 6
     have zf3 : w6.frozen? { block := T, off := 3 } = false := hR6.frozen 3
     have zf6 : w6.frozen? { block := T, off := 6 } = false := hR6.frozen 6
     obtain ⟨A8, k8, rfl, hk8⟩ := RkR.own_slice hown6
     clear hb6 hR6 hown6 hg6 hv6 q3))
  go_ret
  rw [HE'.out, HS'.out, HFF.out, if_neg (by decide), if_neg (by decide), HEE.out, ← HNX.out, HES.out]
  exact RfPost.lift (fr_trans (Fr.of HB40.out) HFR.out) (HP6.out _ (by omega))
theorem Write_any (h : Rf w base T s NA nn nc SA sn sc LA ln lc) {k : Nat} (hk : Ok k s) (h6 : k ≤ 900) {D : Option Addr} {dn dc B : Nat} {n : ByteArray} {d : List UInt8} (hD : PkKit.BytesAt w B D dn d) (hB : B ≤ w.heap.size) (hbase : base ≤ w.heap.size) (hm : leftV s.fuse ≤ 9223372036854775807) :
    Calls Try.prog 13 #[ptr T, .string n, .slice D dn dc] w (RfPost w base T LA (wrR s n d) (.returned (.int .i64 (wrE s n d)))) := by
  cases hb : wrBad n d with
  | true => exact Write_bad h hD.1 hb
  | false =>
    cases hd : s.down with
    | true => exact Write_down h hD.1 hb hd
    | false => exact Write_good h hk h6 hD hB hbase hm hb hd
set_option maxHeartbeats 4000000 in
theorem Cut_any (h : Rf w base T s NA nn nc SA sn sc LA ln lc) {k : Nat} (hk : Ok k s) (h6 : k ≤ 900) {n : ByteArray} (hbase : base ≤ w.heap.size) (hm : leftV s.fuse ≤ 9223372036854775807) :
    Calls Try.prog 15 #[ptr T, .string n] w (RfPost w base T LA (ctR s n) (.returned (.int .i64 (ctE s n)))) := by
  have KN := Lib.hid (named_any n w)
  obtain ⟨c0, c1, c2, c3, c4, c5, c6, cf⟩ := h.cells rfl
  have HH := Lib.hid h
  have HKK := Lib.hid hk
  have hfn : nn ≤ 900 := by have := h.files.len; have := hk.files.len; omega
  have hln : ln ≤ 900 := by have := h.loose.len; have := hk.loose; omega
  have hwr : s.writes ≤ 900 := by have := hk.writes; omega
  clear cf
  unfold ptr
  cases ho : okN n with
  | false =>
    rw [ho] at KN
    have HP := Lib.hid (RfPost.same h (Below.refl _ _) (.returned (.int .i64 1)))
    have hE : ctE s n = 1 := by unfold ctE; rw [ho]; rfl
    have hS : ctR s n = s := by unfold ctR; rw [ho]; rfl
    rw [hE, hS]
    clear h ho hE hS
    go_enter Try.func15, Try.ntmps15
    go_wp2_with (go_at_call 38; go_loud (refine KN.out.mono ?_; rintro e w1 ⟨rfl, rfl⟩))
    go_ret
    exact HP.out
  | true =>
    rw [ho] at KN
    cases hd : s.down with
    | true =>
      have HP := Lib.hid (RfPost.same h (Below.refl _ _) (.returned (.int .i64 5)))
      have hE : ctE s n = 5 := by unfold ctE; rw [ho, hd]; rfl
      have hS : ctR s n = s := by unfold ctR; rw [ho, hd]; rfl
      rw [hE, hS]
      rw [hd] at c5
      clear h ho hE hS
      go_enter Try.func15, Try.ntmps15
      go_wp2_with (go_at_call 38; go_loud (refine KN.out.mono ?_; rintro e w1 ⟨rfl, rfl⟩))
      go_ret
      exact HP.out
    | false =>
      rw [hd] at c5
      have KP := Lib.hid (at_any (cap := nc) n (by omega) hk.files.srt h.files)
      unfold atI at KP
      cases hh : hitF n s.files with
      | false =>
        have hE : ctE s n = 6 := by unfold ctE; rw [ho, hd, hh]; rfl
        have hS : ctR s n = s := by unfold ctR; rw [ho, hd, hh]; rfl
        rw [hE, hS]
        rw [hh, if_neg (by decide)] at KP
        have HP := Lib.hid (fun (w2 : World) (hb : Below w.heap.size w w2) => RfPost.same h hb (.returned (.int .i64 6)))
        clear h ho hh hd hE hS
        go_enter Try.func15, Try.ntmps15
        go_wp2_with (first
          | (go_at_call 38; go_loud (refine KN.out.mono ?_; rintro e w1 ⟨rfl, rfl⟩))
          | (go_at_call 43; go_loud (refine KP.out.mono ?_; rintro e w2 ⟨rfl, hb2⟩; have HP2 := Lib.hid (HP.out w2 hb2); clear hb2)))
        go_ret
        exact HP2.out
      | true =>
        have hE : ctE s n = goE s := by unfold ctE; rw [ho, hd, hh]; rfl
        have hS : ctR s n = goR s ⟨n, true, []⟩ (cutF n s.files) := by unfold ctR; rw [ho, hd, hh]; rfl
        rw [hE, hS]
        rw [hh, if_pos rfl] at KP
        obtain ⟨p, hp⟩ : ∃ p, p = lo cmpS n s.files := ⟨_, rfl⟩
        rw [← hp] at KP
        have hnn : ¬ ((p : Int) < 0) := by omega
        have KB := Lib.hid (fun (w2 : World) (hb : Below w.heap.size w w2) => burns_any (HH.out.below hb) hm)
        unfold ptr BnPost at KB
        clear h ho hh hd hE hS hp hk
        by_cases hz : s.fuse = some 0
        · have hbb : bnB s = false := decide_eq_false (not_not_intro hz)
          rw [hbb] at KB
          rw [show goE s = 5 from if_pos hz, show goR s ⟨n, true, []⟩ (cutF n s.files) = bnS s from if_pos hz]
          clear hz
          go_enter Try.func15, Try.ntmps15
          go_wp2_with (first
            | (go_at_call 38; go_loud (refine KN.out.mono ?_; rintro e w1 ⟨rfl, rfl⟩))
            | (go_at_call 43; go_loud (refine KP.out.mono ?_; rintro e w2 ⟨rfl, hb2⟩; have HB2 := Lib.hid hb2; clear hb2))
            | (go_at_call 41; go_loud (
               refine (KB.out _ HB2.out).mono ?_
               rintro e w5 ⟨rfl, hr, hf⟩
               have HP5 := Lib.hid (RfPost.lift (Fr.of HB2.out) (show RfPost w2 base T LA (bnS s) (.returned (.int .i64 5)) (.returned (.int .i64 5)) w5 from ⟨rfl, LA, ⟨_, _, _, _, _, _, _, _, hr⟩, hf, LNew.refl _ _⟩))
               clear hr hf)))
          go_ret
          exact HP5.out
        have hbb : bnB s = true := decide_eq_true hz
        rw [hbb] at KB
        obtain ⟨e1, e2, e3, e4, e5⟩ := bn_same s
        have hwb : (bnS s).writes ≤ 900 := by rw [e5]; exact hwr
        obtain ⟨nx, hnx⟩ : ∃ nx, nx = cutF n s.files := ⟨_, rfl⟩
        rw [← hnx]
        have HNX := Lib.hid hnx
        rw [show goE s = 0 from if_neg hz, show goR s ⟨n, true, []⟩ nx = { bnS s with files := nx, loose := (bnS s).loose ++ [⟨n, true, []⟩], writes := (bnS s).writes + 1 } by
          unfold goR
          rw [if_neg hz, e4, e5]]
        obtain ⟨q, hq⟩ : ∃ q, q = nx.length := ⟨_, rfl⟩
        have HQ := Lib.hid hq
        clear e1 e2 e3 e4 e5 hz hnx hq
        go_enter Try.func15, Try.ntmps15
        go_upto_region 9 with (first
            | (go_at_call 38; go_loud (refine KN.out.mono ?_; rintro e w1 ⟨rfl, rfl⟩))
            | (go_at_call 43; go_loud (refine KP.out.mono ?_; rintro e w2 ⟨rfl, hb2⟩; have HB2 := Lib.hid hb2; clear hb2))
            | (go_at_call 41; go_loud (
               refine (KB.out _ HB2.out).mono ?_
               rintro e w5 ⟨rfl, hr, hf⟩
               have HB5 := Lib.hid hr
               have HFR := Lib.hid hf
               clear hr hf c0 c1 c2 c3 c4 c5 c6)))
        clear KB KN KP
        have HBS0 := Lib.hid (show base ≤ w5.heap.size from Nat.le_trans hbase (Nat.le_trans HB2.out.size HFR.out.size))
        have KX := Lib.hid (cut_any (w := w5) (cap := nc) (ps := s.files) n (by omega) HKK.out.files.srt ((HH.out.files.kp (Kp.below HB2.out (Nat.le_refl _))).kp ((HH.out.below HB2.out).kp HFR.out)))
        unfold DnPost at KX
        rw [← HNX.out, ← HQ.out] at KX
        obtain ⟨c0, c1, c2, c3, c4, c5, c6, cf⟩ := HB5.out.cells rfl
        clear cf
        go_upto_region 10 with (go_at_call 44; go_loud (
           refine KX.out.mono ?_
           rintro e w7 ⟨A3, k3, rfl, hk3, hf3, hw3⟩
           have HF5 := Lib.hid hf3
           have HB7 := Lib.hid hw3
           have HBN := Lib.hid (HB5.out.below hw3)
           clear hf3 hw3 c0 c1 c2 c3 c4 c5 c6
           obtain ⟨c0, c1, c2, c3, c4, c5, c6, cf⟩ := HBN.out.cells rfl
           have f1 := cf 1
           clear cf))
        clear KX c0 c1 c2 c3 c4 c5 c6 f1
        have HBS := Lib.hid (Nat.le_trans HBS0.out HB7.out.size)
        have HBX := Lib.hid (show leftV (bnS s).fuse = leftV (bnS s).fuse from rfl)
        obtain ⟨rs, hrl, hro, hrd⟩ := HBN.out.loose
        obtain ⟨W5, hW5⟩ : ∃ W5, W5 = w7.setCell ⟨T, 1, none⟩ (.slice A3 q k3) := ⟨_, rfl⟩
        have HR5 := Lib.hid (show Row W5 T 60 _ by rw [hW5]; exact HBN.out.head.stored 1 (.slice A3 q k3))
        have HO5 := Lib.hid (show W5.ownsRow base 64 3 (.slice LA ln lc) ln (cc rs) by rw [hW5]; exact hro.kept (setCell_grown w7 ⟨T, 1, none⟩ (.slice A3 q k3)) (.inr (own_no hro HBN.out.head)))
        have HB5 := Lib.hid (show base ≤ W5.heap.size by rw [hW5]; simpa [World.setCell] using HBS.out)
        have HP := Lib.hid (fun (w6 : World) (v : Value) (o : Obj) h6 g6 hv z hz => Rf.wrote (w6 := w6) (r := ⟨n, true, ⟨none, 0, []⟩⟩) (v := v) (o := o) HBN.out hrl hro hrd ⟨ByT.nil _ _, Nat.le_refl _⟩ HF5.out hk3 h6 g6 hv z hz)
        rw [← hW5] at HP
        obtain ⟨c0, c1, c2, c3, c4, c5, c6, cf⟩ := HBN.out.cells rfl
        have f1 := cf 1
        clear cf hrl hro hrd
        skip
        rw [← hW5]
        clear c0 c1 c2 c3 c4 c5 c6 f1 hW5
        have q3 : W5.cell? { block := T, off := 3 } = some (.slice LA ln lc) := HR5.out.cell 3
        go_wp2_with (at_builtin; go_loud (
           refine wpList_rows elC rfl _ _ rfl rfl rfl (HO5.out.alloc (.cells #[.string n, .bool true, .slice none 0 0] 64)) (src_new W5 #[.string n, .bool true, .slice none 0 0] 64 (m := 1) (sz := 3) rfl rfl (fun u hu => by simp at hu; rcases hu with rfl | rfl | rfl <;> rfl)) (by unfold maxLen; omega) (by omega) (by have := HB5.out; simp; omega) ?_
           intro v6 w6 hown6 hg6 hv6
           have HP6 := Lib.hid (HP.out w6 v6 (.cells #[.string n, .bool true, .slice none 0 0] 64) hown6 hg6 hv6)
           have hb6 : w6.heap[T]? = (W5.alloc (.cells #[.string n, .bool true, .slice none 0 0] 64)).heap[T]? := hg6.block T (by have := HR5.out.lt; simp; omega) (fun e => own_no (HO5.out.alloc (.cells #[.string n, .bool true, .slice none 0 0] 64)) (HR5.out.alloc (.cells #[.string n, .bool true, .slice none 0 0] 64)) e.symm)
           have hR6 := (HR5.out.alloc (.cells #[.string n, .bool true, .slice none 0 0] 64)).same hb6
           have z3 : w6.cell? { block := T, off := 3 } = some (.slice LA ln lc) := hR6.cell 3
           have z6 : w6.cell? { block := T, off := 6 } = some (.int .i64 (bnS s).writes) := hR6.cell 6
           have zf3 : w6.frozen? { block := T, off := 3 } = false := hR6.frozen 3
           have zf6 : w6.frozen? { block := T, off := 6 } = false := hR6.frozen 6
           obtain ⟨A8, k8, rfl, hk8⟩ := RkR.own_slice hown6
           clear hb6 hR6 hown6 hg6 hv6 q3))
        go_ret
        exact RfPost.lift (fr_trans (fr_trans (Fr.of HB2.out) HFR.out) (Fr.of HB7.out)) (HP6.out _ (by omega))
end
end Go.Proofs.Ytefgcckdlebfaaa.RfW
