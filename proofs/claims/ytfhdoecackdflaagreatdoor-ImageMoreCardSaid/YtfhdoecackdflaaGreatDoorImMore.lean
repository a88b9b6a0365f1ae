/-
  Rows behind the rest are done to the box, whatever its form: the walk.
-/
import Derived.Test.YtfhdoecackdflaaGreatDoorImAw
import Derived.Test.YtfhdoecackdflaaGreatDoorBxH
import Derived.Deep.RegionHeld3
import Derived.Deep.DeepCutAuto
import Derived.Test.YtfhdoecackdflaaGreatDoorImT
import Derived.Test.YtfhdoecackdflaaGreatDoorImO
set_option linter.unusedVariables false
set_option linter.unusedSimpArgs false
namespace Go.Proofs.YtfhdoecackdflaaGreatDoor.ImMore
open Go.RowKit Go.Proofs.YtfhdoecackdflaaGreatDoor.BxD Go.Proofs.YtfhdoecackdflaaGreatDoor.BxKit Go.Proofs.YtfhdoecackdflaaGreatDoor.BxR Go.Proofs.YtfhdoecackdflaaGreatDoor.BxC Go.Proofs.YtfhdoecackdflaaGreatDoor.BxB Go.Proofs.YtfhdoecackdflaaGreatDoor.BxH Go.Proofs.YtfhdoecackdflaaGreatDoor.BxS Go.Proofs.YtfhdoecackdflaaGreatDoor.BxX Go.Proofs.YtfhdoecackdflaaGreatDoor.OlD Go.Proofs.YtfhdoecackdflaaGreatDoor.PtK Go.Proofs.YtfhdoecackdflaaGreatDoor.RwD Go.Proofs.YtfhdoecackdflaaGreatDoor.RwKit Go.Proofs.YtfhdoecackdflaaGreatDoor.RwRo Go.Proofs.YtfhdoecackdflaaGreatDoor.ImD Go.Proofs.YtfhdoecackdflaaGreatDoor.ImK Go.Proofs.YtfhdoecackdflaaGreatDoor.ImA Go.Proofs.YtfhdoecackdflaaGreatDoor.ImB Go.Proofs.YtfhdoecackdflaaGreatDoor.ImP Go.Proofs.YtfhdoecackdflaaGreatDoor.ImN Go.Proofs.YtfhdoecackdflaaGreatDoor.ImL Go.Proofs.YtfhdoecackdflaaGreatDoor.ImT Go.Proofs.YtfhdoecackdflaaGreatDoor.ImO
open Go.Proofs.YtfhdoecackdflaaGreatDoor.PkKit (BytesAt)

theorem form_k (x : Int) : ∃ k : Nat, (k = 1 ∨ k = 2 ∨ k = 3) ∧ wrap64 (1 + wrap64 ((IntKind.u64.wrap x).tmod 3)) = (k : Int) := by
  have h0 := wrap_u64_nonneg x
  generalize IntKind.u64.wrap x = y at h0
  have h1 : 0 ≤ y % 3 := Int.emod_nonneg _ (by decide)
  have h2 : y % 3 < 3 := Int.emod_lt_of_pos _ (by decide)
  rw [Int.tmod_eq_emod_of_nonneg h0]
  refine ⟨(1 + y % 3).toNat, by omega, ?_⟩
  unfold wrap64
  omega
theorem nw {w : World} {o : Obj} {b : Nat} (hb : b = w.heap.size) : (w.alloc o).heap[b]? = some o := by subst hb; exact heap_alloc_new w o
theorem od {w : World} {o : Obj} {b : Nat} {x : Obj} (h : w.heap[b]? = some x) : (w.alloc o).heap[b]? = some x := (heap_alloc_old _ _ (Array.getElem?_eq_some_iff.1 h).1).trans h
theorem dr {w : World} {b : Nat} {x : Obj} (h : w.heap[b]? = some x) : w.drew.heap[b]? = some x := h
theorem cell_bel {w w5 W : World} {c0 c1 c2 c3 c4 c5 : Value} {t : TypeId} (h : After w (.cells #[c0, c1, c2, c3, c4, c5] t) w5) (hb : Below w5.heap.size w5 W) : W.cell? { block := w.heap.size, off := 0 } = some c0 ∧ Below w5.heap.size w5 W := ⟨(h.go hb).box.1, hb⟩
theorem own_go {w W : World} {base e sz n : Nat} {v : Value} {xs : List Value} (h : w.ownsRow base e sz v n xs) (hb : Below w.heap.size w W) : W.ownsRow base e sz v n xs := BxC.own_block h fun g e => hb.block g (h.lt g e).2
theorem ne_blk {w : World} {base e sz n b : Nat} {v : Value} {xs : List Value} {cs : Array Value} {t : TypeId} {fr : Nat × Nat} (h : w.ownsRow base e sz v n xs) (hb : w.heap[b]? = some (.cells cs t fr)) (he : e ≠ t := by decide) : some b ≠ v.ownBlock := by
  intro hv
  rcases h.2 with ⟨rfl, _⟩ | ⟨g1, cap, cur, rfl, _, hg, _⟩
  · simp [Value.ownBlock] at hv
  · obtain rfl : b = g1 := by simpa [Value.ownBlock] using hv
    rw [hb] at hg
    injection hg with hg
    injection hg with _ h2
    exact he h2.symm
theorem blk_go {W w' : World} {base e sz n b : Nat} {v : Value} {xs : List Value} {cs : Array Value} {t : TypeId} {fr : Nat × Nat} (hg : W.grownBy w' v.ownBlock) (ho : W.ownsRow base e sz v n xs) (hb : W.heap[b]? = some (.cells cs t fr)) (he : e ≠ t := by decide) : w'.heap[b]? = some (.cells cs t fr) :=
  (hg.block b (Array.getElem?_eq_some_iff.1 hb).1 (ne_blk ho hb he)).trans hb
theorem empty_at {W : World} {base b : Nat} (h : W.heap[b]? = some (.cells #[] 46 (0, 0))) (hb : base ≤ b) : W.ownsRow base 46 11 (.slice (some ⟨b, 0, none⟩) 0 0) 0 (rc []) :=
  ⟨rfl, .inr ⟨b, 0, #[], rfl, hb, h, Nat.le_refl _, Nat.zero_le _, rfl, rfl⟩⟩
theorem rows_blk {w : World} {B n : Nat} {A : Option Addr} {l : List Row} (h : RowsAt w B A n l) (hn : 0 < n) : ∀ ad, A = some ad → ad.block < B := by
  intro ad e
  obtain ⟨ad', e', hlt, _⟩ := h.2.2 hn
  rw [e] at e'
  obtain rfl := Option.some.inj e'
  exact hlt
theorem src_bel {w w' : World} {A : Option Addr} {m sz B : Nat} {news : List Value} (h : Src w A m sz news) (hA : 0 < m → ∀ ad, A = some ad → ad.block < B) (hb : Below B w w') : Src w' A m sz news := by
  refine ⟨h.1, h.2.1, fun hm => ?_⟩
  obtain ⟨ad, e, hc⟩ := h.2.2 hm
  exact ⟨ad, e, fun j u hu => (hb.cell (by rw [add_block]; exact hA hm ad e)).trans (hc j u hu)⟩
theorem chain_below {w4 W0 : World} {P : Nat} (h : Below w4.heap.size w4 W0) (hP : w4.heap.size ≤ P) (c0 c1 c2 c3 c4 c5 : Value) : Below w4.heap.size w4 ((((((W0.setCell { block := P, off := 0 } c0).setCell { block := P, off := 1 } c1).setCell { block := P, off := 2 } c2).setCell { block := P, off := 3 } c3).setCell { block := P, off := 4 } c4).setCell { block := P, off := 5 } c5) :=
  (((((h.setCell hP _).setCell hP _).setCell hP _).setCell hP _).setCell hP _).setCell hP _
theorem Sb.zero {w wr : World} {Y : Nat} (hb : Below w.heap.size w wr) (hl : w.heap.size ≤ Y) (hz : wr.heap[Y]? = some (.cells #[.string ⟨#[]⟩, .int .i64 0, .int .i64 0, .int .i64 0, .slice none 0 0, .slice none 0 0] 25 (0, 0))) : Sb w wr Y noB none 0 0 none 0 0 :=
  ⟨hb, hl, hz, fun _ _ _ => ⟨RowAt.nil _ _ _ _ _, RowAt.nil _ _ _ _ _⟩, Nat.le_refl _, Nat.le_refl _⟩
/-- A box that a call told, in a block that was made before the call. -/
def Told (w w4 wx : World) (Y : Nat) (d : Box) : Prop := Below w4.heap.size w4 wx ∧ ∃ WA wn wc MA mn mc, Sb w wx Y d WA wn wc MA mn mc
theorem told_before {w w4 w5 : World} {Y lo : Nat} {d : Box} {WA MA : Option Addr} {wn wc mn mc : Nat} (hw4 : Below w.heap.size w w4) (hz : w5.heap[Y]? = some (.cells #[.string ⟨#[]⟩, .int .i64 0, .int .i64 0, .int .i64 0, .slice none 0 0, .slice none 0 0] 25 (0, 0))) (hY : w4.heap.size ≤ Y) (hlo : Y < lo) (h5 : Below w4.heap.size w4 w5) (hl : Lie lo w5.heap.size w5 WA wn d.words MA mn d.msgs) (h1 : wn ≤ wc) (h2 : mn ≤ mc) :
    Told w w4 (put6 w5 Y (.string d.id) (.int .i64 d.valid) (.int .i64 d.next) (.int .i64 d.high) (.slice WA wn wc) (.slice MA mn mc)) Y d :=
  ⟨chain_below h5 hY _ _ _ _ _ _, WA, wn, wc, MA, mn, mc, Sb.put (Sb.zero (hw4.trans (h5.mono hw4.size)) (Nat.le_trans hw4.size hY) hz) hl h1 h2 hlo (Nat.le_refl _) (fun _ _ _ => rfl)⟩
theorem told_after {w w4 w5 : World} {lo : Nat} {d : Box} {WA MA : Option Addr} {wn wc mn mc : Nat} (hw4 : Below w.heap.size w w4) (h5 : Below w4.heap.size w4 w5) (hl : Lie lo w5.heap.size w5 WA wn d.words MA mn d.msgs) (h1 : wn ≤ wc) (h2 : mn ≤ mc) :
    Told w w4 (w5.alloc (.cells #[.string d.id, .int .i64 d.valid, .int .i64 d.next, .int .i64 d.high, .slice WA wn wc, .slice MA mn mc] 25)) w5.heap.size d := by
  refine ⟨h5.alloc h5.size _, WA, wn, wc, MA, mn, mc, ?_⟩
  have hb : Below w.heap.size w w5 := hw4.trans (h5.mono hw4.size)
  refine ⟨hb.alloc hb.size _, hb.size, heap_alloc_new w5 _, fun w6 hs hk => ?_, h1, h2⟩
  obtain ⟨a, e⟩ := hl w6 (by simp at hs; omega) fun k _ hk1 => (hk k (by simp; omega) (by omega)).trans (Below.heap_alloc _ _ _ hk1)
  exact ⟨StrsAt.more a (by simp), MsgsAt.more e (by simp)⟩
/-- What a call of Whole takes: rows one behind the other in memory of the call's own. -/
theorem rows_own {w5 w7 : World} {base n m cp : Nat} {A : Option Addr} {rs rs' : List RRaw} {l l' : List Row} (h : w7.ownsRow base 46 11 (.slice A (n + m) cp) (n + m) (rc rs ++ rc rs')) (hn : n + m ≤ 140737488355328) (hk : RKeys w5 w5.heap.size rs) (hk' : RKeys w5 w5.heap.size rs') (e : rs.map RRaw.r = l) (e' : rs'.map RRaw.r = l') (hb : Below w5.heap.size w5 w7) : RowsAt w7 w7.heap.size A (n + m) (l ++ l') := by
  rw [← rc_append] at h
  have := rowsAt_own (B := w7.heap.size) h (fun g e => (h.lt g e).2) hn (RKeys.keep (w := w5) (B := w5.heap.size) (fun q hq => (List.mem_append.1 hq).elim (hk q) (hk' q)) hb.size (fun p hp => hb.cell hp))
  rwa [List.map_append, e, e'] at this
set_option maxHeartbeats 8000000 in
set_option maxRecDepth 100000 in
theorem walk {b : Box} {WA MA : Option Addr} {wn wcp mn mcp : Nat} {x z : Int} {A3 : Option Addr} {n3 c3 : Nat} {rl : List Row} {w : World} (ht : BxO.Tab w) (h1 : StrsAt w w.heap.size WA wn b.words) (h2 : MsgsAt w w.heap.size MA mn b.msgs) (hwc : wn ≤ wcp) (hmc : mn ≤ mcp) (z1 : b.id.size ≤ 140737488355328) (hl3 : RowsAt w w.heap.size A3 n3 rl) (hc3 : n3 ≤ c3) (hk3 : ∀ r ∈ rl, r.msg.keys.length ≤ 17592186044416) :
    Calls Tryz.prog 6 #[.int .i64 x, .int .i64 z, .agg #[.string b.id, .int .i64 b.valid, .int .i64 b.next, .int .i64 b.high, .slice WA wn wcp, .slice MA mn mcp], .slice A3 n3 c3] w fun e w' => e = .returned (.bool true) ∧ Below w.heap.size w w' := by
  have KH := fun o => heavy_any (bid := b.id) (bv := b.valid) (bn := b.next) (bh := b.high) (wc := wcp) (mc := mcp) (StrsAt.below h1 ((Below.refl _ w).alloc (Nat.le_refl _) o) (Nat.le_refl _)) (MsgsAt.below h2 ((Below.refl _ w).alloc (Nat.le_refl _) o) (Nat.le_refl _)) (by simp) (by simp) z1
  have KM := fun (wr : World) (h : After w (.cells #[.string b.id, .int .i64 b.valid, .int .i64 b.next, .int .i64 b.high, .slice WA wn wcp, .slice MA mn mcp] 25) wr) => ref_may (bid := b.id) (bv := b.valid) (bn := b.next) (bh := b.high) (wc := wcp) (mc := mcp) (StrsAt.below h1 h.below (Nat.le_refl _)) (MsgsAt.below h2 h.below (Nat.le_refl _)) h.below.size hwc
  have HAW := Lib.hid (fun (wr : World) (hb : Below w.heap.size w wr) => ImAw.awake (ht.below hb (Nat.le_refl _)))
  have HS := Lib.hid (After.start w (.cells #[.string b.id, .int .i64 b.valid, .int .i64 b.next, .int .i64 b.high, .slice WA wn wcp, .slice MA mn mcp] 25))
  have HX := Lib.hid h1
  have HM := Lib.hid h2
  have HT := Lib.hid ht
  have HWC := Lib.hid hwc
  have HMC := Lib.hid hmc
  have HL := Lib.hid hl3
  have HKF := Lib.hid hk3
  have HC3 := Lib.hid hc3
  clear hl3 hk3
  by_cases hn3 : n3 ≤ 20
  case neg =>
    have hn3' : 20 < (n3 : Int) := by omega
    clear h1 h2 ht hwc hmc KM
    rcases hv_or b.id b.words b.msgs with hh | ⟨hh, _, _, _⟩
    · simp only [hh] at KH
      have K1 := Lib.hid KH
      clear KH hh
      go_enter Tryz.func6, Tryz.ntmps6
      go_wp2_with fail
      refine (K1.out _).mono ?_
      rintro e w1 ⟨rfl, hb1⟩
      have HB := Lib.hid (HS.out.go hb1).below
      clear hb1
      go_wp2_with (go_at_call 9; refine (HAW.out _ HB.out).mono ?_; rintro e w9 ⟨rfl, hb9⟩)
      go_ret
      exact ⟨rfl, HB.out.trans (hb9.mono HB.out.size)⟩
    · simp only [hh] at KH
      have K1 := Lib.hid KH
      clear KH hh
      go_enter Tryz.func6, Tryz.ntmps6
      go_wp2_with fail
      refine (K1.out _).mono ?_
      rintro e w1 ⟨rfl, hb1⟩
      have HB := Lib.hid (HS.out.go hb1).below
      clear hb1
      go_wp2_with (go_at_call 9; refine (HAW.out _ HB.out).mono ?_; rintro e w9 ⟨rfl, hb9⟩)
      go_ret
      exact ⟨rfl, HB.out.trans (hb9.mono HB.out.size)⟩
  have hn3' : (n3 : Int) ≤ 20 := by omega
  clear h1 h2 ht hwc hmc
  rcases hv_or b.id b.words b.msgs with hh | ⟨hh, _, _, _⟩
  · simp only [hh] at KH
    have K1 := Lib.hid KH
    clear KH hh KM
    go_enter Tryz.func6, Tryz.ntmps6
    go_wp2_with fail
    refine (K1.out _).mono ?_
    rintro e w1 ⟨rfl, hb1⟩
    have HB := Lib.hid (HS.out.go hb1).below
    clear hb1
    go_wp2_with (go_at_call 9; refine (HAW.out _ HB.out).mono ?_; rintro e w9 ⟨rfl, hb9⟩)
    go_ret
    exact ⟨rfl, (HB.out).trans (hb9.mono (HB.out).size)⟩
  simp only [hh] at KH
  have K1 := Lib.hid KH
  clear KH hh
  obtain ⟨em, hem⟩ : ∃ em, em = mbE b := ⟨_, rfl⟩
  simp only [show mbE ⟨b.id, b.valid, b.next, b.high, b.words, b.msgs⟩ = mbE b from rfl, ← hem] at KM
  have K2 := Lib.hid KM
  clear KM
  by_cases he : em = 0
  case neg =>
    have hne : (em != 0) = true := by simpa using he
    clear he hem
    go_enter Tryz.func6, Tryz.ntmps6
    go_wp2_with fail
    refine (K1.out _).mono ?_
    rintro e w1 ⟨rfl, hb1⟩
    have HB := Lib.hid (HS.out.go hb1)
    obtain ⟨b0, b1, b2, b3, b4, b5⟩ := HB.out.box
    clear hb1
    go_wp2_with fail
    refine (K2.out _ HB.out).mono ?_
    rintro e w2 ⟨rfl, hb2⟩
    have HB2 := Lib.hid (HB.out.go hb2).below
    clear hb2
    go_wp2_with (go_at_call 9; refine (HAW.out _ HB2.out).mono ?_; rintro e w9 ⟨rfl, hb9⟩)
    go_ret
    exact ⟨rfl, (HB2.out).trans (hb9.mono (HB2.out).size)⟩
  subst he
  have HE := Lib.hid hem.symm
  clear hem
  go_enter Tryz.func6, Tryz.ntmps6
  go_wp2_with fail
  refine (K1.out _).mono ?_
  rintro e w1 ⟨rfl, hb1⟩
  have HB := Lib.hid (HS.out.go hb1)
  obtain ⟨b0, b1, b2, b3, b4, b5⟩ := HB.out.box
  clear hb1 K1 HS
  go_upto_region 3 with (go_at_call 8; go_loud (
     refine (K2.out _ HB.out).mono ?_
     rintro e w2 ⟨rfl, hb2⟩
     have HB2 := Lib.hid (HB.out.go hb2)
     clear hb2 b0 b1 b2 b3 b4 b5))
  obtain ⟨b0, b1, b2, b3, b4, b5⟩ := HB2.out.box
  clear K2 HB
  go_upto_region 4 with fail
  obtain ⟨k, hk3, hk⟩ := form_k x
  obtain ⟨j, hj3, hj⟩ := form_k z
  rw [hk, hj]
  have HK3 := Lib.hid hk3
  have HJ3 := Lib.hid hj3
  clear hk hk3 hj hj3
  have HI2 := Lib.hid (show Sb w w2 w.heap.size b WA wn wcp MA mn mcp from Sb.first rfl HB2.out HX.out HM.out HWC.out HMC.out)
  have KM := Lib.hid (make_sb HK3.out (HT.out.below HI2.out.bel (Nat.le_refl _)) HI2.out HE.out)
  go_upto_region 5 with (go_at_call 10; go_loud (
     refine KM.out.mono ?_
     rintro e w3 ⟨A, n, c, A2, n2, c2, rfl, hm3, hb3⟩
     have HB3 := Lib.hid (HB2.out.go hb3)
     have HI3 := Lib.hid (HI2.out.go hb3)
     have HX3 := Lib.hid hm3
     clear hm3 hb3 b0 b1 b2 b3 b4 b5))
  clear KM HB2 HI2
  have KM := Lib.hid (make_sb HJ3.out (HT.out.below HI3.out.bel (Nat.le_refl _)) HI3.out HE.out)
  obtain ⟨b0, b1, b2, b3, b4, b5⟩ := HB3.out.box
  go_upto_region 8 with (go_at_call 10; go_loud (
     refine KM.out.mono ?_
     rintro e w4 ⟨Y, yn, yc, Y2, yn2, yc2, rfl, hm4, hb4⟩
     have HB4 := Lib.hid (HB3.out.go hb4)
     have HX4 := Lib.hid (HX3.out.go hb4)
     have HY4 := Lib.hid hm4
     clear hm4 hb4 b0 b1 b2 b3 b4 b5))
  clear KM HB3 HX3 HI3 HX HM HWC HMC
  have hx2 : n2 ≤ 153 := by have h1 := HX4.out.rw_.len; have h2 := re_len (fmI_is k) HE.out; omega
  have hy2 : yn2 ≤ 153 := by have h1 := HY4.out.rw_.len; have h2 := re_len (fmI_is j) HE.out; omega
  obtain ⟨cx, hcx⟩ : ∃ cx, cx = (allG b rl).1 := ⟨_, rfl⟩
  obtain ⟨ce, hce⟩ : ∃ ce, ce = (allG b rl).2 := ⟨_, rfl⟩
  have hkx : ∀ (q : Nat), ∀ r ∈ re (fmI q) b ++ rl, r.msg.keys.length ≤ 17592186044416 := fun q r hr => by
    rcases List.mem_append.1 hr with hr | hr
    · have := re_keys HE.out r hr; omega
    · exact HKF.out r hr
  obtain ⟨b0, b1, b2, b3, b4, b5⟩ := HB4.out.box
  have kw := fun (wr : World) (B' : Nat) (A' : Option Addr) (c' : Nat) (hr : RowsAt wr B' A' (n2 + n3) (re (fmI k) b ++ rl)) (hB : B' ≤ wr.heap.size) (hb : Below w4.heap.size w4 wr) (hc' : n2 + n3 ≤ c') => whole_made HK3.out (b := b) (cp := c) (c2 := c') (HT.out.below (HB4.out.below.trans (hb.mono HB4.out.below.size)) (Nat.le_refl _)) HE.out ((HX4.out.by_.below hb (Nat.le_refl _)).more hb.size) (Nat.le_refl _) HX4.out.le1 (RowsAt.more hr hB) hc' (hkx k)
  simp only [whole_gen (fmI_is k) HE.out, ← hcx, ← hce] at kw
  have KW := Lib.hid kw
  have HCX := Lib.hid hcx
  have HCE := Lib.hid hce
  have HKX := Lib.hid hkx
  clear kw hcx hce hkx
  obtain ⟨rl', hrl, hrk, hsl⟩ := rows_raw (RowsAt.below HL.out HB4.out.below (Nat.le_refl _))
  have HEL := Lib.hid hrl
  have HKL := Lib.hid (RKeys.keep hrk HB4.out.below.size (fun _ _ => rfl))
  have HSL := Lib.hid hsl
  have HAL := Lib.hid (show 0 < n3 → ∀ ad, A3 = some ad → ad.block < w4.heap.size from fun h0 ad e => Nat.lt_of_lt_of_le (rows_blk HL.out h0 ad e) HB4.out.below.size)
  clear hrl hrk hsl
  obtain ⟨rs, hrs, hrk, hsr⟩ := rows_raw HX4.out.rw_
  have HEP := Lib.hid hrs
  have HKP := Lib.hid hrk
  have HSP := Lib.hid hsr
  have HAP := Lib.hid (show 0 < n2 → ∀ ad, A2 = some ad → ad.block < w4.heap.size from fun h0 => rows_blk HX4.out.rw_ h0)
  clear hrs hrk hsr
  go_cut [15, 16] (fun sp se wx => ∃ Y, sp = .pointer (some ⟨Y, 0, none⟩) ∧ se = .int .i64 ce ∧ Hid (Told w w4 wx Y cx))
  case first =>
    go_region_held3 (fun wr => wr.cell? { block := w.heap.size, off := 0 } = some (.string b.id) ∧ Below w4.heap.size w4 wr) (with_reducible first
        | exact ⟨b0, (Below.refl _ _).drew⟩ | exact hS6 | exact hS7 | exact hS8
        | exact cell_bel HB4.out (by (repeat (with_reducible first | exact Below.refl _ _ | exact X6.out | exact X7.out | exact X8.out | refine Below.drew ?_ | refine Below.alloc ?_ (by first | exact Nat.le_refl _ | omega | (simp; done) | (simp; omega)) _)); first | done | fail)
        | exact cell_bel HB4.out (chain_below X8.out (by first | exact Nat.le_refl _ | omega | (simp; done) | (simp; omega)) _ _ _ _ _ _)) (first
      | (go_at_call 11; go_loud (
         refine (KW.out _ w7.heap.size _ _ (RowsAt.below HA7.out (show Below w7.heap.size w7 _ from (by (repeat (with_reducible first | exact Below.refl _ _ | refine Below.drew ?_ | refine Below.alloc ?_ (by first | exact Nat.le_refl _ | omega | (simp; done) | (simp; omega)) _)); first | done | fail)) (Nat.le_refl _)) (by first | exact Nat.le_refl _ | omega | (simp; done) | (simp; omega)) (by (repeat (with_reducible first | exact Below.refl _ _ | exact X7.out | refine Below.drew ?_ | refine Below.alloc ?_ (by first | exact Nat.le_refl _ | omega | (simp; done) | (simp; omega)) _)); first | done | fail) hc7).mono ?_
         rintro e w8 ⟨WA8, wn8, wc8, MA8, mn8, mc8, rfl, hwc8, hmc8, hl8, hb8⟩
         have X8 := Lib.hid (Below.trans (show Below w4.heap.size w4 _ from (by (repeat (with_reducible first | exact Below.refl _ _ | exact X7.out | refine Below.drew ?_ | refine Below.alloc ?_ (by first | exact Nat.le_refl _ | omega | (simp; done) | (simp; omega)) _)); first | done | fail)) (hb8.mono (by first | exact Nat.le_refl _ | omega | (simp; done) | (simp; omega))))
         have hS8 := cell_bel HB4.out X8.out
         have hs8 := X8.out.size
         have hs8' := hb8.size
         try simp at hs8'
         first | (have HZ8 := Lib.hid (show w8.heap[w4.heap.size]? = some (.cells #[.string ⟨#[]⟩, .int .i64 0, .int .i64 0, .int .i64 0, .slice none 0 0, .slice none 0 0] 25 (0, 0)) from (hb8.block w4.heap.size (by first | exact Nat.le_refl _ | omega | (simp; done) | (simp; omega))).trans (by (repeat (with_reducible first | exact nw (by first | rfl | (simp; done) | (simp; omega)) | exact HZ7.out | refine dr ?_ | refine od ?_)); first | done | fail)); obtain ⟨z0, z1, z2, z3, z4, z5, zf⟩ := zcells6 HZ8.out; have f0 := zf 0; have f1 := zf 1; have f2 := zf 2; have f3 := zf 3; have f4 := zf 4; have f5 := zf 5; clear zf; have T8 := Lib.hid (told_before HB4.out.below HZ8.out (by first | exact Nat.le_refl _ | omega | (simp; done) | (simp; omega)) (by first | exact Nat.le_refl _ | omega | (simp; done) | (simp; omega)) X8.out hl8 hwc8 hmc8); unfold put6 at T8) | (have HZ8 := Lib.hid (show w8.heap[(w4.heap.size + 1)]? = some (.cells #[.string ⟨#[]⟩, .int .i64 0, .int .i64 0, .int .i64 0, .slice none 0 0, .slice none 0 0] 25 (0, 0)) from (hb8.block (w4.heap.size + 1) (by first | exact Nat.le_refl _ | omega | (simp; done) | (simp; omega))).trans (by (repeat (with_reducible first | exact nw (by first | rfl | (simp; done) | (simp; omega)) | exact HZ7.out | refine dr ?_ | refine od ?_)); first | done | fail)); obtain ⟨z0, z1, z2, z3, z4, z5, zf⟩ := zcells6 HZ8.out; have f0 := zf 0; have f1 := zf 1; have f2 := zf 2; have f3 := zf 3; have f4 := zf 4; have f5 := zf 5; clear zf; have T8 := Lib.hid (told_before HB4.out.below HZ8.out (by first | exact Nat.le_refl _ | omega | (simp; done) | (simp; omega)) (by first | exact Nat.le_refl _ | omega | (simp; done) | (simp; omega)) X8.out hl8 hwc8 hmc8); unfold put6 at T8) | (have HZ8 := Lib.hid (show w8.heap[w6.heap.size]? = some (.cells #[.string ⟨#[]⟩, .int .i64 0, .int .i64 0, .int .i64 0, .slice none 0 0, .slice none 0 0] 25 (0, 0)) from (hb8.block w6.heap.size (by first | exact Nat.le_refl _ | omega | (simp; done) | (simp; omega))).trans (by (repeat (with_reducible first | exact nw (by first | rfl | (simp; done) | (simp; omega)) | exact HZ7.out | refine dr ?_ | refine od ?_)); first | done | fail)); obtain ⟨z0, z1, z2, z3, z4, z5, zf⟩ := zcells6 HZ8.out; have f0 := zf 0; have f1 := zf 1; have f2 := zf 2; have f3 := zf 3; have f4 := zf 4; have f5 := zf 5; clear zf; have T8 := Lib.hid (told_before HB4.out.below HZ8.out (by first | exact Nat.le_refl _ | omega | (simp; done) | (simp; omega)) (by first | exact Nat.le_refl _ | omega | (simp; done) | (simp; omega)) X8.out hl8 hwc8 hmc8); unfold put6 at T8) | (have HZ8 := Lib.hid (show w8.heap[w7.heap.size]? = some (.cells #[.string ⟨#[]⟩, .int .i64 0, .int .i64 0, .int .i64 0, .slice none 0 0, .slice none 0 0] 25 (0, 0)) from (hb8.block w7.heap.size (by first | exact Nat.le_refl _ | omega | (simp; done) | (simp; omega))).trans (by (repeat (with_reducible first | exact nw (by first | rfl | (simp; done) | (simp; omega)) | exact HZ7.out | refine dr ?_ | refine od ?_)); first | done | fail)); obtain ⟨z0, z1, z2, z3, z4, z5, zf⟩ := zcells6 HZ8.out; have f0 := zf 0; have f1 := zf 1; have f2 := zf 2; have f3 := zf 3; have f4 := zf 4; have f5 := zf 5; clear zf; have T8 := Lib.hid (told_before HB4.out.below HZ8.out (by first | exact Nat.le_refl _ | omega | (simp; done) | (simp; omega)) (by first | exact Nat.le_refl _ | omega | (simp; done) | (simp; omega)) X8.out hl8 hwc8 hmc8); unfold put6 at T8) | (have T8 := Lib.hid (told_after HB4.out.below X8.out hl8 hwc8 hmc8))
         clear hb8 hl8
         dsimp only))
      | (show (if Region.wanted ⟨some 78, _, _, _, _, _⟩ _ = true then _ else _)
         go_loud (
         refine step_rows elR (base := w4.heap.size) (c := c2) rfl (.tmp 76) (.tmp 77) rfl rfl rfl (empty_at (by (repeat (with_reducible first | exact nw (by first | rfl | (simp; done) | (simp; omega)) | refine dr ?_ | refine od ?_)); first | done | fail) (by first | exact Nat.le_refl _ | omega | (simp; done) | (simp; omega))) (src_bel HSP.out HAP.out (by (repeat (with_reducible first | exact Below.refl _ _ | refine Below.drew ?_ | refine Below.alloc ?_ (by first | exact Nat.le_refl _ | omega | (simp; done) | (simp; omega)) _)); first | done | fail)) (by unfold maxLen; omega) (by omega) (by first | exact Nat.le_refl _ | omega | (simp; done) | (simp; omega)) ?_
         intro v1 w6 hown1 hg1 _
         have X6 := Lib.hid (Below.grown (show Below w4.heap.size w4 _ from (by (repeat (with_reducible first | exact Below.refl _ _ | refine Below.drew ?_ | refine Below.alloc ?_ (by first | exact Nat.le_refl _ | omega | (simp; done) | (simp; omega)) _)); first | done | fail)) hg1 (by first | exact Nat.le_refl _ | omega | (simp; done) | (simp; omega)) (fun k e => by have e2 := Option.some.inj e; dsimp only at e2; omega))
         have hS6 := cell_bel HB4.out X6.out
         rw [Nat.zero_add, show rc [] ++ rc rs = rc rs from List.nil_append _] at hown1
         have HO1 := Lib.hid hown1
         have hs6 := X6.out.size
         have hs6' := hg1.size
         try simp at hs6'
         first | (have hgE : World.grownBy _ w6 (some w4.heap.size) := hg1) | (have hgE : World.grownBy _ w6 (some (w4.heap.size + 1)) := hg1)
         first | (have HZ6 := Lib.hid (show w6.heap[w4.heap.size]? = some (.cells #[.string ⟨#[]⟩, .int .i64 0, .int .i64 0, .int .i64 0, .slice none 0 0, .slice none 0 0] 25 (0, 0)) from (hgE.block w4.heap.size (by first | exact Nat.le_refl _ | omega | (simp; done) | (simp; omega)) (fun e => by have := Option.some.inj e; omega)).trans (by (repeat (with_reducible first | exact nw (by first | rfl | (simp; done) | (simp; omega)) | refine dr ?_ | refine od ?_)); first | done | fail))) | (have HZ6 := Lib.hid (show w6.heap[(w4.heap.size + 1)]? = some (.cells #[.string ⟨#[]⟩, .int .i64 0, .int .i64 0, .int .i64 0, .slice none 0 0, .slice none 0 0] 25 (0, 0)) from (hgE.block (w4.heap.size + 1) (by first | exact Nat.le_refl _ | omega | (simp; done) | (simp; omega)) (fun e => by have := Option.some.inj e; omega)).trans (by (repeat (with_reducible first | exact nw (by first | rfl | (simp; done) | (simp; omega)) | refine dr ?_ | refine od ?_)); first | done | fail))) | skip
         clear hown1 hg1 hgE
         dsimp only))
      | (show (if Region.wanted ⟨some 80, _, _, _, _, _⟩ _ = true then _ else _)
         go_loud (
         refine step_rows elR (base := w4.heap.size) (c := c3) rfl (.tmp 78) (.tmp 79) rfl rfl rfl (own_go HO1.out (show Below w6.heap.size w6 _ from (by (repeat (with_reducible first | exact Below.refl _ _ | refine Below.drew ?_ | refine Below.alloc ?_ (by first | exact Nat.le_refl _ | omega | (simp; done) | (simp; omega)) _)); first | done | fail))) (src_bel HSL.out HAL.out (by (repeat (with_reducible first | exact Below.refl _ _ | exact X6.out | refine Below.drew ?_ | refine Below.alloc ?_ (by first | exact Nat.le_refl _ | omega | (simp; done) | (simp; omega)) _)); first | done | fail)) (by unfold maxLen; omega) (by omega) (by first | exact Nat.le_refl _ | omega | (simp; done) | (simp; omega)) ?_
         intro v2 w7 hown2 hg2 _
         obtain ⟨A7, c7, rfl, hc7⟩ := own_slice hown2
         have X7 := Lib.hid (Below.grown (show Below w4.heap.size w4 _ from (by (repeat (with_reducible first | exact Below.refl _ _ | exact X6.out | refine Below.drew ?_ | refine Below.alloc ?_ (by first | exact Nat.le_refl _ | omega | (simp; done) | (simp; omega)) _)); first | done | fail)) hg2 (by first | exact Nat.le_refl _ | omega | (simp; done) | (simp; omega)) (fun k e => (HO1.out.lt k e).1))
         have hS7 := cell_bel HB4.out X7.out
         have HA7 := Lib.hid (rows_own hown2 (by omega) HKP.out HKL.out HEP.out HEL.out X7.out)
         have hs7 := X7.out.size
         have hs7' := hg2.size
         try simp at hs7'
         first | (have HZ7 := Lib.hid (show w7.heap[w4.heap.size]? = some (.cells #[.string ⟨#[]⟩, .int .i64 0, .int .i64 0, .int .i64 0, .slice none 0 0, .slice none 0 0] 25 (0, 0)) from blk_go hg2 (own_go HO1.out (show Below w6.heap.size w6 _ from (by (repeat (with_reducible first | exact Below.refl _ _ | refine Below.drew ?_ | refine Below.alloc ?_ (by first | exact Nat.le_refl _ | omega | (simp; done) | (simp; omega)) _)); first | done | fail))) (by (repeat (with_reducible first | exact nw (by first | rfl | (simp; done) | (simp; omega)) | exact HZ6.out | refine dr ?_ | refine od ?_)); first | done | fail))) | (have HZ7 := Lib.hid (show w7.heap[(w4.heap.size + 1)]? = some (.cells #[.string ⟨#[]⟩, .int .i64 0, .int .i64 0, .int .i64 0, .slice none 0 0, .slice none 0 0] 25 (0, 0)) from blk_go hg2 (own_go HO1.out (show Below w6.heap.size w6 _ from (by (repeat (with_reducible first | exact Below.refl _ _ | refine Below.drew ?_ | refine Below.alloc ?_ (by first | exact Nat.le_refl _ | omega | (simp; done) | (simp; omega)) _)); first | done | fail))) (by (repeat (with_reducible first | exact nw (by first | rfl | (simp; done) | (simp; omega)) | exact HZ6.out | refine dr ?_ | refine od ?_)); first | done | fail))) | (have HZ7 := Lib.hid (show w7.heap[w6.heap.size]? = some (.cells #[.string ⟨#[]⟩, .int .i64 0, .int .i64 0, .int .i64 0, .slice none 0 0, .slice none 0 0] 25 (0, 0)) from blk_go hg2 (own_go HO1.out (show Below w6.heap.size w6 _ from (by (repeat (with_reducible first | exact Below.refl _ _ | refine Below.drew ?_ | refine Below.alloc ?_ (by first | exact Nat.le_refl _ | omega | (simp; done) | (simp; omega)) _)); first | done | fail))) (by (repeat (with_reducible first | exact nw (by first | rfl | (simp; done) | (simp; omega)) | exact HZ6.out | refine dr ?_ | refine od ?_)); first | done | fail))) | skip
         clear hown2 hg2
         dsimp only)))
    all_goals
      go_step
      go_step
      go_meet
      exact ⟨_, rfl, rfl, T8.out⟩
  case rest =>
    obtain ⟨Q, rfl, rfl, HT1⟩ := hcut
    obtain ⟨w5, hw5⟩ : ∃ w5, w5 = wc := ⟨_, rfl⟩
    subst hw5
    obtain ⟨hb5, WA5, wn5, wc5, MA5, mn5, mc5, hs5⟩ := HT1.out
    have HB5 := Lib.hid (HB4.out.go hb5)
    have HQ5 := Lib.hid hs5
    have HY5 := Lib.hid (HY4.out.go hb5)
    have HKL5 := Lib.hid (RKeys.keep HKL.out hb5.size (fun p hp => hb5.cell hp))
    have HSL5 := Lib.hid (src_bel HSL.out HAL.out hb5)
    have HAL5 := Lib.hid (show 0 < n3 → ∀ ad, A3 = some ad → ad.block < w5.heap.size from fun h0 ad e => Nat.lt_of_lt_of_le (HAL.out h0 ad e) hb5.size)
    clear KW HEP HKP HSP HAP HKL HSL HAL HT1 hs5 hb5 HX4 HY4 HB4 b0 b1 b2 b3 b4 b5
    have HKL := HKL5
    have HSL := HSL5
    have HAL := HAL5
    clear HKL5 HSL5 HAL5
    have kw := fun (wr : World) (B' : Nat) (A' : Option Addr) (c' : Nat) (hr : RowsAt wr B' A' (yn2 + n3) (re (fmI j) b ++ rl)) (hB : B' ≤ wr.heap.size) (hb : Below w5.heap.size w5 wr) (hc' : yn2 + n3 ≤ c') => whole_made HJ3.out (b := b) (cp := yc) (c2 := c') (HT.out.below (HB5.out.below.trans (hb.mono HB5.out.below.size)) (Nat.le_refl _)) HE.out ((HY5.out.by_.below hb (Nat.le_refl _)).more hb.size) (Nat.le_refl _) HY5.out.le1 (RowsAt.more hr hB) hc' (HKX.out j)
    simp only [whole_gen (fmI_is j) HE.out, ← HCX.out, ← HCE.out] at kw
    have KW := Lib.hid kw
    clear kw
    obtain ⟨rs, hrs, hrk, hsr⟩ := rows_raw HY5.out.rw_
    have HEP := Lib.hid hrs
    have HKP := Lib.hid hrk
    have HSP := Lib.hid hsr
    have HAP := Lib.hid (show 0 < yn2 → ∀ ad, Y2 = some ad → ad.block < w5.heap.size from fun h0 => rows_blk HY5.out.rw_ h0)
    clear hrs hrk hsr
    obtain ⟨b0, b1, b2, b3, b4, b5⟩ := HB5.out.box
    go_upto_region 9 with fail
    go_cut [17, 18] (fun sp se wx => ∃ Y, sp = .pointer (some ⟨Y, 0, none⟩) ∧ se = .int .i64 ce ∧ Hid (Told w w5 wx Y cx))
    case first =>
      go_region_held3 (fun wr => wr.cell? { block := w.heap.size, off := 0 } = some (.string b.id) ∧ Below w5.heap.size w5 wr) (with_reducible first
          | exact ⟨b0, (Below.refl _ _).drew⟩ | exact hS6 | exact hS7 | exact hS8
          | exact cell_bel HB5.out (by (repeat (with_reducible first | exact Below.refl _ _ | exact X6.out | exact X7.out | exact X8.out | refine Below.drew ?_ | refine Below.alloc ?_ (by first | exact Nat.le_refl _ | omega | (simp; done) | (simp; omega)) _)); first | done | fail)
          | exact cell_bel HB5.out (chain_below X8.out (by first | exact Nat.le_refl _ | omega | (simp; done) | (simp; omega)) _ _ _ _ _ _)) (first
        | (go_at_call 11; go_loud (
           refine (KW.out _ w7.heap.size _ _ (RowsAt.below HA7.out (show Below w7.heap.size w7 _ from (by (repeat (with_reducible first | exact Below.refl _ _ | refine Below.drew ?_ | refine Below.alloc ?_ (by first | exact Nat.le_refl _ | omega | (simp; done) | (simp; omega)) _)); first | done | fail)) (Nat.le_refl _)) (by first | exact Nat.le_refl _ | omega | (simp; done) | (simp; omega)) (by (repeat (with_reducible first | exact Below.refl _ _ | exact X7.out | refine Below.drew ?_ | refine Below.alloc ?_ (by first | exact Nat.le_refl _ | omega | (simp; done) | (simp; omega)) _)); first | done | fail) hc7).mono ?_
           rintro e w8 ⟨WA8, wn8, wc8, MA8, mn8, mc8, rfl, hwc8, hmc8, hl8, hb8⟩
           have X8 := Lib.hid (Below.trans (show Below w5.heap.size w5 _ from (by (repeat (with_reducible first | exact Below.refl _ _ | exact X7.out | refine Below.drew ?_ | refine Below.alloc ?_ (by first | exact Nat.le_refl _ | omega | (simp; done) | (simp; omega)) _)); first | done | fail)) (hb8.mono (by first | exact Nat.le_refl _ | omega | (simp; done) | (simp; omega))))
           have hS8 := cell_bel HB5.out X8.out
           have hs8 := X8.out.size
           have hs8' := hb8.size
           try simp at hs8'
           first | (have HZ8 := Lib.hid (show w8.heap[w5.heap.size]? = some (.cells #[.string ⟨#[]⟩, .int .i64 0, .int .i64 0, .int .i64 0, .slice none 0 0, .slice none 0 0] 25 (0, 0)) from (hb8.block w5.heap.size (by first | exact Nat.le_refl _ | omega | (simp; done) | (simp; omega))).trans (by (repeat (with_reducible first | exact nw (by first | rfl | (simp; done) | (simp; omega)) | exact HZ7.out | refine dr ?_ | refine od ?_)); first | done | fail)); obtain ⟨z0, z1, z2, z3, z4, z5, zf⟩ := zcells6 HZ8.out; have f0 := zf 0; have f1 := zf 1; have f2 := zf 2; have f3 := zf 3; have f4 := zf 4; have f5 := zf 5; clear zf; have T8 := Lib.hid (told_before HB5.out.below HZ8.out (by first | exact Nat.le_refl _ | omega | (simp; done) | (simp; omega)) (by first | exact Nat.le_refl _ | omega | (simp; done) | (simp; omega)) X8.out hl8 hwc8 hmc8); unfold put6 at T8) | (have HZ8 := Lib.hid (show w8.heap[(w5.heap.size + 1)]? = some (.cells #[.string ⟨#[]⟩, .int .i64 0, .int .i64 0, .int .i64 0, .slice none 0 0, .slice none 0 0] 25 (0, 0)) from (hb8.block (w5.heap.size + 1) (by first | exact Nat.le_refl _ | omega | (simp; done) | (simp; omega))).trans (by (repeat (with_reducible first | exact nw (by first | rfl | (simp; done) | (simp; omega)) | exact HZ7.out | refine dr ?_ | refine od ?_)); first | done | fail)); obtain ⟨z0, z1, z2, z3, z4, z5, zf⟩ := zcells6 HZ8.out; have f0 := zf 0; have f1 := zf 1; have f2 := zf 2; have f3 := zf 3; have f4 := zf 4; have f5 := zf 5; clear zf; have T8 := Lib.hid (told_before HB5.out.below HZ8.out (by first | exact Nat.le_refl _ | omega | (simp; done) | (simp; omega)) (by first | exact Nat.le_refl _ | omega | (simp; done) | (simp; omega)) X8.out hl8 hwc8 hmc8); unfold put6 at T8) | (have HZ8 := Lib.hid (show w8.heap[w6.heap.size]? = some (.cells #[.string ⟨#[]⟩, .int .i64 0, .int .i64 0, .int .i64 0, .slice none 0 0, .slice none 0 0] 25 (0, 0)) from (hb8.block w6.heap.size (by first | exact Nat.le_refl _ | omega | (simp; done) | (simp; omega))).trans (by (repeat (with_reducible first | exact nw (by first | rfl | (simp; done) | (simp; omega)) | exact HZ7.out | refine dr ?_ | refine od ?_)); first | done | fail)); obtain ⟨z0, z1, z2, z3, z4, z5, zf⟩ := zcells6 HZ8.out; have f0 := zf 0; have f1 := zf 1; have f2 := zf 2; have f3 := zf 3; have f4 := zf 4; have f5 := zf 5; clear zf; have T8 := Lib.hid (told_before HB5.out.below HZ8.out (by first | exact Nat.le_refl _ | omega | (simp; done) | (simp; omega)) (by first | exact Nat.le_refl _ | omega | (simp; done) | (simp; omega)) X8.out hl8 hwc8 hmc8); unfold put6 at T8) | (have HZ8 := Lib.hid (show w8.heap[w7.heap.size]? = some (.cells #[.string ⟨#[]⟩, .int .i64 0, .int .i64 0, .int .i64 0, .slice none 0 0, .slice none 0 0] 25 (0, 0)) from (hb8.block w7.heap.size (by first | exact Nat.le_refl _ | omega | (simp; done) | (simp; omega))).trans (by (repeat (with_reducible first | exact nw (by first | rfl | (simp; done) | (simp; omega)) | exact HZ7.out | refine dr ?_ | refine od ?_)); first | done | fail)); obtain ⟨z0, z1, z2, z3, z4, z5, zf⟩ := zcells6 HZ8.out; have f0 := zf 0; have f1 := zf 1; have f2 := zf 2; have f3 := zf 3; have f4 := zf 4; have f5 := zf 5; clear zf; have T8 := Lib.hid (told_before HB5.out.below HZ8.out (by first | exact Nat.le_refl _ | omega | (simp; done) | (simp; omega)) (by first | exact Nat.le_refl _ | omega | (simp; done) | (simp; omega)) X8.out hl8 hwc8 hmc8); unfold put6 at T8) | (have T8 := Lib.hid (told_after HB5.out.below X8.out hl8 hwc8 hmc8))
           clear hb8 hl8
           dsimp only))
        | (show (if Region.wanted ⟨some 90, _, _, _, _, _⟩ _ = true then _ else _)
           go_loud (
           refine step_rows elR (base := w5.heap.size) (c := yc2) rfl (.tmp 88) (.tmp 89) rfl rfl rfl (empty_at (by (repeat (with_reducible first | exact nw (by first | rfl | (simp; done) | (simp; omega)) | refine dr ?_ | refine od ?_)); first | done | fail) (by first | exact Nat.le_refl _ | omega | (simp; done) | (simp; omega))) (src_bel HSP.out HAP.out (by (repeat (with_reducible first | exact Below.refl _ _ | refine Below.drew ?_ | refine Below.alloc ?_ (by first | exact Nat.le_refl _ | omega | (simp; done) | (simp; omega)) _)); first | done | fail)) (by unfold maxLen; omega) (by omega) (by first | exact Nat.le_refl _ | omega | (simp; done) | (simp; omega)) ?_
           intro v1 w6 hown1 hg1 _
           have X6 := Lib.hid (Below.grown (show Below w5.heap.size w5 _ from (by (repeat (with_reducible first | exact Below.refl _ _ | refine Below.drew ?_ | refine Below.alloc ?_ (by first | exact Nat.le_refl _ | omega | (simp; done) | (simp; omega)) _)); first | done | fail)) hg1 (by first | exact Nat.le_refl _ | omega | (simp; done) | (simp; omega)) (fun k e => by have e2 := Option.some.inj e; dsimp only at e2; omega))
           have hS6 := cell_bel HB5.out X6.out
           rw [Nat.zero_add, show rc [] ++ rc rs = rc rs from List.nil_append _] at hown1
           have HO1 := Lib.hid hown1
           have hs6 := X6.out.size
           have hs6' := hg1.size
           try simp at hs6'
           first | (have hgE : World.grownBy _ w6 (some w5.heap.size) := hg1) | (have hgE : World.grownBy _ w6 (some (w5.heap.size + 1)) := hg1)
           first | (have HZ6 := Lib.hid (show w6.heap[w5.heap.size]? = some (.cells #[.string ⟨#[]⟩, .int .i64 0, .int .i64 0, .int .i64 0, .slice none 0 0, .slice none 0 0] 25 (0, 0)) from (hgE.block w5.heap.size (by first | exact Nat.le_refl _ | omega | (simp; done) | (simp; omega)) (fun e => by have := Option.some.inj e; omega)).trans (by (repeat (with_reducible first | exact nw (by first | rfl | (simp; done) | (simp; omega)) | refine dr ?_ | refine od ?_)); first | done | fail))) | (have HZ6 := Lib.hid (show w6.heap[(w5.heap.size + 1)]? = some (.cells #[.string ⟨#[]⟩, .int .i64 0, .int .i64 0, .int .i64 0, .slice none 0 0, .slice none 0 0] 25 (0, 0)) from (hgE.block (w5.heap.size + 1) (by first | exact Nat.le_refl _ | omega | (simp; done) | (simp; omega)) (fun e => by have := Option.some.inj e; omega)).trans (by (repeat (with_reducible first | exact nw (by first | rfl | (simp; done) | (simp; omega)) | refine dr ?_ | refine od ?_)); first | done | fail))) | skip
           clear hown1 hg1 hgE
           dsimp only))
        | (show (if Region.wanted ⟨some 92, _, _, _, _, _⟩ _ = true then _ else _)
           go_loud (
           refine step_rows elR (base := w5.heap.size) (c := c3) rfl (.tmp 90) (.tmp 91) rfl rfl rfl (own_go HO1.out (show Below w6.heap.size w6 _ from (by (repeat (with_reducible first | exact Below.refl _ _ | refine Below.drew ?_ | refine Below.alloc ?_ (by first | exact Nat.le_refl _ | omega | (simp; done) | (simp; omega)) _)); first | done | fail))) (src_bel HSL.out HAL.out (by (repeat (with_reducible first | exact Below.refl _ _ | exact X6.out | refine Below.drew ?_ | refine Below.alloc ?_ (by first | exact Nat.le_refl _ | omega | (simp; done) | (simp; omega)) _)); first | done | fail)) (by unfold maxLen; omega) (by omega) (by first | exact Nat.le_refl _ | omega | (simp; done) | (simp; omega)) ?_
           intro v2 w7 hown2 hg2 _
           obtain ⟨A7, c7, rfl, hc7⟩ := own_slice hown2
           have X7 := Lib.hid (Below.grown (show Below w5.heap.size w5 _ from (by (repeat (with_reducible first | exact Below.refl _ _ | exact X6.out | refine Below.drew ?_ | refine Below.alloc ?_ (by first | exact Nat.le_refl _ | omega | (simp; done) | (simp; omega)) _)); first | done | fail)) hg2 (by first | exact Nat.le_refl _ | omega | (simp; done) | (simp; omega)) (fun k e => (HO1.out.lt k e).1))
           have hS7 := cell_bel HB5.out X7.out
           have HA7 := Lib.hid (rows_own hown2 (by omega) HKP.out HKL.out HEP.out HEL.out X7.out)
           have hs7 := X7.out.size
           have hs7' := hg2.size
           try simp at hs7'
           first | (have HZ7 := Lib.hid (show w7.heap[w5.heap.size]? = some (.cells #[.string ⟨#[]⟩, .int .i64 0, .int .i64 0, .int .i64 0, .slice none 0 0, .slice none 0 0] 25 (0, 0)) from blk_go hg2 (own_go HO1.out (show Below w6.heap.size w6 _ from (by (repeat (with_reducible first | exact Below.refl _ _ | refine Below.drew ?_ | refine Below.alloc ?_ (by first | exact Nat.le_refl _ | omega | (simp; done) | (simp; omega)) _)); first | done | fail))) (by (repeat (with_reducible first | exact nw (by first | rfl | (simp; done) | (simp; omega)) | exact HZ6.out | refine dr ?_ | refine od ?_)); first | done | fail))) | (have HZ7 := Lib.hid (show w7.heap[(w5.heap.size + 1)]? = some (.cells #[.string ⟨#[]⟩, .int .i64 0, .int .i64 0, .int .i64 0, .slice none 0 0, .slice none 0 0] 25 (0, 0)) from blk_go hg2 (own_go HO1.out (show Below w6.heap.size w6 _ from (by (repeat (with_reducible first | exact Below.refl _ _ | refine Below.drew ?_ | refine Below.alloc ?_ (by first | exact Nat.le_refl _ | omega | (simp; done) | (simp; omega)) _)); first | done | fail))) (by (repeat (with_reducible first | exact nw (by first | rfl | (simp; done) | (simp; omega)) | exact HZ6.out | refine dr ?_ | refine od ?_)); first | done | fail))) | (have HZ7 := Lib.hid (show w7.heap[w6.heap.size]? = some (.cells #[.string ⟨#[]⟩, .int .i64 0, .int .i64 0, .int .i64 0, .slice none 0 0, .slice none 0 0] 25 (0, 0)) from blk_go hg2 (own_go HO1.out (show Below w6.heap.size w6 _ from (by (repeat (with_reducible first | exact Below.refl _ _ | refine Below.drew ?_ | refine Below.alloc ?_ (by first | exact Nat.le_refl _ | omega | (simp; done) | (simp; omega)) _)); first | done | fail))) (by (repeat (with_reducible first | exact nw (by first | rfl | (simp; done) | (simp; omega)) | exact HZ6.out | refine dr ?_ | refine od ?_)); first | done | fail))) | skip
           clear hown2 hg2
           dsimp only)))
      all_goals
        go_step
        go_step
        go_meet
        exact ⟨_, rfl, rfl, T8.out⟩
    case rest =>
      obtain ⟨R, rfl, rfl, HT1⟩ := hcut
      obtain ⟨w6, hw6⟩ : ∃ w6, w6 = wc := ⟨_, rfl⟩
      subst hw6
      obtain ⟨hb6, WA6, wn6, wc6, MA6, mn6, mc6, hs6⟩ := HT1.out
      have HQ6 := Lib.hid (HQ5.out.go hb6)
      have HR6 := Lib.hid hs6
      clear KW HEP HKP HSP HAP HKL HSL HAL HT1 hs6 hb6 HY5 HB5 HQ5 b0 b1 b2 b3 b4 b5 HCX HCE HKX
      obtain ⟨q0, q1, q2, q3, q4, q5, _⟩ := six_at HQ6.out.blk
      obtain ⟨r0, r1, r2, r3, r4, r5, _⟩ := six_at HR6.out.blk
      have hee : (ce == ce) = true := by simp
      have KS := Lib.hid (refSame_any (bid := cx.id) (bv := cx.valid) (bn := cx.next) (bh := cx.high) (wc := wc5) (mc := mc5) (bid' := cx.id) (bv' := cx.valid) (bn' := cx.next) (bh' := cx.high) (wc' := wc6) (mc' := mc6) HQ6.out.ws HQ6.out.ms HR6.out.ws HR6.out.ms (Nat.le_refl _) (Nat.le_refl _) (Nat.le_refl _) (Nat.le_refl _))
      go_wp2_with (first
        | (go_at_call 12; go_loud (
           refine KS.out.mono ?_
           rintro e wb ⟨rfl, hbb⟩
           rw [eqX_eq rfl]
           have HBb := Lib.hid (HR6.out.go hbb).bel
           clear hbb q0 q1 q2 q3 q4 q5 r0 r1 r2 r3 r4 r5))
        | (go_at_call 9; go_loud (
           refine (HAW.out _ HBb.out).mono ?_
           rintro e wz ⟨rfl, hbz⟩
           have HBz := Lib.hid (HBb.out.trans (hbz.mono HBb.out.size))
           clear hbz)))
      go_ret
      exact ⟨rfl, HBz.out⟩
end Go.Proofs.YtfhdoecackdflaaGreatDoor.ImMore
