/-
  O1Pj + O2Pj + F3Pj
-/
import Derived.Test.YtchlbbndfhibgaaGreatDoorM9
import Derived.Test.YtchlbbndfhibgaaGreatDoorN2
import Derived.Test.YtchlbbndfhibgaaGreatDoorL1
import Derived.Test.YtchlbbndfhibgaaGreatDoorPtK
import Derived.Test.YtchlbbndfhibgaaGreatDoorN3
set_option linter.unusedVariables false
set_option linter.unusedSimpArgs false
namespace Go.Proofs.YtchlbbndfhibgaaGreatDoor.O1Pj
open Go.Proofs.YtchlbbndfhibgaaGreatDoor.PtK
open Go.RowKit Go.Proofs.YtchlbbndfhibgaaGreatDoor.BxD Go.Proofs.YtchlbbndfhibgaaGreatDoor.BxKit Go.Proofs.YtchlbbndfhibgaaGreatDoor.BxA Go.Proofs.YtchlbbndfhibgaaGreatDoor.BxR Go.Proofs.YtchlbbndfhibgaaGreatDoor.BxC Go.Proofs.YtchlbbndfhibgaaGreatDoor.OlD Go.Proofs.YtchlbbndfhibgaaGreatDoor.OlT Go.Proofs.YtchlbbndfhibgaaGreatDoor.OlU
open Go.Proofs.YtchlbbndfhibgaaGreatDoor.PtK (MBk MBk.cells)
open Go.Proofs.YtchlbbndfhibgaaGreatDoor.PkF (grown_set grown_trans)

theorem own_ne_blk {w : World} {base e sz n P : Nat} {v : Value} {xs : List Value} {cs : Array Value} {t : TypeId} {fr : Nat × Nat} (h : w.ownsRow base e sz v n xs) (hp : w.heap[P]? = some (.cells cs t fr)) (he : e ≠ t) : v.ownBlock ≠ some P := by
  intro hv
  rcases h.2 with ⟨rfl, _⟩ | ⟨g1, cap, cur, rfl, _, hg, _⟩
  · simp [Value.ownBlock] at hv
  · obtain rfl : g1 = P := by simpa [Value.ownBlock] using hv
    rw [hp] at hg
    injection hg with hg
    injection hg with _ h2
    exact he h2.symm
theorem mc_set7 : ∀ (l : List Raw) (i : Nat) (r : Raw), i < l.length →
    (((((((mc l).set (i * 7) (.int .i64 r.m.uid)).set (i * 7 + 1) (.int .i64 r.m.mod)).set (i * 7 + 2) (.int .i64 r.m.date)).set (i * 7 + 3) (.string r.m.id)).set (i * 7 + 4) (.int .i64 r.m.flags)).set (i * 7 + 5) (.slice r.K r.m.keys.length r.c)).set (i * 7 + 6) (.string r.m.text) = mc (l.set i r)
  | r0 :: l, 0, r, _ => by
    unfold mc
    rw [List.flatMap_cons, List.set_cons_zero, List.flatMap_cons]
    rfl
  | r0 :: l, i + 1, r, h => by
    have ih := mc_set7 l i r (by simpa using h)
    have e : ∀ f, (i + 1) * 7 + f = (cell7 r0).length + (i * 7 + f) := fun f => by simp [cell7]; omega
    have e0 : (i + 1) * 7 = (cell7 r0).length + i * 7 := by simp [cell7]; omega
    unfold mc at ih ⊢
    rw [List.flatMap_cons, List.set_cons_succ, List.flatMap_cons, ← ih]
    rw [e0]
    simp only [Nat.add_assoc]
    iterate 7 rw [List.set_append_right _ _ (Nat.le_add_right _ _), Nat.add_sub_cancel_left]
theorem mc_at {w : World} {base n g : Nat} {v : Value} {rs : List Raw} {k : Nat} {r : Raw} (h : w.ownsRow base 28 7 v n (mc rs)) (hv : v.ownBlock = some g) (hr : rs[k]? = some r) :
    w.cell? { block := g, off := k * 7 } = some (.int .i64 r.m.uid) ∧ w.cell? { block := g, off := k * 7 + 1 } = some (.int .i64 r.m.mod) ∧ w.cell? { block := g, off := k * 7 + 2 } = some (.int .i64 r.m.date) ∧ w.cell? { block := g, off := k * 7 + 3 } = some (.string r.m.id) ∧
      w.cell? { block := g, off := k * 7 + 4 } = some (.int .i64 r.m.flags) ∧ w.cell? { block := g, off := k * 7 + 5 } = some (.slice r.K r.m.keys.length r.c) ∧ w.cell? { block := g, off := k * 7 + 6 } = some (.string r.m.text) := by
  have c : ∀ f, f < 7 → ∀ u, (cell7 r)[f]? = some u → w.cell? ⟨g, k * 7 + f, none⟩ = some u := fun f hf u hu => own_cell h hv ((mc_get rs k f r hr hf).trans hu)
  exact ⟨c 0 (by decide) _ rfl, c 1 (by decide) _ rfl, c 2 (by decide) _ rfl, c 3 (by decide) _ rfl, c 4 (by decide) _ rfl, c 5 (by decide) _ rfl, c 6 (by decide) _ rfl⟩
/-- A message stored into a row. -/
def put7 (w : World) (g o : Nat) (r : Raw) : World :=
  ((((((w.setCell { block := g, off := o } (.int .i64 r.m.uid)).setCell { block := g, off := o + 1 } (.int .i64 r.m.mod)).setCell { block := g, off := o + 2 } (.int .i64 r.m.date)).setCell { block := g, off := o + 3 } (.string r.m.id)).setCell { block := g, off := o + 4 } (.int .i64 r.m.flags)).setCell { block := g, off := o + 5 } (.slice r.K r.m.keys.length r.c)).setCell { block := g, off := o + 6 } (.string r.m.text)
theorem put7_own {w : World} {base n g : Nat} {v : Value} {rs : List Raw} {k : Nat} {r : Raw} (h : w.ownsRow base 28 7 v n (mc rs)) (hv : v.ownBlock = some g) (hk : k < rs.length) : (put7 w g (k * 7) r).ownsRow base 28 7 v n (mc (rs.set k r)) := by
  rw [← mc_set7 rs k r hk]
  unfold put7
  exact own_set (own_set (own_set (own_set (own_set (own_set (own_set h hv _ _) hv _ _) hv _ _) hv _ _) hv _ _) hv _ _) hv _ _
theorem put7_grown (w : World) (g o : Nat) (r : Raw) : w.grownBy (put7 w g o r) (some g) := by
  unfold put7
  exact grown_trans (grown_trans (grown_trans (grown_trans (grown_trans (grown_trans (grown_set _) (grown_set _)) (grown_set _)) (grown_set _)) (grown_set _)) (grown_set _)) (grown_set _)

/-- What Project tells of a box that may be. -/
def ProjOut (b c : Box) (w : World) (e : Ending) (w' : World) : Prop :=
  ∃ A1 k1 A2 k2, e = .returned (.tuple #[.agg #[.string c.id, .int .i64 c.valid, .int .i64 c.next, .int .i64 c.high, .slice A1 c.words.length k1, .slice A2 c.msgs.length k2], .int .i64 0]) ∧ c.words.length ≤ k1 ∧ c.msgs.length ≤ k2 ∧ StrsAt w' w'.heap.size A1 c.words.length c.words ∧ MsgsAt w' w'.heap.size A2 c.msgs.length c.msgs ∧ Below w.heap.size w w'
/-- The box that is made of another one, message by message. -/
structure PJ (b : Box) (fm : Msg → Msg) (hi : Int) (w wr : World) (vw0 vm0 : Value) (O k wn : Nat) (A1 : Option Addr) (k1 kw : Nat) (A2 : Option Addr) (k2 mn : Nat) (rs : List Raw) : Prop where
  low : Below w.heap.size w wr
  hO : w.heap.size + 2 ≤ O
  b0 : wr.heap[w.heap.size]? = some (.cells #[.string b.id, .int .i64 b.valid, .int .i64 b.next, .int .i64 b.high, vw0, vm0] 25 (0, 0))
  res : wr.heap[w.heap.size + 1]? = some (.cells zbox 25 (0, 0))
  blk : wr.heap[O]? = some (.cells #[.string b.id, .int .i64 b.valid, .int .i64 b.next, .int .i64 hi, .slice A1 kw k1, .slice A2 mn k2] 25 (0, 0))
  ow : wr.ownsRow (w.heap.size + 2) 9 1 (.slice A1 wn k1) wn (b.words.map Value.string)
  om : wr.ownsRow (w.heap.size + 2) 28 7 (.slice A2 mn k2) mn (mc rs)
  rm : rs.map Raw.m = (b.msgs.take k).map fm ++ b.msgs.drop k
  ko : ∀ r ∈ rs, wr.ownsRow (w.heap.size + 2) 3 1 (.slice r.K r.m.keys.length r.c) r.m.keys.length (r.m.keys.map (Value.int .i64))
section
variable {b : Box} {fm : Msg → Msg} {hi : Int} {w wr w2 : World} {vw0 vm0 : Value} {O k wn k1 kw k2 mn : Nat} {A1 A2 : Option Addr} {rs : List Raw}
theorem PJ.lt (h : PJ b fm hi w wr vw0 vm0 O k wn A1 k1 kw A2 k2 mn rs) : O < wr.heap.size := (Array.getElem?_eq_some_iff.1 h.blk).1
theorem PJ.go (h : PJ b fm hi w wr vw0 vm0 O k wn A1 k1 kw A2 k2 mn rs) (hb : Below wr.heap.size wr w2) : PJ b fm hi w w2 vw0 vm0 O k wn A1 k1 kw A2 k2 mn rs := by
  have h1 := h.lt
  have h2 := h.hO
  exact ⟨h.low.trans (hb.mono h.low.size), h.hO, (hb.block _ (by omega)).trans h.b0, (hb.block _ (by omega)).trans h.res, (hb.block _ h1).trans h.blk, own_block h.ow fun g e => hb.block g (h.ow.lt g e).2, own_block h.om fun g e => hb.block g (h.om.lt g e).2, h.rm, fun r hr => own_block (h.ko r hr) fun g e => hb.block g ((h.ko r hr).lt g e).2⟩
theorem PJ.len (h : PJ b fm hi w wr vw0 vm0 O k wn A1 k1 kw A2 k2 mn rs) : rs.length = mn := by
  have := h.om.1
  rw [mc_length] at this
  omega
theorem PJ.cells (h : PJ b fm hi w wr vw0 vm0 O k wn A1 k1 kw A2 k2 mn rs) : wr.cell? { block := O, off := 0 } = some (.string b.id) ∧ wr.cell? { block := O, off := 1 } = some (.int .i64 b.valid) ∧ wr.cell? { block := O, off := 2 } = some (.int .i64 b.next) ∧ wr.cell? { block := O, off := 3 } = some (.int .i64 hi) ∧
    wr.cell? { block := O, off := 4 } = some (.slice A1 kw k1) ∧ wr.cell? { block := O, off := 5 } = some (.slice A2 mn k2) ∧ ∀ i, wr.frozen? { block := O, off := i } = false := by
  have c := fun o => cell_of_row wr O o _ _ _ h.blk
  exact ⟨(c 0).trans rfl, (c 1).trans rfl, (c 2).trans rfl, (c 3).trans rfl, (c 4).trans rfl, (c 5).trans rfl, fun i => by simp [World.frozen?, h.blk]⟩
theorem PJ.id0 (h : PJ b fm hi w wr vw0 vm0 O k wn A1 k1 kw A2 k2 mn rs) : wr.cell? { block := w.heap.size, off := 0 } = some (.string b.id) := (cell_of_row wr w.heap.size 0 _ _ _ h.b0).trans rfl
theorem PJ.set (h : PJ b fm hi w wr vw0 vm0 O k wn A1 k1 kw A2 k2 mn rs) (i : Nat) (v : Value) {hi' : Int} {kw' : Nat}
    (hv : (#[.string b.id, .int .i64 b.valid, .int .i64 b.next, .int .i64 hi, .slice A1 kw k1, .slice A2 mn k2] : Array Value).setIfInBounds i v = #[.string b.id, .int .i64 b.valid, .int .i64 b.next, .int .i64 hi', .slice A1 kw' k1, .slice A2 mn k2]) : PJ b fm hi' w (wr.setCell ⟨O, i, none⟩ v) vw0 vm0 O k wn A1 k1 kw' A2 k2 mn rs := by
  have h2 := h.hO
  refine ⟨h.low.setCell (by show w.heap.size ≤ O; omega) _, h2, (Below.heap_setCell _ _ _ _ (by show w.heap.size ≠ O; omega)).trans h.b0, (Below.heap_setCell _ _ _ _ (by show w.heap.size + 1 ≠ O; omega)).trans h.res, ?_,
    own_other h.ow (own_ne_blk h.ow h.blk (by decide)) _ _, own_other h.om (own_ne_blk h.om h.blk (by decide)) _ _, h.rm, fun r hr => own_other (h.ko r hr) (own_ne_blk (h.ko r hr) h.blk (by decide)) _ _⟩
  have := h.blk
  rw [← hv]
  simp [World.setCell, Array.getElem?_modify, this]
/-- A message stored. -/
theorem PJ.put {g : Nat} {m : Msg} {r : Raw} (h : PJ b fm hi w wr vw0 vm0 O k wn A1 k1 kw A2 k2 mn rs) (hv : (Value.slice A2 mn k2).ownBlock = some g) (hm : b.msgs[k]? = some m) (hr : r.m = fm m) (hk : k < mn)
    (hK : wr.ownsRow (w.heap.size + 2) 3 1 (.slice r.K r.m.keys.length r.c) r.m.keys.length (r.m.keys.map (Value.int .i64))) : PJ b fm hi w (put7 wr g (k * 7) r) vw0 vm0 O (k + 1) wn A1 k1 kw A2 k2 mn (rs.set k r) := by
  have h2 := h.hO
  have hl := h.len
  have hg := put7_grown wr g (k * 7) r
  have hgl := h.om.lt g hv
  have hb : ∀ (c : Nat) (cs : Array Value), wr.heap[c]? = some (.cells cs 25 (0, 0)) → (put7 wr g (k * 7) r).heap[c]? = some (.cells cs 25 (0, 0)) := fun c cs hc =>
    (hg.block c (Array.getElem?_eq_some_iff.1 hc).1 (fun e => own_ne_blk h.om hc (by decide) (by rw [hv, ← e]))).trans hc
  refine ⟨h.low.grown hg h.low.size (fun c e => by have := Option.some.inj e; omega), h2, hb _ _ h.b0, hb _ _ h.res, hb _ _ h.blk, own_block h.ow fun c e => hg.block c (h.ow.lt c e).2 fun e2 => own_ne h.ow h.om hv (by decide) (by rw [e, e2]), put7_own h.om hv (by omega), ?_, fun x hx => ?_⟩
  · rw [List.map_set, h.rm, hr]
    obtain ⟨hkl, rfl⟩ := List.getElem?_eq_some_iff.1 hm
    rw [List.take_succ_eq_append_getElem hkl, List.map_append, List.drop_eq_getElem_cons hkl, List.set_append_right _ _ (by simp; omega)]
    simp only [List.length_map, List.length_take, Nat.min_eq_left (Nat.le_of_lt hkl), Nat.sub_self, List.set_cons_zero, List.append_assoc, List.map_cons, List.map_nil]
    rfl
  · have hx2 : wr.ownsRow (w.heap.size + 2) 3 1 (.slice x.K x.m.keys.length x.c) x.m.keys.length (x.m.keys.map (Value.int .i64)) := by
      rcases List.mem_or_eq_of_mem_set hx with hx | rfl
      · exact h.ko x hx
      · exact hK
    exact own_block hx2 fun c e => hg.block c (hx2.lt c e).2 fun e2 => own_ne hx2 h.om hv (by decide) (by rw [e, e2])
end
theorem keys_le {ks : List Int} {n : Nat} (h : keysB ks n = true) : ks.length ≤ n := by
  obtain ⟨h2, h1⟩ := keysB_rise h
  have : ∀ (l : List Int) (a : Int), (∀ k ∈ l, a ≤ k ∧ k < (n : Int)) → l.Pairwise (· < ·) → (l.length : Int) ≤ max 0 ((n : Int) - a) := by
    intro l
    induction l with
    | nil => intro a _ _; simp; omega
    | cons x l ih =>
      intro a ha hp
      rw [List.pairwise_cons] at hp
      have hx := ha x (by simp)
      have := ih (x + 1) (fun k hk => ⟨by have := hp.1 k hk; omega, (ha k (by simp [hk])).2⟩) hp.2
      rw [List.length_cons]
      push_cast
      omega
  have := this ks 0 h1 h2
  omega
theorem set_blk {wr : World} {L : Nat} {u md d fl : Int} {id tx : ByteArray} {K : Option Addr} {kn kc : Nat} {u' md' d' fl' : Int} {id' tx' : ByteArray} {K' : Option Addr} {kn' kc' : Nat} (h : MBk wr L u md d id fl K kn kc tx) (i : Nat) (v : Value)
    (hv : (#[.int .i64 u, .int .i64 md, .int .i64 d, .string id, .int .i64 fl, .slice K kn kc, .string tx] : Array Value).setIfInBounds i v = #[.int .i64 u', .int .i64 md', .int .i64 d', .string id', .int .i64 fl', .slice K' kn' kc', .string tx']) : MBk (wr.setCell ⟨L, i, none⟩ v) L u' md' d' id' fl' K' kn' kc' tx' := by
  unfold MBk at *
  rw [← hv]
  simp [World.setCell, Array.getElem?_modify, h]
theorem free_blk {wr : World} {L : Nat} {u md d fl : Int} {id tx : ByteArray} {K : Option Addr} {kn kc : Nat} (h : MBk wr L u md d id fl K kn kc tx) (i : Nat) : wr.frozen? { block := L, off := i } = false := by unfold MBk at h; simp [World.frozen?, h]
theorem lt_blk {wr : World} {L : Nat} {u md d fl : Int} {id tx : ByteArray} {K : Option Addr} {kn kc : Nat} (h : MBk wr L u md d id fl K kn kc tx) : L < wr.heap.size := (Array.getElem?_eq_some_iff.1 h).1
theorem filt_snoc {ks : List Int} {j : Nat} {x : Int} (h : ks[j]? = some x) : (ks.take (j + 1)).filter (fun k => decide (k < 32)) = (ks.take j).filter (fun k => decide (k < 32)) ++ (if x < 32 then [x] else []) := by
  obtain ⟨hl, rfl⟩ := List.getElem?_eq_some_iff.1 h
  rw [List.take_succ_eq_append_getElem hl, List.filter_append]
  congr 1
  by_cases hx : ks[j] < 32
  · rw [if_pos hx, List.filter_cons_of_pos (by simpa using hx), List.filter_nil]
  · rw [if_neg hx, List.filter_cons_of_neg (by simpa using hx), List.filter_nil]
set_option maxHeartbeats 4000000 in
set_option maxRecDepth 100000 in
theorem project_any {w : World} {b : Box} {WA MA : Option Addr} {wn wc mn mc0 B : Nat} (ht : BxO.Tab w) (hx : StrsAt w B WA wn b.words) (hm : MsgsAt w B MA mn b.msgs) (hwc : wn ≤ wc) (hB : B ≤ w.heap.size) (h0 : mbE b = 0) :
    Calls Tryz.prog 24 #[.int .i64 1, .agg #[.string b.id, .int .i64 b.valid, .int .i64 b.next, .int .i64 b.high, .slice WA wn wc, .slice MA mn mc0]] w (ProjOut b (pb false b) w) := by
  have G := OlP.good_of h0
  have HG := Lib.hid G
  have P0 := Lib.hid (PI.start b.id b.valid b.next b.high w (.slice WA wn wc) (.slice MA mn mc0))
  have HX := Lib.hid hx
  have HM := Lib.hid hm
  have HT := Lib.hid ht
  have H0 := Lib.hid h0
  have hwl : wn ≤ 64 := by have := hx.len; have := G.wl; omega
  have hml : mn ≤ 60 := by have := hm.len; have := G.ml; omega
  have hids := G.ids
  clear hx hm ht h0 G
  go_enter Tryz.func24, Tryz.ntmps24
  go_upto_region 1 with fail
  generalize (World.alloc (World.alloc w _) _) = w1 at P0 ⊢
  have hs1 := P0.out.size
  have km := BxB.ref_may (bid := b.id) (bv := b.valid) (bn := b.next) (bh := b.high) (mc := mc0) (StrsAt.below HX.out P0.out.bel hB) (MsgsAt.below HM.out P0.out.bel hB) (by omega) hwc
  rw [show mbE ⟨b.id, b.valid, b.next, b.high, b.words, b.msgs⟩ = 0 from H0.out] at km
  have KM := Lib.hid km
  clear km
  obtain ⟨c0, c1, c2, c3, c4, c5⟩ := P0.out.cells
  go_upto_region 3 with (go_at_call 11; go_loud (
     refine KM.out.mono ?_
     rintro e w2 ⟨rfl, hb2⟩
     have P2 := Lib.hid (P0.out.go hb2)
     clear hb2 c0 c1 c2 c3 c4 c5))
  clear KM P0
  have hs2 := P2.out.size
  have KC := Lib.hid (BxCq.copyBox_any (bid := b.id) (bv := b.valid) (bn := b.next) (bh := b.high) (wc := wc) (mcp := mc0) (StrsAt.below HX.out P2.out.bel hB) (MsgsAt.below HM.out P2.out.bel hB) (by omega) (by omega) (by omega) (fun m hm => by
    have h1 := keys_le (OlP.mm_parts (HG.out.ms m hm).1).2.2.2.2.2.1
    have := HG.out.wl
    omega))
  obtain ⟨c0, c1, c2, c3, c4, c5⟩ := P2.out.cells
  go_upto_region 4 with (go_at_call 61; go_loud (
     refine KC.out.mono ?_
     rintro e w3 ⟨vw, vm, rs, rfl, hb3, ow, om, rm, ko⟩
     obtain ⟨A1, k1, rfl, hk1⟩ := own_slice ow
     obtain ⟨A2, k2, rfl, hk2⟩ := own_slice om
     have P3 := Lib.hid (P2.out.go hb3)
     have OW := Lib.hid ow
     have OM := Lib.hid om
     have RM := Lib.hid rm
     have KO := Lib.hid ko
     clear hb3 ow om rm ko c0 c1 c2 c3 c4 c5))
  clear KC
  have J0 := Lib.hid (show PJ b (pm false b.id) b.high w (w3.alloc (.cells #[.string b.id, .int .i64 b.valid, .int .i64 b.next, .int .i64 b.high, .slice A1 wn k1, .slice A2 mn k2] 25)) (.slice WA wn wc) (.slice MA mn mc0) w3.heap.size 0 wn A1 k1 wn A2 k2 mn rs from by
    have hb := (Below.refl w3.heap.size w3).alloc (Nat.le_refl _) (.cells #[.string b.id, .int .i64 b.valid, .int .i64 b.next, .int .i64 b.high, .slice A1 wn k1, .slice A2 mn k2] 25)
    have hp := P3.out.go hb
    exact ⟨hp.bel, P3.out.size, hp.blk, hp.res, heap_alloc_new w3 _, own_base (OW.out.alloc _) hs2, own_base (OM.out.alloc _) hs2, by simpa using RM.out, fun r hr => own_base ((KO.out r hr).1.alloc _) hs2⟩)
  obtain ⟨O, hO⟩ : ∃ O, O = w3.heap.size := ⟨_, rfl⟩
  rw [← hO] at J0 ⊢
  clear hO P3 OW OM RM KO
  generalize (World.alloc w3 _) = w4 at J0 ⊢
  obtain ⟨d0, d1, d2, d3, d4, d5, df⟩ := J0.out.cells
  have f4 := df 4
  obtain ⟨kw, hkw⟩ : ∃ kw, kw = min wn 32 := ⟨_, rfl⟩
  have hmin : (if (32 : Int) < (wn : Int) then (32 : Int) else (wn : Int)) = (kw : Int) := by split <;> omega
  have hmin2 : min (wn : Int) 32 = (kw : Int) := by omega
  have hkww : kw ≤ wn := by omega
  have hkwc : kw ≤ k1 := by omega
  have HKW := Lib.hid hkw
  clear hkw df
  go_upto_region 7 with fail
  have J1 := Lib.hid (J0.out.set 4 (.slice A1 kw k1) rfl)
  clear J0 d0 d1 d2 d3 d4 d5 f4 hmin hmin2
  generalize (World.setCell w4 _ _) = w5 at J1 ⊢
  obtain ⟨d0, d1, d2, d3, d4, d5, df⟩ := J1.out.cells
  have f3 := df 3
  clear df
  go_upto_region 9 with fail
  have J2 := Lib.hid (J1.out.set 3 (.int .i64 1) rfl)
  clear J1 d0 d1 d2 d3 d4 d5 f3
  generalize (World.setCell w5 _ _) = w6 at J2 ⊢
  obtain ⟨d0, d1, d2, d3, d4, d5, df⟩ := J2.out.cells
  clear df
  go_wp2_with fail
  clear d0 d1 d2 d3 d4 d5
  go_loopw [43] (fun s43 wr => ∃ (k : Nat) (rs' : List Raw), k ≤ mn ∧ s43 = .int .i64 k ∧ Hid (PJ b (pm false b.id) 1 w wr (.slice WA wn wc) (.slice MA mn mc0) O k wn A1 k1 kw A2 k2 mn rs')) (fun s43 _ => mn - (intOf s43).toNat)
  case atStart => exact ⟨0, rs, Nat.zero_le _, rfl, J2⟩
  case round =>
    clear J2
    obtain ⟨k, rs', hk, rfl, J⟩ := hrel
    obtain ⟨wo, rfl⟩ : ∃ wo, wo = wr := ⟨_, rfl⟩
    by_cases hlt : k < mn
    · have hl := J.out.len
      obtain ⟨g, cap, hA, _, _⟩ := own_form J.out.om (by omega)
      injection hA with hA1 hA2 hA3
      subst hA1 hA3
      have hr := List.getElem?_eq_getElem (show k < rs'.length by omega)
      generalize rs'[k] = r at hr
      have hmk : b.msgs[k]? = some r.m := by
        have h1 := congrArg (fun l => l[k]?) J.out.rm
        simp only [List.getElem?_map, hr, Option.map_some] at h1
        rw [List.getElem?_append_right (by rw [List.length_map, List.length_take]; omega), List.getElem?_drop] at h1
        have hkl : k ≤ b.msgs.length := by have := HM.out.len; omega
        simp only [List.length_map, List.length_take, Nat.min_eq_left hkl, Nat.sub_self, Nat.add_zero] at h1
        exact h1.symm
      have hko := J.out.ko r (List.mem_of_getElem? hr)
      obtain ⟨⟨u, md, d, id, fl, ks, tx⟩, K, kc⟩ := r
      obtain ⟨a0, a1, a2, a3, a4, a5, a6⟩ := mc_at J.out.om rfl hr
      simp only at a0 a1 a2 a3 a4 a5 a6 hko
      obtain ⟨p1, p2, p3, p4, p5, p6, p7⟩ := OlP.mm_parts (HG.out.ms _ (List.mem_of_getElem? hmk)).1
      have hkn := keys_le p6
      simp only at p1 p2 p3 p5 hkn
      have hkn2 : ks.length ≤ 64 := by have := HG.out.wl; omega
      obtain ⟨kn, hknl⟩ : ∃ kn, kn = ks.length := ⟨_, rfl⟩
      rw [← hknl] at a5 hko hkn hkn2
      have HKL := Lib.hid hknl
      have HMK := Lib.hid hmk
      have HR := Lib.hid hr
      have HKO := Lib.hid hko
      have hJO := J.out.lt
      have hlow := J.out.low.size
      clear p4 p6 p7 hmk hr hko hknl
      go_upto_region 12 with fail
      have HA7 := Lib.hid ((Below.refl wo.heap.size wo).alloc (Nat.le_refl _) (.cells #[.int .i64 u, .int .i64 md, .int .i64 d, .string id, .int .i64 fl, .slice K kn kc, .string tx] 28))
      have HC7 := Lib.hid (show MBk (wo.alloc (.cells #[.int .i64 u, .int .i64 md, .int .i64 d, .string id, .int .i64 fl, .slice K kn kc, .string tx] 28)) wo.heap.size u md d id fl K kn kc tx from heap_alloc_new wo _)
      obtain ⟨L, hL⟩ : ∃ L, L = wo.heap.size := ⟨_, rfl⟩
      rw [← hL] at HC7 ⊢
      have HL := Lib.hid hL
      clear a0 a1 a2 a3 a4 a5 a6 hL
      generalize (World.alloc wo _) = w7 at HA7 HC7 ⊢
      have q1 := free_blk HC7.out 1
      have m1 := HC7.out.cells.2.1
      go_upto_region 14 with fail
      have HC8 := Lib.hid (set_blk HC7.out 1 (.int .i64 1) rfl)
      have HB8 := Lib.hid (show Below wo.heap.size wo (w7.setCell ⟨L, 1, none⟩ (.int .i64 1)) from HA7.out.setCell (by show wo.heap.size ≤ L; have := HL.out; omega) _)
      clear q1 m1 HC7 HA7
      generalize (World.setCell w7 _ _) = w8 at HC8 HB8 ⊢
      have KO := Lib.hid (BxO.refOwn_any (id := b.id) (u := u) (HT.out.below (J.out.low.trans (HB8.out.mono hlow)) (Nat.le_refl _)) (by omega) (by omega))
      have m0 := HC8.out.cells.1
      have i0 := (HB8.out.cell (p := { block := w.heap.size, off := 0 }) (by show w.heap.size < _; have := J.out.hO; omega)).trans J.out.id0
      obtain ⟨T, hT⟩ : ∃ T, T = ownT b.id u := ⟨_, rfl⟩
      rw [← hT] at KO
      have HT2 := Lib.hid hT
      clear hT
      go_upto_region 15 with (go_at_call 62; go_loud (
         refine KO.out.mono ?_
         rintro e w9 ⟨rfl, hb9⟩
         have HC9 := Lib.hid (HC8.out.keep (hb9.block L (lt_blk HC8.out)))
         have HB9 := Lib.hid (HB8.out.trans (hb9.mono HB8.out.size))
         clear hb9 m0 i0
         have q3 := free_blk HC9.out 3
         have m3 := HC9.out.cells.2.2.2.1))
      have HC10 := Lib.hid (set_blk HC9.out 3 (.string T) rfl)
      have HB10 := Lib.hid (show Below wo.heap.size wo (w9.setCell ⟨L, 3, none⟩ (.string T)) from HB9.out.setCell (by show wo.heap.size ≤ L; have := HL.out; omega) _)
      clear q3 m3 HC9 HB9 KO HC8 HB8
      generalize (World.setCell w9 _ _) = w10 at HC10 HB10 ⊢
      have HI := Lib.hid (intsAt_own (own_block HKO.out fun g e => HB10.out.block g (HKO.out.lt g e).2) (by omega))
      have m5 := HC10.out.cells.2.2.2.2.2.1
      go_wp2_with fail
      clear m5
      go_loopw [9, 60] (fun s9 s60 wv => ∃ (v : Value) (j n : Nat), s9 = v ∧ j ≤ kn ∧ s60 = .int .i64 j ∧ Hid (wv.ownsRow w10.heap.size 3 1 v n (((ks.take j).filter fun k => decide (k < 32)).map (Value.int .i64))) ∧ Hid (Below w10.heap.size w10 wv) ∧ n ≤ j ∧ Hid (n = ((ks.take j).filter fun k => decide (k < 32)).length)) (fun _ s60 _ => kn - (intOf s60).toNat)
      case atStart => exact ⟨_, 0, 0, rfl, by omega, rfl, World.ownsRow_nil _ _ _ _, Below.refl _ _, Nat.le_refl _, rfl⟩
      case round =>
        obtain ⟨v, j, n, rfl, hj, rfl, HO, HB, hn, HN⟩ := hrel
        obtain ⟨A3, c3, rfl, hc3⟩ := own_slice HO.out
        by_cases hjl : j < kn
        · obtain ⟨ad, x, rfl, e1, qx⟩ := IntsAt.at_ HI.out HB.out (Nat.le_refl _) hjl
          have hsn := filt_snoc e1
          have HSZ := Lib.hid HB.out.size
          clear e1
          by_cases h32 : x < 32
          · rw [if_pos h32] at hsn
            have HK := Lib.hid hsn
            clear hsn
            go_wp2_with (at_builtin; go_loud (
               refine wpList_rows elI rfl _ _ rfl rfl rfl (HO.out.alloc _) (src_new wr #[.int .i64 x] 3 (m := 1) rfl rfl (by intro u hu; simp at hu; subst hu; rfl)) (by unfold maxLen; omega) (by omega) (by have := HSZ.out; simp; omega) ?_
               intro v3 w3 hown3 hg3 _
               have HO3 := Lib.hid (show w3.ownsRow w10.heap.size 3 1 v3 (n + 1) (((ks.take (j + 1)).filter fun k => decide (k < 32)).map (Value.int .i64)) by rw [HK.out, List.map_append]; exact hown3)
               have HB3 := Lib.hid ((HB.out.alloc HSZ.out _).grown hg3 (by have := HSZ.out; simp; omega) (fun g e => (HO.out.lt g e).1))
               have HN3 := Lib.hid (show n + 1 = ((ks.take (j + 1)).filter fun k => decide (k < 32)).length by rw [HK.out, List.length_append, ← HN.out]; rfl)
               clear hown3 hg3))
            go_roundw
            case rel => exact ⟨v3, j + 1, n + 1, rfl, by omega, by go_num, HO3, HB3, by omega, HN3⟩
            case measure => simp [intOf]; omega
          · rw [if_neg h32, List.append_nil] at hsn
            have HK := Lib.hid hsn
            clear hsn
            have h32' : (32 : Int) ≤ x := by omega
            go_wp2_with fail
            go_roundw
            case rel => exact ⟨_, j + 1, n, rfl, by omega, by go_num, by rw [HK.out]; exact HO, HB, by omega, by rw [HK.out]; exact HN⟩
            case measure => simp [intOf]; omega
        · obtain rfl : kn = j := by omega
          have hfl : ks.take kn = ks := by rw [HKL.out]; exact List.take_length
          rw [hfl] at HO HN
          obtain ⟨F, hF⟩ : ∃ F, F = ks.filter (fun k => decide (k < 32)) := ⟨_, rfl⟩
          rw [← hF] at HO HN
          have hnF := HN.out
          subst hnF
          have HF := Lib.hid hF
          clear hF hfl
          have HC11 := Lib.hid (HC10.out.keep (HB.out.block L (lt_blk HC10.out)))
          have HB11 := Lib.hid (HB10.out.trans (HB.out.mono HB10.out.size))
          have q5 := free_blk HC11.out 5
          have m5 := HC11.out.cells.2.2.2.2.2.1
          go_upto_region 23 with fail
          have HC12 := Lib.hid (set_blk HC11.out 5 (.slice A3 F.length c3) rfl)
          have HB12 := Lib.hid (show Below wo.heap.size wo (wr.setCell ⟨L, 5, none⟩ (.slice A3 F.length c3)) from HB11.out.setCell (by show wo.heap.size ≤ L; have := HL.out; omega) _)
          have HO12 := Lib.hid (own_other HO.out (own_ne_blk HO.out HC11.out (by decide)) 5 (.slice A3 F.length c3))
          have hs10 := HB10.out.size
          clear q5 m5 HC11 HB11 HO HB HC10 HB10 HN HI
          generalize (World.setCell wr _ _) = w12 at HC12 HB12 HO12 ⊢
          have J12 := Lib.hid (J.out.go HB12.out)
          obtain ⟨m0, m1, m2, m3, m4, m5, m6⟩ := HC12.out.cells
          obtain ⟨a0, a1, a2, a3, a4, a5, a6⟩ := mc_at J12.out.om rfl HR.out
          have ff := own_free J12.out.om (g := g) rfl
          have f0 := ff (k * 7)
          have f1 := ff (k * 7 + 1)
          have f2 := ff (k * 7 + 2)
          have f3 := ff (k * 7 + 3)
          have f4 := ff (k * 7 + 4)
          have f5 := ff (k * 7 + 5)
          have f6 := ff (k * 7 + 6)
          have d5 := J12.out.cells.2.2.2.2.2.1
          have JN := Lib.hid (J12.out.put (r := ⟨⟨u, 1, d, T, fl, F, tx⟩, A3, c3⟩) (g := g) rfl HMK.out (by rw [HT2.out, HF.out]; rfl) hlt (own_base HO12.out (by have := J.out.hO; omega)))
          clear ff
          go_wp2_with fail
          go_roundw
          case rel => exact ⟨k + 1, _, by omega, by go_num, JN⟩
          case measure => simp [intOf]; omega
    · obtain rfl : mn = k := by omega
      obtain ⟨d0, d1, d2, d3, d4, d5, df⟩ := J.out.cells
      obtain ⟨z0, z1, z2, z3, z4, z5, zf⟩ := zcells6 J.out.res
      have f0 := zf 0
      have f1 := zf 1
      have f2 := zf 2
      have f3 := zf 3
      have f4 := zf 4
      have f5 := zf 5
      clear zf df
      go_wp2_with fail
      obtain ⟨W, hW, p0, p1, p2, p3, p4, p5, hWg⟩ := ret6 J.out.res (.string b.id) (.int .i64 b.valid) (.int .i64 b.next) (.int .i64 1) (.slice A1 kw k1) (.slice A2 mn k2)
      rw [← hW]
      refine bodyPost_ret (v := .tuple #[.agg #[.string b.id, .int .i64 b.valid, .int .i64 b.next, .int .i64 1, .slice A1 kw k1, .slice A2 mn k2], .int .i64 0]) (by simp [results, Tryz.results24, go_sem, p0, p1, p2, p3, p4, p5]) rfl ?_
      have hwln := HX.out.len
      have hmln := HM.out.len
      have e1 : (pb false b).words.length = kw := by show (b.words.take 32).length = kw; rw [List.length_take, HKW.out]; omega
      have e2 : (pb false b).msgs.length = mn := by show (b.msgs.map _).length = mn; rw [List.length_map]; exact hmln
      have hrm : rs'.map Raw.m = (pb false b).msgs := by
        rw [J.out.rm, List.take_of_length_le (by omega), List.drop_of_length_le (by omega), List.append_nil]
        rfl
      have keep : ∀ {ty sz k : Nat} {x : Value} {xs : List Value}, wo.ownsRow (w.heap.size + 2) ty sz x k xs → W.ownsRow (w.heap.size + 2) ty sz x k xs := fun {_ _ _ _ _} ho =>
        ho.kept hWg (.inr (fun e2 => by have := (ho.lt _ e2).1; omega))
      have hws := strsAt_own (keep J.out.ow) (by omega) (fun x hx => by have := (atB_size (OlP.wordsB_at HG.out.ws x hx)).2; omega)
      have htk := RowAt.take hws (k := kw) hkww
      have hgm := OlP.pb_good (cg := false) HG.out
      have hms := msgsAt_own (keep J.out.om) (by omega) (fun r hr => by
        have hm : r.m ∈ (pb false b).msgs := by rw [← hrm]; exact List.mem_map_of_mem hr
        obtain ⟨q1, q2, q3, q4, q5, q6, q7⟩ := OlP.mm_parts (hgm.ms _ hm).1
        have h1 := keys_le q6
        have h2 := hgm.wl
        have h3 := (atB_size q4).2
        obtain ⟨A9, c9, e9, h9⟩ := own_slice (J.out.ko r hr)
        injection e9 with e1 e2 e3
        exact ⟨intsAt_own (keep (J.out.ko r hr)) (by omega), by omega, by omega, by omega⟩)
      rw [hrm] at hms
      refine ⟨A1, k1, A2, k2, by rw [e1, e2]; rfl, by omega, by omega, ?_, by rw [e2]; exact hms, J.out.low.grown hWg J.out.low.size (fun k e => by have : w.heap.size + 1 = k := Option.some.inj e; omega)⟩
      rw [e1]
      have e3 : (pb false b).words = b.words.take kw := by
        show b.words.take 32 = b.words.take kw
        by_cases h32 : wn ≤ 32
        · rw [List.take_of_length_le (by omega), List.take_of_length_le (by have := HKW.out; omega)]
        · have : kw = 32 := by have := HKW.out; omega
          rw [this]
      rw [e3]
      exact htk
end Go.Proofs.YtchlbbndfhibgaaGreatDoor.O1Pj

namespace Go.Proofs.YtchlbbndfhibgaaGreatDoor.O2Pj
open Go.Proofs.YtchlbbndfhibgaaGreatDoor.PtK
open Go.RowKit Go.Proofs.YtchlbbndfhibgaaGreatDoor.BxD Go.Proofs.YtchlbbndfhibgaaGreatDoor.BxKit Go.Proofs.YtchlbbndfhibgaaGreatDoor.BxA Go.Proofs.YtchlbbndfhibgaaGreatDoor.BxR Go.Proofs.YtchlbbndfhibgaaGreatDoor.BxC Go.Proofs.YtchlbbndfhibgaaGreatDoor.OlD Go.Proofs.YtchlbbndfhibgaaGreatDoor.OlT Go.Proofs.YtchlbbndfhibgaaGreatDoor.OlU
open Go.Proofs.YtchlbbndfhibgaaGreatDoor.PtK (MBk MBk.cells)
open Go.Proofs.YtchlbbndfhibgaaGreatDoor.PkF (grown_set grown_trans)

theorem own_ne_blk {w : World} {base e sz n P : Nat} {v : Value} {xs : List Value} {cs : Array Value} {t : TypeId} {fr : Nat × Nat} (h : w.ownsRow base e sz v n xs) (hp : w.heap[P]? = some (.cells cs t fr)) (he : e ≠ t) : v.ownBlock ≠ some P := by
  intro hv
  rcases h.2 with ⟨rfl, _⟩ | ⟨g1, cap, cur, rfl, _, hg, _⟩
  · simp [Value.ownBlock] at hv
  · obtain rfl : g1 = P := by simpa [Value.ownBlock] using hv
    rw [hp] at hg
    injection hg with hg
    injection hg with _ h2
    exact he h2.symm
theorem mc_set7 : ∀ (l : List Raw) (i : Nat) (r : Raw), i < l.length →
    (((((((mc l).set (i * 7) (.int .i64 r.m.uid)).set (i * 7 + 1) (.int .i64 r.m.mod)).set (i * 7 + 2) (.int .i64 r.m.date)).set (i * 7 + 3) (.string r.m.id)).set (i * 7 + 4) (.int .i64 r.m.flags)).set (i * 7 + 5) (.slice r.K r.m.keys.length r.c)).set (i * 7 + 6) (.string r.m.text) = mc (l.set i r)
  | r0 :: l, 0, r, _ => by
    unfold mc
    rw [List.flatMap_cons, List.set_cons_zero, List.flatMap_cons]
    rfl
  | r0 :: l, i + 1, r, h => by
    have ih := mc_set7 l i r (by simpa using h)
    have e : ∀ f, (i + 1) * 7 + f = (cell7 r0).length + (i * 7 + f) := fun f => by simp [cell7]; omega
    have e0 : (i + 1) * 7 = (cell7 r0).length + i * 7 := by simp [cell7]; omega
    unfold mc at ih ⊢
    rw [List.flatMap_cons, List.set_cons_succ, List.flatMap_cons, ← ih]
    rw [e0]
    simp only [Nat.add_assoc]
    iterate 7 rw [List.set_append_right _ _ (Nat.le_add_right _ _), Nat.add_sub_cancel_left]
theorem mc_at {w : World} {base n g : Nat} {v : Value} {rs : List Raw} {k : Nat} {r : Raw} (h : w.ownsRow base 28 7 v n (mc rs)) (hv : v.ownBlock = some g) (hr : rs[k]? = some r) :
    w.cell? { block := g, off := k * 7 } = some (.int .i64 r.m.uid) ∧ w.cell? { block := g, off := k * 7 + 1 } = some (.int .i64 r.m.mod) ∧ w.cell? { block := g, off := k * 7 + 2 } = some (.int .i64 r.m.date) ∧ w.cell? { block := g, off := k * 7 + 3 } = some (.string r.m.id) ∧
      w.cell? { block := g, off := k * 7 + 4 } = some (.int .i64 r.m.flags) ∧ w.cell? { block := g, off := k * 7 + 5 } = some (.slice r.K r.m.keys.length r.c) ∧ w.cell? { block := g, off := k * 7 + 6 } = some (.string r.m.text) := by
  have c : ∀ f, f < 7 → ∀ u, (cell7 r)[f]? = some u → w.cell? ⟨g, k * 7 + f, none⟩ = some u := fun f hf u hu => own_cell h hv ((mc_get rs k f r hr hf).trans hu)
  exact ⟨c 0 (by decide) _ rfl, c 1 (by decide) _ rfl, c 2 (by decide) _ rfl, c 3 (by decide) _ rfl, c 4 (by decide) _ rfl, c 5 (by decide) _ rfl, c 6 (by decide) _ rfl⟩
/-- A message stored into a row. -/
def put7 (w : World) (g o : Nat) (r : Raw) : World :=
  ((((((w.setCell { block := g, off := o } (.int .i64 r.m.uid)).setCell { block := g, off := o + 1 } (.int .i64 r.m.mod)).setCell { block := g, off := o + 2 } (.int .i64 r.m.date)).setCell { block := g, off := o + 3 } (.string r.m.id)).setCell { block := g, off := o + 4 } (.int .i64 r.m.flags)).setCell { block := g, off := o + 5 } (.slice r.K r.m.keys.length r.c)).setCell { block := g, off := o + 6 } (.string r.m.text)
theorem put7_own {w : World} {base n g : Nat} {v : Value} {rs : List Raw} {k : Nat} {r : Raw} (h : w.ownsRow base 28 7 v n (mc rs)) (hv : v.ownBlock = some g) (hk : k < rs.length) : (put7 w g (k * 7) r).ownsRow base 28 7 v n (mc (rs.set k r)) := by
  rw [← mc_set7 rs k r hk]
  unfold put7
  exact own_set (own_set (own_set (own_set (own_set (own_set (own_set h hv _ _) hv _ _) hv _ _) hv _ _) hv _ _) hv _ _) hv _ _
theorem put7_grown (w : World) (g o : Nat) (r : Raw) : w.grownBy (put7 w g o r) (some g) := by
  unfold put7
  exact grown_trans (grown_trans (grown_trans (grown_trans (grown_trans (grown_trans (grown_set _) (grown_set _)) (grown_set _)) (grown_set _)) (grown_set _)) (grown_set _)) (grown_set _)

/-- What Project tells of a box that may be. -/
def ProjOut (b c : Box) (w : World) (e : Ending) (w' : World) : Prop :=
  ∃ A1 k1 A2 k2, e = .returned (.tuple #[.agg #[.string c.id, .int .i64 c.valid, .int .i64 c.next, .int .i64 c.high, .slice A1 c.words.length k1, .slice A2 c.msgs.length k2], .int .i64 0]) ∧ c.words.length ≤ k1 ∧ c.msgs.length ≤ k2 ∧ StrsAt w' w'.heap.size A1 c.words.length c.words ∧ MsgsAt w' w'.heap.size A2 c.msgs.length c.msgs ∧ Below w.heap.size w w'
/-- The box that is made of another one, message by message. -/
structure PJ (b : Box) (fm : Msg → Msg) (hi : Int) (w wr : World) (vw0 vm0 : Value) (O k wn : Nat) (A1 : Option Addr) (k1 kw : Nat) (A2 : Option Addr) (k2 mn : Nat) (rs : List Raw) : Prop where
  low : Below w.heap.size w wr
  hO : w.heap.size + 2 ≤ O
  b0 : wr.heap[w.heap.size]? = some (.cells #[.string b.id, .int .i64 b.valid, .int .i64 b.next, .int .i64 b.high, vw0, vm0] 25 (0, 0))
  res : wr.heap[w.heap.size + 1]? = some (.cells zbox 25 (0, 0))
  blk : wr.heap[O]? = some (.cells #[.string b.id, .int .i64 b.valid, .int .i64 b.next, .int .i64 hi, .slice A1 kw k1, .slice A2 mn k2] 25 (0, 0))
  ow : wr.ownsRow (w.heap.size + 2) 9 1 (.slice A1 wn k1) wn (b.words.map Value.string)
  om : wr.ownsRow (w.heap.size + 2) 28 7 (.slice A2 mn k2) mn (mc rs)
  rm : rs.map Raw.m = (b.msgs.take k).map fm ++ b.msgs.drop k
  ko : ∀ r ∈ rs, wr.ownsRow (w.heap.size + 2) 3 1 (.slice r.K r.m.keys.length r.c) r.m.keys.length (r.m.keys.map (Value.int .i64))
section
variable {b : Box} {fm : Msg → Msg} {hi : Int} {w wr w2 : World} {vw0 vm0 : Value} {O k wn k1 kw k2 mn : Nat} {A1 A2 : Option Addr} {rs : List Raw}
theorem PJ.lt (h : PJ b fm hi w wr vw0 vm0 O k wn A1 k1 kw A2 k2 mn rs) : O < wr.heap.size := (Array.getElem?_eq_some_iff.1 h.blk).1
theorem PJ.go (h : PJ b fm hi w wr vw0 vm0 O k wn A1 k1 kw A2 k2 mn rs) (hb : Below wr.heap.size wr w2) : PJ b fm hi w w2 vw0 vm0 O k wn A1 k1 kw A2 k2 mn rs := by
  have h1 := h.lt
  have h2 := h.hO
  exact ⟨h.low.trans (hb.mono h.low.size), h.hO, (hb.block _ (by omega)).trans h.b0, (hb.block _ (by omega)).trans h.res, (hb.block _ h1).trans h.blk, own_block h.ow fun g e => hb.block g (h.ow.lt g e).2, own_block h.om fun g e => hb.block g (h.om.lt g e).2, h.rm, fun r hr => own_block (h.ko r hr) fun g e => hb.block g ((h.ko r hr).lt g e).2⟩
theorem PJ.len (h : PJ b fm hi w wr vw0 vm0 O k wn A1 k1 kw A2 k2 mn rs) : rs.length = mn := by
  have := h.om.1
  rw [mc_length] at this
  omega
theorem PJ.cells (h : PJ b fm hi w wr vw0 vm0 O k wn A1 k1 kw A2 k2 mn rs) : wr.cell? { block := O, off := 0 } = some (.string b.id) ∧ wr.cell? { block := O, off := 1 } = some (.int .i64 b.valid) ∧ wr.cell? { block := O, off := 2 } = some (.int .i64 b.next) ∧ wr.cell? { block := O, off := 3 } = some (.int .i64 hi) ∧
    wr.cell? { block := O, off := 4 } = some (.slice A1 kw k1) ∧ wr.cell? { block := O, off := 5 } = some (.slice A2 mn k2) ∧ ∀ i, wr.frozen? { block := O, off := i } = false := by
  have c := fun o => cell_of_row wr O o _ _ _ h.blk
  exact ⟨(c 0).trans rfl, (c 1).trans rfl, (c 2).trans rfl, (c 3).trans rfl, (c 4).trans rfl, (c 5).trans rfl, fun i => by simp [World.frozen?, h.blk]⟩
theorem PJ.id0 (h : PJ b fm hi w wr vw0 vm0 O k wn A1 k1 kw A2 k2 mn rs) : wr.cell? { block := w.heap.size, off := 0 } = some (.string b.id) := (cell_of_row wr w.heap.size 0 _ _ _ h.b0).trans rfl
theorem PJ.set (h : PJ b fm hi w wr vw0 vm0 O k wn A1 k1 kw A2 k2 mn rs) (i : Nat) (v : Value) {hi' : Int} {kw' : Nat}
    (hv : (#[.string b.id, .int .i64 b.valid, .int .i64 b.next, .int .i64 hi, .slice A1 kw k1, .slice A2 mn k2] : Array Value).setIfInBounds i v = #[.string b.id, .int .i64 b.valid, .int .i64 b.next, .int .i64 hi', .slice A1 kw' k1, .slice A2 mn k2]) : PJ b fm hi' w (wr.setCell ⟨O, i, none⟩ v) vw0 vm0 O k wn A1 k1 kw' A2 k2 mn rs := by
  have h2 := h.hO
  refine ⟨h.low.setCell (by show w.heap.size ≤ O; omega) _, h2, (Below.heap_setCell _ _ _ _ (by show w.heap.size ≠ O; omega)).trans h.b0, (Below.heap_setCell _ _ _ _ (by show w.heap.size + 1 ≠ O; omega)).trans h.res, ?_,
    own_other h.ow (own_ne_blk h.ow h.blk (by decide)) _ _, own_other h.om (own_ne_blk h.om h.blk (by decide)) _ _, h.rm, fun r hr => own_other (h.ko r hr) (own_ne_blk (h.ko r hr) h.blk (by decide)) _ _⟩
  have := h.blk
  rw [← hv]
  simp [World.setCell, Array.getElem?_modify, this]
/-- A message stored. -/
theorem PJ.put {g : Nat} {m : Msg} {r : Raw} (h : PJ b fm hi w wr vw0 vm0 O k wn A1 k1 kw A2 k2 mn rs) (hv : (Value.slice A2 mn k2).ownBlock = some g) (hm : b.msgs[k]? = some m) (hr : r.m = fm m) (hk : k < mn)
    (hK : wr.ownsRow (w.heap.size + 2) 3 1 (.slice r.K r.m.keys.length r.c) r.m.keys.length (r.m.keys.map (Value.int .i64))) : PJ b fm hi w (put7 wr g (k * 7) r) vw0 vm0 O (k + 1) wn A1 k1 kw A2 k2 mn (rs.set k r) := by
  have h2 := h.hO
  have hl := h.len
  have hg := put7_grown wr g (k * 7) r
  have hgl := h.om.lt g hv
  have hb : ∀ (c : Nat) (cs : Array Value), wr.heap[c]? = some (.cells cs 25 (0, 0)) → (put7 wr g (k * 7) r).heap[c]? = some (.cells cs 25 (0, 0)) := fun c cs hc =>
    (hg.block c (Array.getElem?_eq_some_iff.1 hc).1 (fun e => own_ne_blk h.om hc (by decide) (by rw [hv, ← e]))).trans hc
  refine ⟨h.low.grown hg h.low.size (fun c e => by have := Option.some.inj e; omega), h2, hb _ _ h.b0, hb _ _ h.res, hb _ _ h.blk, own_block h.ow fun c e => hg.block c (h.ow.lt c e).2 fun e2 => own_ne h.ow h.om hv (by decide) (by rw [e, e2]), put7_own h.om hv (by omega), ?_, fun x hx => ?_⟩
  · rw [List.map_set, h.rm, hr]
    obtain ⟨hkl, rfl⟩ := List.getElem?_eq_some_iff.1 hm
    rw [List.take_succ_eq_append_getElem hkl, List.map_append, List.drop_eq_getElem_cons hkl, List.set_append_right _ _ (by simp; omega)]
    simp only [List.length_map, List.length_take, Nat.min_eq_left (Nat.le_of_lt hkl), Nat.sub_self, List.set_cons_zero, List.append_assoc, List.map_cons, List.map_nil]
    rfl
  · have hx2 : wr.ownsRow (w.heap.size + 2) 3 1 (.slice x.K x.m.keys.length x.c) x.m.keys.length (x.m.keys.map (Value.int .i64)) := by
      rcases List.mem_or_eq_of_mem_set hx with hx | rfl
      · exact h.ko x hx
      · exact hK
    exact own_block hx2 fun c e => hg.block c (hx2.lt c e).2 fun e2 => own_ne hx2 h.om hv (by decide) (by rw [e, e2])
end
theorem keys_le {ks : List Int} {n : Nat} (h : keysB ks n = true) : ks.length ≤ n := by
  obtain ⟨h2, h1⟩ := keysB_rise h
  have : ∀ (l : List Int) (a : Int), (∀ k ∈ l, a ≤ k ∧ k < (n : Int)) → l.Pairwise (· < ·) → (l.length : Int) ≤ max 0 ((n : Int) - a) := by
    intro l
    induction l with
    | nil => intro a _ _; simp; omega
    | cons x l ih =>
      intro a ha hp
      rw [List.pairwise_cons] at hp
      have hx := ha x (by simp)
      have := ih (x + 1) (fun k hk => ⟨by have := hp.1 k hk; omega, (ha k (by simp [hk])).2⟩) hp.2
      rw [List.length_cons]
      push_cast
      omega
  have := this ks 0 h1 h2
  omega
theorem set_blk {wr : World} {L : Nat} {u md d fl : Int} {id tx : ByteArray} {K : Option Addr} {kn kc : Nat} {u' md' d' fl' : Int} {id' tx' : ByteArray} {K' : Option Addr} {kn' kc' : Nat} (h : MBk wr L u md d id fl K kn kc tx) (i : Nat) (v : Value)
    (hv : (#[.int .i64 u, .int .i64 md, .int .i64 d, .string id, .int .i64 fl, .slice K kn kc, .string tx] : Array Value).setIfInBounds i v = #[.int .i64 u', .int .i64 md', .int .i64 d', .string id', .int .i64 fl', .slice K' kn' kc', .string tx']) : MBk (wr.setCell ⟨L, i, none⟩ v) L u' md' d' id' fl' K' kn' kc' tx' := by
  unfold MBk at *
  rw [← hv]
  simp [World.setCell, Array.getElem?_modify, h]
theorem free_blk {wr : World} {L : Nat} {u md d fl : Int} {id tx : ByteArray} {K : Option Addr} {kn kc : Nat} (h : MBk wr L u md d id fl K kn kc tx) (i : Nat) : wr.frozen? { block := L, off := i } = false := by unfold MBk at h; simp [World.frozen?, h]
theorem lt_blk {wr : World} {L : Nat} {u md d fl : Int} {id tx : ByteArray} {K : Option Addr} {kn kc : Nat} (h : MBk wr L u md d id fl K kn kc tx) : L < wr.heap.size := (Array.getElem?_eq_some_iff.1 h).1
theorem filt_snoc {ks : List Int} {j : Nat} {x : Int} (h : ks[j]? = some x) : (ks.take (j + 1)).filter (fun k => decide (k < 32)) = (ks.take j).filter (fun k => decide (k < 32)) ++ (if x < 32 then [x] else []) := by
  obtain ⟨hl, rfl⟩ := List.getElem?_eq_some_iff.1 h
  rw [List.take_succ_eq_append_getElem hl, List.filter_append]
  congr 1
  by_cases hx : ks[j] < 32
  · rw [if_pos hx, List.filter_cons_of_pos (by simpa using hx), List.filter_nil]
  · rw [if_neg hx, List.filter_cons_of_neg (by simpa using hx), List.filter_nil]
set_option maxHeartbeats 4000000 in
set_option maxRecDepth 100000 in
theorem project_any {w : World} {b : Box} {WA MA : Option Addr} {wn wc mn mc0 B : Nat} (ht : BxO.Tab w) (hx : StrsAt w B WA wn b.words) (hm : MsgsAt w B MA mn b.msgs) (hwc : wn ≤ wc) (hB : B ≤ w.heap.size) (h0 : mbE b = 0) :
    Calls Tryz.prog 24 #[.int .i64 2, .agg #[.string b.id, .int .i64 b.valid, .int .i64 b.next, .int .i64 b.high, .slice WA wn wc, .slice MA mn mc0]] w (ProjOut b (pb true b) w) := by
  have G := OlP.good_of h0
  have HG := Lib.hid G
  have P0 := Lib.hid (PI.start b.id b.valid b.next b.high w (.slice WA wn wc) (.slice MA mn mc0))
  have HX := Lib.hid hx
  have HM := Lib.hid hm
  have HT := Lib.hid ht
  have H0 := Lib.hid h0
  have hwl : wn ≤ 64 := by have := hx.len; have := G.wl; omega
  have hml : mn ≤ 60 := by have := hm.len; have := G.ml; omega
  have hids := G.ids
  clear hx hm ht h0 G
  go_enter Tryz.func24, Tryz.ntmps24
  go_upto_region 1 with fail
  generalize (World.alloc (World.alloc w _) _) = w1 at P0 ⊢
  have hs1 := P0.out.size
  have km := BxB.ref_may (bid := b.id) (bv := b.valid) (bn := b.next) (bh := b.high) (mc := mc0) (StrsAt.below HX.out P0.out.bel hB) (MsgsAt.below HM.out P0.out.bel hB) (by omega) hwc
  rw [show mbE ⟨b.id, b.valid, b.next, b.high, b.words, b.msgs⟩ = 0 from H0.out] at km
  have KM := Lib.hid km
  clear km
  obtain ⟨c0, c1, c2, c3, c4, c5⟩ := P0.out.cells
  go_upto_region 3 with (go_at_call 11; go_loud (
     refine KM.out.mono ?_
     rintro e w2 ⟨rfl, hb2⟩
     have P2 := Lib.hid (P0.out.go hb2)
     clear hb2 c0 c1 c2 c3 c4 c5))
  clear KM P0
  have hs2 := P2.out.size
  have KC := Lib.hid (BxCq.copyBox_any (bid := b.id) (bv := b.valid) (bn := b.next) (bh := b.high) (wc := wc) (mcp := mc0) (StrsAt.below HX.out P2.out.bel hB) (MsgsAt.below HM.out P2.out.bel hB) (by omega) (by omega) (by omega) (fun m hm => by
    have h1 := keys_le (OlP.mm_parts (HG.out.ms m hm).1).2.2.2.2.2.1
    have := HG.out.wl
    omega))
  obtain ⟨c0, c1, c2, c3, c4, c5⟩ := P2.out.cells
  go_upto_region 4 with (go_at_call 61; go_loud (
     refine KC.out.mono ?_
     rintro e w3 ⟨vw, vm, rs, rfl, hb3, ow, om, rm, ko⟩
     obtain ⟨A1, k1, rfl, hk1⟩ := own_slice ow
     obtain ⟨A2, k2, rfl, hk2⟩ := own_slice om
     have P3 := Lib.hid (P2.out.go hb3)
     have OW := Lib.hid ow
     have OM := Lib.hid om
     have RM := Lib.hid rm
     have KO := Lib.hid ko
     clear hb3 ow om rm ko c0 c1 c2 c3 c4 c5))
  clear KC
  have J0 := Lib.hid (show PJ b (pm true b.id) b.high w (w3.alloc (.cells #[.string b.id, .int .i64 b.valid, .int .i64 b.next, .int .i64 b.high, .slice A1 wn k1, .slice A2 mn k2] 25)) (.slice WA wn wc) (.slice MA mn mc0) w3.heap.size 0 wn A1 k1 wn A2 k2 mn rs from by
    have hb := (Below.refl w3.heap.size w3).alloc (Nat.le_refl _) (.cells #[.string b.id, .int .i64 b.valid, .int .i64 b.next, .int .i64 b.high, .slice A1 wn k1, .slice A2 mn k2] 25)
    have hp := P3.out.go hb
    exact ⟨hp.bel, P3.out.size, hp.blk, hp.res, heap_alloc_new w3 _, own_base (OW.out.alloc _) hs2, own_base (OM.out.alloc _) hs2, by simpa using RM.out, fun r hr => own_base ((KO.out r hr).1.alloc _) hs2⟩)
  obtain ⟨O, hO⟩ : ∃ O, O = w3.heap.size := ⟨_, rfl⟩
  rw [← hO] at J0 ⊢
  clear hO P3 OW OM RM KO
  generalize (World.alloc w3 _) = w4 at J0 ⊢
  obtain ⟨d0, d1, d2, d3, d4, d5, df⟩ := J0.out.cells
  have f4 := df 4
  obtain ⟨kw, hkw⟩ : ∃ kw, kw = min wn 32 := ⟨_, rfl⟩
  have hmin : (if (32 : Int) < (wn : Int) then (32 : Int) else (wn : Int)) = (kw : Int) := by split <;> omega
  have hmin2 : min (wn : Int) 32 = (kw : Int) := by omega
  have hkww : kw ≤ wn := by omega
  have hkwc : kw ≤ k1 := by omega
  have HKW := Lib.hid hkw
  clear hkw df
  go_upto_region 7 with fail
  have J1 := Lib.hid (J0.out.set 4 (.slice A1 kw k1) rfl)
  clear J0 d0 d1 d2 d3 d4 d5 f4 hmin hmin2
  generalize (World.setCell w4 _ _) = w5 at J1 ⊢
  obtain ⟨d0, d1, d2, d3, d4, d5, df⟩ := J1.out.cells
  have f3 := df 3
  clear df
  go_upto_region 9 with fail
  have J2 := J1
  clear J1 d0 d1 d2 d3 d4 d5 f3
  obtain ⟨d0, d1, d2, d3, d4, d5, df⟩ := J2.out.cells
  clear df
  go_wp2_with fail
  clear d0 d1 d2 d3 d4 d5
  go_loopw [43] (fun s43 wr => ∃ (k : Nat) (rs' : List Raw), k ≤ mn ∧ s43 = .int .i64 k ∧ Hid (PJ b (pm true b.id) b.high w wr (.slice WA wn wc) (.slice MA mn mc0) O k wn A1 k1 kw A2 k2 mn rs')) (fun s43 _ => mn - (intOf s43).toNat)
  case atStart => exact ⟨0, rs, Nat.zero_le _, rfl, J2⟩
  case round =>
    clear J2
    obtain ⟨k, rs', hk, rfl, J⟩ := hrel
    obtain ⟨wo, rfl⟩ : ∃ wo, wo = wr := ⟨_, rfl⟩
    by_cases hlt : k < mn
    · have hl := J.out.len
      obtain ⟨g, cap, hA, _, _⟩ := own_form J.out.om (by omega)
      injection hA with hA1 hA2 hA3
      subst hA1 hA3
      have hr := List.getElem?_eq_getElem (show k < rs'.length by omega)
      generalize rs'[k] = r at hr
      have hmk : b.msgs[k]? = some r.m := by
        have h1 := congrArg (fun l => l[k]?) J.out.rm
        simp only [List.getElem?_map, hr, Option.map_some] at h1
        rw [List.getElem?_append_right (by rw [List.length_map, List.length_take]; omega), List.getElem?_drop] at h1
        have hkl : k ≤ b.msgs.length := by have := HM.out.len; omega
        simp only [List.length_map, List.length_take, Nat.min_eq_left hkl, Nat.sub_self, Nat.add_zero] at h1
        exact h1.symm
      have hko := J.out.ko r (List.mem_of_getElem? hr)
      obtain ⟨⟨u, md, d, id, fl, ks, tx⟩, K, kc⟩ := r
      obtain ⟨a0, a1, a2, a3, a4, a5, a6⟩ := mc_at J.out.om rfl hr
      simp only at a0 a1 a2 a3 a4 a5 a6 hko
      obtain ⟨p1, p2, p3, p4, p5, p6, p7⟩ := OlP.mm_parts (HG.out.ms _ (List.mem_of_getElem? hmk)).1
      have hkn := keys_le p6
      simp only at p1 p2 p3 p5 hkn
      have hkn2 : ks.length ≤ 64 := by have := HG.out.wl; omega
      obtain ⟨kn, hknl⟩ : ∃ kn, kn = ks.length := ⟨_, rfl⟩
      rw [← hknl] at a5 hko hkn hkn2
      have HKL := Lib.hid hknl
      have HMK := Lib.hid hmk
      have HR := Lib.hid hr
      have HKO := Lib.hid hko
      have hJO := J.out.lt
      have hlow := J.out.low.size
      clear p4 p6 p7 hmk hr hko hknl
      go_upto_region 12 with fail
      have HA7 := Lib.hid ((Below.refl wo.heap.size wo).alloc (Nat.le_refl _) (.cells #[.int .i64 u, .int .i64 md, .int .i64 d, .string id, .int .i64 fl, .slice K kn kc, .string tx] 28))
      have HC7 := Lib.hid (show MBk (wo.alloc (.cells #[.int .i64 u, .int .i64 md, .int .i64 d, .string id, .int .i64 fl, .slice K kn kc, .string tx] 28)) wo.heap.size u md d id fl K kn kc tx from heap_alloc_new wo _)
      obtain ⟨L, hL⟩ : ∃ L, L = wo.heap.size := ⟨_, rfl⟩
      rw [← hL] at HC7 ⊢
      have HL := Lib.hid hL
      clear a0 a1 a2 a3 a4 a5 a6 hL
      generalize (World.alloc wo _) = w7 at HA7 HC7 ⊢
      have q1 := free_blk HC7.out 1
      have m1 := HC7.out.cells.2.1
      go_upto_region 14 with fail
      have HC8 := HC7
      have HB8 := Lib.hid (show Below wo.heap.size wo w7 from HA7.out)
      clear q1 m1 HC7 HA7
      obtain ⟨w8, hw8⟩ : ∃ w8, w8 = w7 := ⟨_, rfl⟩
      subst hw8
      have KO := Lib.hid (BxO.refOwn_any (id := b.id) (u := u) (HT.out.below (J.out.low.trans (HB8.out.mono hlow)) (Nat.le_refl _)) (by omega) (by omega))
      have m0 := HC8.out.cells.1
      have i0 := (HB8.out.cell (p := { block := w.heap.size, off := 0 }) (by show w.heap.size < _; have := J.out.hO; omega)).trans J.out.id0
      obtain ⟨T, hT⟩ : ∃ T, T = ownT b.id u := ⟨_, rfl⟩
      rw [← hT] at KO
      have HT2 := Lib.hid hT
      clear hT
      go_upto_region 15 with (go_at_call 62; go_loud (
         refine KO.out.mono ?_
         rintro e w9 ⟨rfl, hb9⟩
         have HC9 := Lib.hid (HC8.out.keep (hb9.block L (lt_blk HC8.out)))
         have HB9 := Lib.hid (HB8.out.trans (hb9.mono HB8.out.size))
         clear hb9 m0 i0
         have q3 := free_blk HC9.out 3
         have m3 := HC9.out.cells.2.2.2.1))
      have HC10 := Lib.hid (set_blk HC9.out 3 (.string T) rfl)
      have HB10 := Lib.hid (show Below wo.heap.size wo (w9.setCell ⟨L, 3, none⟩ (.string T)) from HB9.out.setCell (by show wo.heap.size ≤ L; have := HL.out; omega) _)
      clear q3 m3 HC9 HB9 KO HC8 HB8
      generalize (World.setCell w9 _ _) = w10 at HC10 HB10 ⊢
      have HI := Lib.hid (intsAt_own (own_block HKO.out fun g e => HB10.out.block g (HKO.out.lt g e).2) (by omega))
      have m5 := HC10.out.cells.2.2.2.2.2.1
      go_wp2_with fail
      clear m5
      go_loopw [9, 60] (fun s9 s60 wv => ∃ (v : Value) (j n : Nat), s9 = v ∧ j ≤ kn ∧ s60 = .int .i64 j ∧ Hid (wv.ownsRow w10.heap.size 3 1 v n (((ks.take j).filter fun k => decide (k < 32)).map (Value.int .i64))) ∧ Hid (Below w10.heap.size w10 wv) ∧ n ≤ j ∧ Hid (n = ((ks.take j).filter fun k => decide (k < 32)).length)) (fun _ s60 _ => kn - (intOf s60).toNat)
      case atStart => exact ⟨_, 0, 0, rfl, by omega, rfl, World.ownsRow_nil _ _ _ _, Below.refl _ _, Nat.le_refl _, rfl⟩
      case round =>
        obtain ⟨v, j, n, rfl, hj, rfl, HO, HB, hn, HN⟩ := hrel
        obtain ⟨A3, c3, rfl, hc3⟩ := own_slice HO.out
        by_cases hjl : j < kn
        · obtain ⟨ad, x, rfl, e1, qx⟩ := IntsAt.at_ HI.out HB.out (Nat.le_refl _) hjl
          have hsn := filt_snoc e1
          have HSZ := Lib.hid HB.out.size
          clear e1
          by_cases h32 : x < 32
          · rw [if_pos h32] at hsn
            have HK := Lib.hid hsn
            clear hsn
            go_wp2_with (at_builtin; go_loud (
               refine wpList_rows elI rfl _ _ rfl rfl rfl (HO.out.alloc _) (src_new wr #[.int .i64 x] 3 (m := 1) rfl rfl (by intro u hu; simp at hu; subst hu; rfl)) (by unfold maxLen; omega) (by omega) (by have := HSZ.out; simp; omega) ?_
               intro v3 w3 hown3 hg3 _
               have HO3 := Lib.hid (show w3.ownsRow w10.heap.size 3 1 v3 (n + 1) (((ks.take (j + 1)).filter fun k => decide (k < 32)).map (Value.int .i64)) by rw [HK.out, List.map_append]; exact hown3)
               have HB3 := Lib.hid ((HB.out.alloc HSZ.out _).grown hg3 (by have := HSZ.out; simp; omega) (fun g e => (HO.out.lt g e).1))
               have HN3 := Lib.hid (show n + 1 = ((ks.take (j + 1)).filter fun k => decide (k < 32)).length by rw [HK.out, List.length_append, ← HN.out]; rfl)
               clear hown3 hg3))
            go_roundw
            case rel => exact ⟨v3, j + 1, n + 1, rfl, by omega, by go_num, HO3, HB3, by omega, HN3⟩
            case measure => simp [intOf]; omega
          · rw [if_neg h32, List.append_nil] at hsn
            have HK := Lib.hid hsn
            clear hsn
            have h32' : (32 : Int) ≤ x := by omega
            go_wp2_with fail
            go_roundw
            case rel => exact ⟨_, j + 1, n, rfl, by omega, by go_num, by rw [HK.out]; exact HO, HB, by omega, by rw [HK.out]; exact HN⟩
            case measure => simp [intOf]; omega
        · obtain rfl : kn = j := by omega
          have hfl : ks.take kn = ks := by rw [HKL.out]; exact List.take_length
          rw [hfl] at HO HN
          obtain ⟨F, hF⟩ : ∃ F, F = ks.filter (fun k => decide (k < 32)) := ⟨_, rfl⟩
          rw [← hF] at HO HN
          have hnF := HN.out
          subst hnF
          have HF := Lib.hid hF
          clear hF hfl
          have HC11 := Lib.hid (HC10.out.keep (HB.out.block L (lt_blk HC10.out)))
          have HB11 := Lib.hid (HB10.out.trans (HB.out.mono HB10.out.size))
          have q5 := free_blk HC11.out 5
          have m5 := HC11.out.cells.2.2.2.2.2.1
          go_upto_region 23 with fail
          have HC12 := Lib.hid (set_blk HC11.out 5 (.slice A3 F.length c3) rfl)
          have HB12 := Lib.hid (show Below wo.heap.size wo (wr.setCell ⟨L, 5, none⟩ (.slice A3 F.length c3)) from HB11.out.setCell (by show wo.heap.size ≤ L; have := HL.out; omega) _)
          have HO12 := Lib.hid (own_other HO.out (own_ne_blk HO.out HC11.out (by decide)) 5 (.slice A3 F.length c3))
          have hs10 := HB10.out.size
          clear q5 m5 HC11 HB11 HO HB HC10 HB10 HN HI
          generalize (World.setCell wr _ _) = w12 at HC12 HB12 HO12 ⊢
          have J12 := Lib.hid (J.out.go HB12.out)
          obtain ⟨m0, m1, m2, m3, m4, m5, m6⟩ := HC12.out.cells
          obtain ⟨a0, a1, a2, a3, a4, a5, a6⟩ := mc_at J12.out.om rfl HR.out
          have ff := own_free J12.out.om (g := g) rfl
          have f0 := ff (k * 7)
          have f1 := ff (k * 7 + 1)
          have f2 := ff (k * 7 + 2)
          have f3 := ff (k * 7 + 3)
          have f4 := ff (k * 7 + 4)
          have f5 := ff (k * 7 + 5)
          have f6 := ff (k * 7 + 6)
          have d5 := J12.out.cells.2.2.2.2.2.1
          have JN := Lib.hid (J12.out.put (r := ⟨⟨u, md, d, T, fl, F, tx⟩, A3, c3⟩) (g := g) rfl HMK.out (by rw [HT2.out, HF.out]; rfl) hlt (own_base HO12.out (by have := J.out.hO; omega)))
          clear ff
          go_wp2_with fail
          go_roundw
          case rel => exact ⟨k + 1, _, by omega, by go_num, JN⟩
          case measure => simp [intOf]; omega
    · obtain rfl : mn = k := by omega
      obtain ⟨d0, d1, d2, d3, d4, d5, df⟩ := J.out.cells
      obtain ⟨z0, z1, z2, z3, z4, z5, zf⟩ := zcells6 J.out.res
      have f0 := zf 0
      have f1 := zf 1
      have f2 := zf 2
      have f3 := zf 3
      have f4 := zf 4
      have f5 := zf 5
      clear zf df
      go_wp2_with fail
      obtain ⟨W, hW, p0, p1, p2, p3, p4, p5, hWg⟩ := ret6 J.out.res (.string b.id) (.int .i64 b.valid) (.int .i64 b.next) (.int .i64 b.high) (.slice A1 kw k1) (.slice A2 mn k2)
      rw [← hW]
      refine bodyPost_ret (v := .tuple #[.agg #[.string b.id, .int .i64 b.valid, .int .i64 b.next, .int .i64 b.high, .slice A1 kw k1, .slice A2 mn k2], .int .i64 0]) (by simp [results, Tryz.results24, go_sem, p0, p1, p2, p3, p4, p5]) rfl ?_
      have hwln := HX.out.len
      have hmln := HM.out.len
      have e1 : (pb true b).words.length = kw := by show (b.words.take 32).length = kw; rw [List.length_take, HKW.out]; omega
      have e2 : (pb true b).msgs.length = mn := by show (b.msgs.map _).length = mn; rw [List.length_map]; exact hmln
      have hrm : rs'.map Raw.m = (pb true b).msgs := by
        rw [J.out.rm, List.take_of_length_le (by omega), List.drop_of_length_le (by omega), List.append_nil]
        rfl
      have keep : ∀ {ty sz k : Nat} {x : Value} {xs : List Value}, wo.ownsRow (w.heap.size + 2) ty sz x k xs → W.ownsRow (w.heap.size + 2) ty sz x k xs := fun {_ _ _ _ _} ho =>
        ho.kept hWg (.inr (fun e2 => by have := (ho.lt _ e2).1; omega))
      have hws := strsAt_own (keep J.out.ow) (by omega) (fun x hx => by have := (atB_size (OlP.wordsB_at HG.out.ws x hx)).2; omega)
      have htk := RowAt.take hws (k := kw) hkww
      have hgm := OlP.pb_good (cg := true) HG.out
      have hms := msgsAt_own (keep J.out.om) (by omega) (fun r hr => by
        have hm : r.m ∈ (pb true b).msgs := by rw [← hrm]; exact List.mem_map_of_mem hr
        obtain ⟨q1, q2, q3, q4, q5, q6, q7⟩ := OlP.mm_parts (hgm.ms _ hm).1
        have h1 := keys_le q6
        have h2 := hgm.wl
        have h3 := (atB_size q4).2
        obtain ⟨A9, c9, e9, h9⟩ := own_slice (J.out.ko r hr)
        injection e9 with e1 e2 e3
        exact ⟨intsAt_own (keep (J.out.ko r hr)) (by omega), by omega, by omega, by omega⟩)
      rw [hrm] at hms
      refine ⟨A1, k1, A2, k2, by rw [e1, e2]; rfl, by omega, by omega, ?_, by rw [e2]; exact hms, J.out.low.grown hWg J.out.low.size (fun k e => by have : w.heap.size + 1 = k := Option.some.inj e; omega)⟩
      rw [e1]
      have e3 : (pb true b).words = b.words.take kw := by
        show b.words.take 32 = b.words.take kw
        by_cases h32 : wn ≤ 32
        · rw [List.take_of_length_le (by omega), List.take_of_length_le (by have := HKW.out; omega)]
        · have : kw = 32 := by have := HKW.out; omega
          rw [this]
      rw [e3]
      exact htk
end Go.Proofs.YtchlbbndfhibgaaGreatDoor.O2Pj

namespace Go.Proofs.YtchlbbndfhibgaaGreatDoor.F3Pj
open Go.RowKit Go.Proofs.YtchlbbndfhibgaaGreatDoor.BxD Go.Proofs.YtchlbbndfhibgaaGreatDoor.BxKit Go.Proofs.YtchlbbndfhibgaaGreatDoor.BxA Go.Proofs.YtchlbbndfhibgaaGreatDoor.BxR Go.Proofs.YtchlbbndfhibgaaGreatDoor.BxC Go.Proofs.YtchlbbndfhibgaaGreatDoor.OlD Go.Proofs.YtchlbbndfhibgaaGreatDoor.PtD Go.Proofs.YtchlbbndfhibgaaGreatDoor.PtK

/-- What the third form knows of a box: all. -/
def pbx (b : Box) : Box := b
/-- What Project tells of a box that may be. -/
def ProjOut (c : Box) (w : World) (e : Ending) (w' : World) : Prop :=
  ∃ A1 k1 A2 k2, e = .returned (.tuple #[.agg #[.string c.id, .int .i64 c.valid, .int .i64 c.next, .int .i64 c.high, .slice A1 c.words.length k1, .slice A2 c.msgs.length k2], .int .i64 0]) ∧ c.words.length ≤ k1 ∧ c.msgs.length ≤ k2 ∧ StrsAt w' w'.heap.size A1 c.words.length c.words ∧ MsgsAt w' w'.heap.size A2 c.msgs.length c.msgs ∧ Below w.heap.size w w'
set_option maxHeartbeats 4000000 in
set_option maxRecDepth 100000 in
theorem project_any {w : World} {b : Box} {WA MA : Option Addr} {wn wc mn mc0 B : Nat} (hx : StrsAt w B WA wn b.words) (hm : MsgsAt w B MA mn b.msgs) (hwc : wn ≤ wc) (hB : B ≤ w.heap.size) (h0 : mbE b = 0) :
    Calls Tryz.prog 24 #[.int .i64 3, .agg #[.string b.id, .int .i64 b.valid, .int .i64 b.next, .int .i64 b.high, .slice WA wn wc, .slice MA mn mc0]] w (ProjOut (pbx b) w) := by
  have G := PtD.good_of h0
  have HG := Lib.hid G
  have P0 := Lib.hid (PI.start b.id b.valid b.next b.high w (.slice WA wn wc) (.slice MA mn mc0))
  have HX := Lib.hid hx
  have HM := Lib.hid hm
  have H0 := Lib.hid h0
  have hwl : wn ≤ 64 := by have := hx.len; have := G.wl; omega
  have hml : mn ≤ 60 := by have := hm.len; have := G.ml; omega
  clear hx hm h0 G
  go_enter Tryz.func24, Tryz.ntmps24
  go_upto_region 1 with fail
  generalize (World.alloc (World.alloc w _) _) = w1 at P0 ⊢
  have hs1 := P0.out.size
  have km := BxB.ref_may (bid := b.id) (bv := b.valid) (bn := b.next) (bh := b.high) (mc := mc0) (StrsAt.below HX.out P0.out.bel hB) (MsgsAt.below HM.out P0.out.bel hB) (by omega) hwc
  rw [show mbE ⟨b.id, b.valid, b.next, b.high, b.words, b.msgs⟩ = 0 from H0.out] at km
  have KM := Lib.hid km
  clear km
  obtain ⟨c0, c1, c2, c3, c4, c5⟩ := P0.out.cells
  go_upto_region 3 with (go_at_call 11; go_loud (
     refine KM.out.mono ?_
     rintro e w2 ⟨rfl, hb2⟩
     have P2 := Lib.hid (P0.out.go hb2)
     clear hb2 c0 c1 c2 c3 c4 c5))
  clear KM P0
  have hs2 := P2.out.size
  have KC := Lib.hid (BxCq.copyBox_any (bid := b.id) (bv := b.valid) (bn := b.next) (bh := b.high) (wc := wc) (mcp := mc0) (StrsAt.below HX.out P2.out.bel hB) (MsgsAt.below HM.out P2.out.bel hB) (by omega) (by omega) (by omega) (fun m hm => by
    have h1 := F3D.keys_len (PtD.mm_parts (HG.out.ms m hm).1).2.2.2.2.2.1
    have := HG.out.wl
    omega))
  obtain ⟨c0, c1, c2, c3, c4, c5⟩ := P2.out.cells
  go_upto_region 4 with (go_at_call 61; go_loud (
     refine KC.out.mono ?_
     rintro e w3 ⟨vw, vm, rs, rfl, hb3, ow, om, rm, ko⟩
     obtain ⟨A1, k1, rfl, hk1⟩ := own_slice ow
     obtain ⟨A2, k2, rfl, hk2⟩ := own_slice om
     have P3 := Lib.hid (P2.out.go hb3)
     have OW := Lib.hid ow
     have OM := Lib.hid om
     have RM := Lib.hid rm
     have KO := Lib.hid ko
     clear hb3 ow om rm ko c0 c1 c2 c3 c4 c5))
  clear KC
  have hba := (Below.refl w3.heap.size w3).alloc (Nat.le_refl _) (.cells #[.string b.id, .int .i64 b.valid, .int .i64 b.next, .int .i64 b.high, .slice A1 wn k1, .slice A2 mn k2] 25)
  have P4 := Lib.hid (P3.out.go hba)
  have OW4 := Lib.hid (OW.out.alloc (.cells #[.string b.id, .int .i64 b.valid, .int .i64 b.next, .int .i64 b.high, .slice A1 wn k1, .slice A2 mn k2] 25))
  have OM4 := Lib.hid (OM.out.alloc (.cells #[.string b.id, .int .i64 b.valid, .int .i64 b.next, .int .i64 b.high, .slice A1 wn k1, .slice A2 mn k2] 25))
  have KO4 := Lib.hid (fun r hr => (KO.out r hr).1.alloc (.cells #[.string b.id, .int .i64 b.valid, .int .i64 b.next, .int .i64 b.high, .slice A1 wn k1, .slice A2 mn k2] 25))
  have X4 := Lib.hid (heap_alloc_new w3 (.cells #[.string b.id, .int .i64 b.valid, .int .i64 b.next, .int .i64 b.high, .slice A1 wn k1, .slice A2 mn k2] 25))
  obtain ⟨O, hO⟩ : ∃ O, O = w3.heap.size := ⟨_, rfl⟩
  rw [← hO] at X4 ⊢
  have hOw : w.heap.size + 1 < O := by have := P3.out.size; omega
  clear hO P3 OW OM KO hba
  generalize (World.alloc w3 _) = w4 at P4 OW4 OM4 KO4 X4 ⊢
  have cX := fun o => cell_of_row w4 O o _ _ _ X4.out
  have d0 := (cX 0).trans (show _ = some (Value.string b.id) from rfl)
  have d1 := (cX 1).trans (show _ = some (Value.int .i64 b.valid) from rfl)
  have d2 := (cX 2).trans (show _ = some (Value.int .i64 b.next) from rfl)
  have d3 := (cX 3).trans (show _ = some (Value.int .i64 b.high) from rfl)
  have d4 := (cX 4).trans (show _ = some (Value.slice A1 wn k1) from rfl)
  have d5 := (cX 5).trans (show _ = some (Value.slice A2 mn k2) from rfl)
  clear cX
  have hres : w4.heap[w.heap.size + 1]? = some (.cells zbox 25 (0, 0)) := P4.out.res
  have HR := Lib.hid hres
  obtain ⟨z0, z1, z2, z3, z4, z5, zf⟩ := zcells6 hres
  have f0 := zf 0
  have f1 := zf 1
  have f2 := zf 2
  have f3 := zf 3
  have f4 := zf 4
  have f5 := zf 5
  clear zf hres
  go_wp2_with fail
  obtain ⟨W, hW, p0, p1, p2, p3, p4, p5, hWg⟩ := ret6 HR.out (.string b.id) (.int .i64 b.valid) (.int .i64 b.next) (.int .i64 b.high) (.slice A1 wn k1) (.slice A2 mn k2)
  rw [← hW]
  refine bodyPost_ret (v := .tuple #[.agg #[.string b.id, .int .i64 b.valid, .int .i64 b.next, .int .i64 b.high, .slice A1 wn k1, .slice A2 mn k2], .int .i64 0]) (by simp [results, Tryz.results24, go_sem, p0, p1, p2, p3, p4, p5]) rfl ?_
  have own : ∀ {ty sz k : Nat} {x : Value} {xs : List Value}, w4.ownsRow w2.heap.size ty sz x k xs → W.ownsRow w2.heap.size ty sz x k xs := fun {_ _ _ _ _} ho =>
    ho.kept hWg (.inr (fun e2 => by have := (ho.lt _ e2).1; omega))
  have hsz : ∀ s ∈ b.words, s.size ≤ 140737488355328 := fun s hs => by have := (atB_size (PtD.wordsB_at HG.out.ws s hs)).2; omega
  have hkeys : KeysOk W W.heap.size rs := fun r hr => by
    have hm : r.m ∈ b.msgs := by rw [← RM.out]; exact List.mem_map_of_mem hr
    obtain ⟨_, _, _, g4, _, g6, g7⟩ := PtD.mm_parts (HG.out.ms r.m hm).1
    have g8 := F3D.keys_len g6
    have g9 := (atB_size g4).2
    have g10 := HG.out.wl
    obtain ⟨A9, c9, e9, h9⟩ := own_slice (KO4.out r hr)
    injection e9 with e1 e2 e3
    exact ⟨intsAt_own (own (KO4.out r hr)) (by omega), by omega, by omega, by omega⟩
  have hm5 := msgsAt_own (own OM4.out) (by omega) hkeys
  rw [RM.out] at hm5
  have e1 : (pbx b).words.length = wn := HX.out.len
  have e2 : (pbx b).msgs.length = mn := HM.out.len
  unfold ProjOut
  rw [e1, e2]
  exact ⟨A1, k1, A2, k2, rfl, hk1, hk2, strsAt_own (own OW4.out) (by omega) hsz, hm5, P4.out.bel.grown hWg P4.out.bel.size (fun k e => by have : w.heap.size + 1 = k := Option.some.inj e; omega)⟩
end Go.Proofs.YtchlbbndfhibgaaGreatDoor.F3Pj
