/-
  The document's Add.
-/
import Derived.Test.YtnicijeeocknaaaDoorRmE
import Derived.Test.YtnicijeeocknaaaDoorRwW15
import Derived.Test.YtnicijeeocknaaaDoorBxO
set_option linter.unusedVariables false
set_option linter.unusedSimpArgs false
namespace Go.Proofs.YtnicijeeocknaaaDoor.RmF
open Go.RowKit Go.Proofs.YtnicijeeocknaaaDoor.BxD Go.Proofs.YtnicijeeocknaaaDoor.BxKit Go.Proofs.YtnicijeeocknaaaDoor.BxA Go.Proofs.YtnicijeeocknaaaDoor.BxB Go.Proofs.YtnicijeeocknaaaDoor.BxM Go.Proofs.YtnicijeeocknaaaDoor.BxF Go.Proofs.YtnicijeeocknaaaDoor.BxR Go.Proofs.YtnicijeeocknaaaDoor.BxC Go.Proofs.YtnicijeeocknaaaDoor.BxO Go.Proofs.YtnicijeeocknaaaDoor.RwD Go.Proofs.YtnicijeeocknaaaDoor.RwM Go.Proofs.YtnicijeeocknaaaDoor.RwKit Go.Proofs.YtnicijeeocknaaaDoor.RwRo Go.Proofs.YtnicijeeocknaaaDoor.RwW15 Go.Proofs.YtnicijeeocknaaaDoor.RmD Go.Proofs.YtnicijeeocknaaaDoor.RmA Go.Proofs.YtnicijeeocknaaaDoor.RmB Go.Proofs.YtnicijeeocknaaaDoor.RmC

/-- A row of the call's own is no block of another type. -/
theorem own_blk {w : World} {b0 e sz n k : Nat} {v : Value} {xs : List Value} {cs : Array Value} {t : TypeId} {fr : Nat × Nat} (h : w.ownsRow b0 e sz v n xs) (hg : w.heap[k]? = some (.cells cs t fr)) (hne : e ≠ t) : v.ownBlock ≠ some k := by
  rcases h.2 with ⟨hv, _⟩ | ⟨g, cap, cur, hv, _, hg2, _⟩
  · subst hv; intro e; cases e
  · subst hv
    intro e3
    obtain rfl : g = k := Option.some.inj e3
    rw [hg] at hg2
    injection hg2 with hg2
    injection hg2 with _ e2
    exact hne e2.symm
theorem cell_grown (w : World) (a : Addr) (u : Value) : w.grownBy (w.setCell a u) (some a.block) :=
  ⟨rfl, rfl, rfl, by simp [World.setCell], fun k _ hne => Below.heap_setCell w a u k (fun e => hne (by rw [e]))⟩
theorem own_set {w : World} {b0 e sz n k i : Nat} {v u : Value} {xs : List Value} {cs : Array Value} {t : TypeId} {fr : Nat × Nat} (h : w.ownsRow b0 e sz v n xs) (hg : w.heap[k]? = some (.cells cs t fr)) (hne : e ≠ t) : (w.setCell ⟨k, i, none⟩ u).ownsRow b0 e sz v n xs :=
  h.kept (cell_grown w ⟨k, i, none⟩ u) (.inr (own_blk h hg hne))
/-- The box's block, the message's. -/
structure SA (w wr : World) (P : Nat) (b : Box) (vw vm : Value) (c0 c1 c2 c3 c4 c5 c6 : Value) : Prop where
  bel : Below w.heap.size w wr
  lo : w.heap.size < P
  box : wr.heap[w.heap.size]? = some (.cells #[.string b.id, .int .i64 b.valid, .int .i64 b.next, .int .i64 b.high, vw, vm] 25 (0, 0))
  msg : wr.heap[P]? = some (.cells #[c0, c1, c2, c3, c4, c5, c6] 28 (0, 0))
section
variable {w wr w2 : World} {P : Nat} {b : Box} {vw vm c0 c1 c2 c3 c4 c5 c6 : Value}
theorem SA.bl (h : SA w wr P b vw vm c0 c1 c2 c3 c4 c5 c6) : w.heap.size < wr.heap.size ∧ P < wr.heap.size := ⟨(Array.getElem?_eq_some_iff.1 h.box).1, (Array.getElem?_eq_some_iff.1 h.msg).1⟩
theorem SA.go (h : SA w wr P b vw vm c0 c1 c2 c3 c4 c5 c6) (hb : Below wr.heap.size wr w2) : SA w w2 P b vw vm c0 c1 c2 c3 c4 c5 c6 :=
  ⟨h.bel.trans (hb.mono h.bel.size), h.lo, (hb.block _ h.bl.1).trans h.box, (hb.block _ h.bl.2).trans h.msg⟩
theorem SA.alloc (h : SA w wr P b vw vm c0 c1 c2 c3 c4 c5 c6) (o : Obj) : SA w (wr.alloc o) P b vw vm c0 c1 c2 c3 c4 c5 c6 := h.go ((Below.refl _ _).alloc (Nat.le_refl _) o)
theorem SA.grown {b0 e sz n : Nat} {v : Value} {xs : List Value} (h : SA w wr P b vw vm c0 c1 c2 c3 c4 c5 c6) (hg : wr.grownBy w2 v.ownBlock) (ho : wr.ownsRow b0 e sz v n xs) (hb : w.heap.size ≤ b0) (e1 : e ≠ 25) (e2 : e ≠ 28) : SA w w2 P b vw vm c0 c1 c2 c3 c4 c5 c6 :=
  ⟨h.bel.grown hg h.bel.size (fun g e => Nat.le_trans hb (ho.lt g e).1), h.lo, (hg.block _ h.bl.1 (fun e => own_blk ho h.box e1 e.symm)).trans h.box, (hg.block _ h.bl.2 (fun e => own_blk ho h.msg e2 e.symm)).trans h.msg⟩
theorem SA.cells (h : SA w wr P b vw vm c0 c1 c2 c3 c4 c5 c6) : (wr.cell? { block := w.heap.size, off := 0 } = some (.string b.id) ∧ wr.cell? { block := w.heap.size, off := 1 } = some (.int .i64 b.valid) ∧ wr.cell? { block := w.heap.size, off := 2 } = some (.int .i64 b.next) ∧ wr.cell? { block := w.heap.size, off := 3 } = some (.int .i64 b.high) ∧ wr.cell? { block := w.heap.size, off := 4 } = some vw ∧ wr.cell? { block := w.heap.size, off := 5 } = some vm ∧ wr.frozen? { block := w.heap.size, off := 4 } = false) ∧
    (wr.cell? { block := P, off := 0 } = some c0 ∧ wr.cell? { block := P, off := 1 } = some c1 ∧ wr.cell? { block := P, off := 2 } = some c2 ∧ wr.cell? { block := P, off := 3 } = some c3 ∧ wr.cell? { block := P, off := 4 } = some c4 ∧ wr.cell? { block := P, off := 5 } = some c5 ∧ wr.cell? { block := P, off := 6 } = some c6 ∧ wr.frozen? { block := P, off := 3 } = false ∧ wr.frozen? { block := P, off := 5 } = false) := by
  have a := fun o => cell_of_row wr w.heap.size o _ _ _ h.box
  have c := fun o => cell_of_row wr P o _ _ _ h.msg
  exact ⟨⟨(a 0).trans rfl, (a 1).trans rfl, (a 2).trans rfl, (a 3).trans rfl, (a 4).trans rfl, (a 5).trans rfl, by simp [World.frozen?, h.box]⟩, (c 0).trans rfl, (c 1).trans rfl, (c 2).trans rfl, (c 3).trans rfl, (c 4).trans rfl, (c 5).trans rfl, (c 6).trans rfl, by simp [World.frozen?, h.msg], by simp [World.frozen?, h.msg]⟩
theorem SA.set3 (h : SA w wr P b vw vm c0 c1 c2 c3 c4 c5 c6) (u : Value) : SA w (wr.setCell { block := P, off := 3 } u) P b vw vm c0 c1 c2 u c4 c5 c6 :=
  ⟨h.bel.setCell (show w.heap.size ≤ P from Nat.le_of_lt h.lo) u, h.lo, (Below.heap_setCell _ _ _ _ (by show w.heap.size ≠ P; have := h.lo; omega)).trans h.box, by simp [World.setCell, Array.getElem?_modify, h.msg]⟩
theorem SA.set5 (h : SA w wr P b vw vm c0 c1 c2 c3 c4 c5 c6) (u : Value) : SA w (wr.setCell { block := P, off := 5 } u) P b vw vm c0 c1 c2 c3 c4 u c6 :=
  ⟨h.bel.setCell (show w.heap.size ≤ P from Nat.le_of_lt h.lo) u, h.lo, (Below.heap_setCell _ _ _ _ (by show w.heap.size ≠ P; have := h.lo; omega)).trans h.box, by simp [World.setCell, Array.getElem?_modify, h.msg]⟩
theorem SA.set4 (h : SA w wr P b vw vm c0 c1 c2 c3 c4 c5 c6) (u : Value) : SA w (wr.setCell { block := w.heap.size, off := 4 } u) P b u vm c0 c1 c2 c3 c4 c5 c6 :=
  ⟨h.bel.setCell (Nat.le_refl _) u, h.lo, by simp [World.setCell, Array.getElem?_modify, h.box], (Below.heap_setCell _ _ _ _ (by show P ≠ w.heap.size; have := h.lo; omega)).trans h.msg⟩
end
theorem rowsOut_nil {w w' : World} {er : Int} (hb : Below w.heap.size w w') : RowsOut [] er w (.returned (.tuple #[.slice none 0 0, .int .i64 er])) w' := ⟨none, 0, 0, rfl, Nat.le_refl _, RowAt.nil _ _ _ _ _, hb⟩
theorem plL_all {all words : List ByteArray} (h : ∀ x ∈ words, x ∈ all) : words.map (plI all) = plL all words := by
  unfold plL
  rw [List.filter_eq_self.2]
  intro k hk
  obtain ⟨x, hx, rfl⟩ := List.mem_map.1 hk
  have : ¬ plI all x < 0 := fun h1 => plI_neg.1 h1 (h x hx)
  simpa using this
theorem own_size (id : ByteArray) (u : Int) (h : u ≤ 9223372036854775807) (hid : id.size ≤ 200) : (ownT id u).size ≤ 300 := by
  rw [BxO.own_parts]
  have := BxO.digs_len h
  simp only [ByteArray.size_append]
  have e1 : (⟨#[101]⟩ : ByteArray).size = 1 := rfl
  have e2 : (⟨#[45]⟩ : ByteArray).size = 1 := rfl
  have e3 : (⟨(BxO.digs u).toArray⟩ : ByteArray).size = (BxO.digs u).length := by show ((BxO.digs u).toArray).size = _; simp
  omega
theorem idx_len (n : Nat) (p : Nat → Bool) : (idx n p).length ≤ n := by
  unfold idx
  rw [List.length_map]
  exact Nat.le_trans (List.length_filter_le _ _) (by simp)
theorem nodup_of {ws : List ByteArray} (h : wordsB ws = true) : ws.Nodup := ((wordsB_iff ws).1 h).2
set_option maxHeartbeats 2000000 in
set_option maxRecDepth 100000 in
theorem refAdd_one {w : World} {b : Box} {date flags : Int} {id text : ByteArray} {words : List ByteArray} {WA MA A : Option Addr} {wn wc mn mcp n cp B : Nat} (hx : StrsAt w B WA wn b.words) (hm : MsgsAt w B MA mn b.msgs) (hwc : wn ≤ wc) (hB : B ≤ w.heap.size) (hz : StrsAt w B A n words) (hn : n ≤ cp) (h : mbE b ≠ 0 ∨ wordsB words = false) :
    Calls Tryd.prog 8 #[.agg #[.string b.id, .int .i64 b.valid, .int .i64 b.next, .int .i64 b.high, .slice WA wn wc, .slice MA mn mcp], .int .i64 date, .string id, .int .i64 flags, .slice A n cp, .string text] w (RowsOut (addP b date id flags words text) (addE b date id flags words text) w) := by
  have hE : addE b date id flags words text = 1 := by unfold addE; rw [if_pos h]
  have hP : addP b date id flags words text = [] := by unfold addP; rw [hE]; rfl
  rw [hE, hP]
  have A0 := Lib.hid (After.start w (.cells #[.string b.id, .int .i64 b.valid, .int .i64 b.next, .int .i64 b.high, .slice WA wn wc, .slice MA mn mcp] 25))
  have hbl := A0.out.below
  have km := ref_may (bid := b.id) (bv := b.valid) (bn := b.next) (bh := b.high) (mc := mcp) (StrsAt.below hx hbl hB) (MsgsAt.below hm hbl hB) (by simp; omega) hwc
  rw [show mbE ⟨b.id, b.valid, b.next, b.high, b.words, b.msgs⟩ = mbE b from rfl] at km
  obtain ⟨E, hEE⟩ : ∃ E, E = mbE b := ⟨_, rfl⟩
  rw [← hEE] at km h
  have KM := Lib.hid km
  have HZ := Lib.hid hz
  clear hbl km hx hm hz hE hP hEE
  by_cases he : E = 0
  · have hw : wordsB words = false := h.resolve_left (fun h => h he)
    have HW := Lib.hid hw
    subst he
    clear h hw
    go_enter Tryd.func8, Tryd.ntmps8
    go_upto_region 1 with fail
    generalize (World.alloc w _) = w1 at A0 KM ⊢
    obtain ⟨c0, c1, c2, c3, c4, c5⟩ := A0.out.box
    go_wp2_with (first
      | (go_at_call 23; go_loud (
                 refine KM.out.mono ?_
                 rintro e w2 ⟨rfl, hb2⟩
                 have A2 := Lib.hid (A0.out.go hb2)
                 have kw := mayWords_any (cp := cp) (StrsAt.below HZ.out A2.out.below hB) hn (by have := A2.out.size; omega)
                 rw [HW.out] at kw
                 have KW := Lib.hid kw
                 clear hb2 kw c0 c1 c2 c3 c4 c5))
      | (go_at_call 24; go_loud (refine KW.out.mono ?_; rintro e w3 ⟨rfl, rfl⟩)))
    refine bodyPost_ret (v := .tuple #[.slice none 0 0, .int .i64 (1)]) (by rw [results_tmp2 (t := 12) (u := 13) rfl]; rfl) rfl ?_
    exact rowsOut_nil A2.out.below
  · have he2 : (E != 0) = true := by simpa using he
    clear h he
    go_enter Tryd.func8, Tryd.ntmps8
    go_upto_region 1 with fail
    generalize (World.alloc w _) = w1 at A0 KM ⊢
    obtain ⟨c0, c1, c2, c3, c4, c5⟩ := A0.out.box
    go_wp2_with (go_at_call 23; go_loud (
                 refine KM.out.mono ?_
                 rintro e w2 ⟨rfl, hb2⟩
                 have A2 := Lib.hid (A0.out.go hb2)
                 clear hb2 c0 c1 c2 c3 c4 c5))
    refine bodyPost_ret (v := .tuple #[.slice none 0 0, .int .i64 (1)]) (by rw [results_tmp2 (t := 12) (u := 13) rfl]; rfl) rfl ?_
    exact rowsOut_nil A2.out.below
set_option maxHeartbeats 8000000 in
set_option maxRecDepth 100000 in
theorem refAdd_go {w : World} {b : Box} {date flags : Int} {id text : ByteArray} {words : List ByteArray} {WA MA A : Option Addr} {wn wc mn mcp n cp B : Nat} (ht : BxO.Tab w) (hx : StrsAt w B WA wn b.words) (hm : MsgsAt w B MA mn b.msgs) (hwc : wn ≤ wc) (hB : B ≤ w.heap.size) (hz : StrsAt w B A n words) (hn : n ≤ cp) (h0 : mbE b = 0) (hw : wordsB words = true) (hfew : words.length ≤ 100000) (zi : id.size ≤ 140737488355328) (zt : text.size ≤ 140737488355328) :
    Calls Tryd.prog 8 #[.agg #[.string b.id, .int .i64 b.valid, .int .i64 b.next, .int .i64 b.high, .slice WA wn wc, .slice MA mn mcp], .int .i64 date, .string id, .int .i64 flags, .slice A n cp, .string text] w (RowsOut (addP b date id flags words text) (addE b date id flags words text) w) := by
  have h01 : ¬ (mbE b ≠ 0 ∨ wordsB words = false) := by rw [h0, hw]; simp
  have hn1 : n ≤ 100000 := by rw [← hz.len]; exact hfew
  have hmb := (mb_iff b).1 h0
  obtain ⟨_, hid12, _, hh, hnx1, hnx2⟩ := head_parts hmb.1
  have hwn : wn ≤ 64 := by rw [← hx.len]; exact hmb.2.1
  have hwd := nodup_of hw
  have hbd := nodup_of hmb.2.2.2.1
  have A0 := Lib.hid (After.start w (.cells #[.string b.id, .int .i64 b.valid, .int .i64 b.next, .int .i64 b.high, .slice WA wn wc, .slice MA mn mcp] 25))
  have hbl := A0.out.below
  have km := ref_may (bid := b.id) (bv := b.valid) (bn := b.next) (bh := b.high) (mc := mcp) (StrsAt.below hx hbl hB) (MsgsAt.below hm hbl hB) (by simp; omega) hwc
  rw [show mbE ⟨b.id, b.valid, b.next, b.high, b.words, b.msgs⟩ = 0 from h0] at km
  have KM := Lib.hid km
  have HZ := Lib.hid hz
  have HX := Lib.hid hx
  have HT := Lib.hid ht
  have HWD := Lib.hid hwd
  have HBD := Lib.hid hbd
  have HWB := Lib.hid hw
  have HML := Lib.hid hm.len
  have H01 := Lib.hid h01
  have HI12 := Lib.hid hid12
  clear hbl km hx hm hz ht hmb hwd hbd h01 hw hid12 hfew h0
  obtain ⟨E, hEE⟩ : ∃ E, E = addE b date id flags words text := ⟨_, rfl⟩
  obtain ⟨R, hRR⟩ : ∃ R, R = addP b date id flags words text := ⟨_, rfl⟩
  rw [← hEE, ← hRR]
  have HE := Lib.hid hEE
  have HR := Lib.hid (show R = if E = 0 then addL b date id flags words text else [] by rw [hRR, hEE]; rfl)
  clear hEE hRR
  go_enter Tryd.func8, Tryd.ntmps8
  go_upto_region 1 with fail
  generalize (World.alloc w _) = w1 at A0 KM ⊢
  obtain ⟨c0, c1, c2, c3, c4, c5⟩ := A0.out.box
  go_upto_region 3 with (first
      | (go_at_call 23; go_loud (
                 refine KM.out.mono ?_
                 rintro e w2 ⟨rfl, hb2⟩
                 have A2 := Lib.hid (A0.out.go hb2)
                 have kw := mayWords_any (cp := cp) (StrsAt.below HZ.out A2.out.below hB) hn (by have := A2.out.size; omega)
                 rw [HWB.out] at kw
                 have KW := Lib.hid kw
                 clear hb2 kw c0 c1 c2 c3 c4 c5))
      | (go_at_call 24; go_loud (refine KW.out.mono ?_; rintro e w3 ⟨rfl, rfl⟩)))
  clear KM KW A0
  have hs2 := A2.out.size
  have KI := Lib.hid (with_any (w := w2) (b := b) (wc := wc) (mc := mcp) (MA := MA) (mn := mn) (cp := cp) (StrsAt.below HX.out A2.out.below hB) (StrsAt.below HZ.out A2.out.below hB) (by omega) HWD.out (by omega) (by omega))
  unfold WiPost at KI
  obtain ⟨c0, c1, c2, c3, c4, c5⟩ := A2.out.box
  go_upto_region 4 with (go_at_call 25; go_loud (
     refine KI.out.mono ?_
     rintro e w3 ⟨A1, n1, k1, A2', n2, k2, rfl, hc1, hc2, hl1, hl2, hsa, hro, hb3⟩
     have A3 := Lib.hid (A2.out.go hb3)
     have HSA := Lib.hid hsa
     have HRO := Lib.hid hro
     have HL1 := Lib.hid hl1
     have HL2 := Lib.hid hl2
     have hs23 := hb3.size
     have hn2 : n2 ≤ 100000 := by
       have h1 : (newW b.words words).length ≤ words.length := (newW_sub _ _).length_le
       have h2 := HZ.out.len
       omega
     clear hsa hro hb3 hl1 hl2 c0 c1 c2 c3 c4 c5))
  clear KI
  have hs3 := A3.out.size
  obtain ⟨c0, c1, c2, c3, c4, c5⟩ := A3.out.box
  by_cases hfull : 60 ≤ mn ∨ 64 < n1
  · have he4 : E = 4 := by
      rw [HE.out]
      unfold addE
      rw [if_neg H01.out, if_pos (by rw [HML.out, ← HL1.out]; exact hfull)]
    have HP := Lib.hid (show RowsOut R E w (.returned (.tuple #[.slice none 0 0, .int .i64 4])) w3 by
      rw [HR.out, he4, if_neg (by decide)]
      exact rowsOut_nil A3.out.below)
    clear he4
    by_cases h60 : 60 ≤ mn
    · have i1 : (60 : Int) ≤ (mn : Int) := by omega
      go_wp2_with fail
      refine bodyPost_ret (v := .tuple #[.slice none 0 0, .int .i64 (4)]) (by rw [results_tmp2 (t := 12) (u := 13) rfl]; rfl) rfl ?_
      exact HP.out
    · have i1 : ¬ (60 : Int) ≤ (mn : Int) := by omega
      have i2 : (64 : Int) < (n1 : Int) := by omega
      go_wp2_with fail
      refine bodyPost_ret (v := .tuple #[.slice none 0 0, .int .i64 (4)]) (by rw [results_tmp2 (t := 12) (u := 13) rfl]; rfl) rfl ?_
      exact HP.out
  have hf1 : ¬ (60 : Int) ≤ (mn : Int) := by omega
  have hf2 : ¬ (64 : Int) < (n1 : Int) := by omega
  have hf3 : n1 ≤ 64 := by omega
  have HNF := Lib.hid (show ¬ (60 ≤ b.msgs.length ∨ 64 < (allW b.words words).length) by rw [HML.out, ← HL1.out]; exact hfull)
  clear hfull
  by_cases hov : 1000000 ≤ b.high ∨ 1000000 ≤ b.next
  · have he4 : E = 9 := by
      rw [HE.out]
      unfold addE
      rw [if_neg H01.out, if_neg HNF.out, if_pos hov]
    have HP := Lib.hid (show RowsOut R E w (.returned (.tuple #[.slice none 0 0, .int .i64 9])) w3 by
      rw [HR.out, he4, if_neg (by decide)]
      exact rowsOut_nil A3.out.below)
    clear he4
    by_cases h60 : 1000000 ≤ b.high
    · go_wp2_with fail
      refine bodyPost_ret (v := .tuple #[.slice none 0 0, .int .i64 (9)]) (by rw [results_tmp2 (t := 12) (u := 13) rfl]; rfl) rfl ?_
      exact HP.out
    · have i2 : 1000000 ≤ b.next := by omega
      go_wp2_with fail
      refine bodyPost_ret (v := .tuple #[.slice none 0 0, .int .i64 (9)]) (by rw [results_tmp2 (t := 12) (u := 13) rfl]; rfl) rfl ?_
      exact HP.out
  have ho1 : ¬ 1000000 ≤ b.high := by omega
  have ho2 : ¬ 1000000 ≤ b.next := by omega
  have HEV := Lib.hid (show E = mmE (allW b.words words).length (addM b date id flags words text) by
    rw [HE.out]
    unfold addE
    rw [if_neg H01.out, if_neg HNF.out, if_neg hov])
  clear hov
  have HSB := Lib.hid (show SA w (w3.alloc (.cells #[.int .i64 b.next, .int .i64 (b.high + 1), .int .i64 date, .string id, .int .i64 flags, .slice none 0 0, .string text] 28)) w3.heap.size b (.slice WA wn wc) (.slice MA mn mcp) (.int .i64 b.next) (.int .i64 (b.high + 1)) (.int .i64 date) (.string id) (.int .i64 flags) (.slice none 0 0) (.string text) from
    ⟨A3.out.below.alloc A3.out.below.size _, by omega, (heap_alloc_old w3 _ (by omega)).trans ((Below.block A3.out w.heap.size (by omega)).trans (heap_alloc_new w _)), heap_alloc_new w3 _⟩)
  have HB34 := Lib.hid ((Below.refl w3.heap.size w3).alloc (Nat.le_refl _) (.cells #[.int .i64 b.next, .int .i64 (b.high + 1), .int .i64 date, .string id, .int .i64 flags, .slice none 0 0, .string text] 28))
  have HRO4 := Lib.hid (HRO.out.alloc (.cells #[.int .i64 b.next, .int .i64 (b.high + 1), .int .i64 date, .string id, .int .i64 flags, .slice none 0 0, .string text] 28))
  go_upto_region 9 with fail
  obtain ⟨P, hP⟩ : ∃ P, P = w3.heap.size := ⟨_, rfl⟩
  rw [← hP] at HSB ⊢
  have HPE := Lib.hid hP
  clear hP c0 c1 c2 c3 c4 c5 A3
  generalize (World.alloc w3 _) = w4 at HSB HB34 HRO4 ⊢
  by_cases hem : id.size = 0
  · have hq : (id.toList == (ByteArray.mk #[]).toList) = true := by
      obtain rfl : id = ⟨#[]⟩ := by cases id with | mk d => simp [ByteArray.size] at hem; rw [hem]
      exact beq_self_eq_true _
    have hq2 : id.toList.isEmpty = true := by
      obtain rfl : id = ⟨#[]⟩ := by cases id with | mk d => simp [ByteArray.size] at hem; rw [hem]
      rw [ByteArray.toList_eq]; rfl
    have hid12 := HI12.out
    have KO := Lib.hid (refOwn_any (id := b.id) (u := b.next) (w := w4) (HT.out.below HSB.out.bel (Nat.le_refl _)) (by omega) (by omega))
    obtain ⟨ID, hID⟩ : ∃ ID, ID = ownT b.id b.next := ⟨_, rfl⟩
    rw [← hID] at KO
    have HID := Lib.hid (show (if id.size = 0 then ownT b.id b.next else id) = ID by rw [if_pos hem, hID])
    have hzid : ID.size ≤ 140737488355328 := by rw [hID]; exact Nat.le_trans (own_size b.id b.next (by omega) (by omega)) (by decide)
    clear hem hID
    obtain ⟨⟨c0, c1, c2, c3, c4, c5, cf⟩, d0, d1, d2, d3, d4, d5, d6, df3, df5⟩ := HSB.out.cells
    go_upto_region 11 with (go_at_call 26; go_loud (
       refine KO.out.mono ?_
       rintro e w5 ⟨rfl, hb5⟩
       have HSB5 := Lib.hid (HSB.out.go hb5)
       have HRO5 := Lib.hid (own_go HRO4.out hb5)
       have HB35 := Lib.hid (HB34.out.trans (hb5.mono HB34.out.size))
       clear hb5 c0 c1 c2 c3 c4 c5 cf d0 d1 d2 d3 d4 d5 d6 df3 df5
       obtain ⟨⟨c0, c1, c2, c3, c4, c5, cf⟩, d0, d1, d2, d3, d4, d5, d6, df3, df5⟩ := HSB5.out.cells))
    clear c0 c1 c2 c3 c4 c5 cf d0 d1 d2 d3 d4 d5 d6 df3 df5 HSB HRO4 HB34
    have HSB := Lib.hid (HSB5.out.set3 (.string ID))
    have HRO4 := Lib.hid (own_set (i := 3) (u := .string ID) HRO5.out HSB5.out.msg (by decide))
    have HB34 := Lib.hid (Below.setCell HB35.out (p := ⟨P, 3, none⟩) (by show w3.heap.size ≤ P; rw [HPE.out]; exact Nat.le_refl _) (.string ID))
    clear HSB5 HRO5 HB35
    generalize (World.setCell w5 _ _) = W at HSB HRO4 HB34 ⊢
    go_upto_region 13 with fail
    have hks0 : words.map (plI (allW b.words words)) = plL (allW b.words words) words := plL_all fun x hx => allW_mem hx
    go_loopw [72, 17] (fun s72 s17 wr => ∃ (k : Nat) (v : Value), v = s17 ∧ k ≤ n ∧ s72 = .int .i64 k ∧ Hid (SA w wr P b (.slice WA wn wc) (.slice MA mn mcp) (.int .i64 b.next) (.int .i64 (b.high + 1)) (.int .i64 date) (.string ID) (.int .i64 flags) (.slice none 0 0) (.string text)) ∧
        Hid (wr.ownsRow w2.heap.size 51 11 (.slice A2' n2 k2) n2 (rc ((newW b.words words).map wRaw))) ∧ Hid (Below w3.heap.size w3 wr) ∧ Hid (wr.ownsRow P 3 1 v k (((words.take k).map (plI (allW b.words words))).map (Value.int .i64)))) (fun s72 _ _ => n - (intOf s72).toNat)
    case atStart => exact ⟨0, _, rfl, Nat.zero_le _, rfl, HSB, HRO4, HB34, Lib.hid (World.ownsRow_nil _ _ _ _)⟩
    case round =>
      clear HSB HRO4 HB34
      obtain ⟨k, v, rfl, hk, rfl, HSB, HRO4, HB34, HV⟩ := hrel
      have hsz := HB34.out.size
      by_cases hlt : k < n
      · obtain ⟨ad, x, rfl, e1, m0⟩ := StrsAt.at_ HZ.out HSB.out.bel hB hlt
        have g0 : (0 : Int) ≤ (k : Int) := by omega
        have g1 : (k : Int) < (n : Int) := by omega
        have HST := Lib.hid (show (words.take (k + 1)).map (plI (allW b.words words)) = (words.take k).map (plI (allW b.words words)) ++ [plI (allW b.words words) x] by
          obtain ⟨hl, e⟩ := List.getElem?_eq_some_iff.1 e1
          rw [List.take_succ_eq_append_getElem hl, e, List.map_append]; rfl)
        have KP := Lib.hid (place_any (cp := k1) (x := x) (StrsAt.below HSA.out HB34.out (Nat.le_refl _)))
        obtain ⟨pp, hpp⟩ : ∃ pp, pp = plI (allW b.words words) x := ⟨_, rfl⟩
        rw [← hpp] at KP HST
        clear e1 hpp
        go_wp2_with (first
          | (go_at_call 27; go_loud (refine KP.out.mono ?_; rintro e w6 ⟨rfl, rfl⟩))
          | (at_builtin; go_loud (
             refine wpList_rows elI rfl _ _ rfl rfl rfl (HV.out.alloc (.cells #[.int .i64 pp] 3)) (src_new _ #[.int .i64 pp] 3 (m := 1) (sz := 1) rfl rfl (fun u hu => by simp at hu; subst hu; rfl)) (by unfold maxLen; omega) (by omega) (by have := HPE.out; simp; omega) ?_
             intro v7 w7 hown hg _
             have HV7 := Lib.hid (show w7.ownsRow P 3 1 v7 (k + 1) (((words.take (k + 1)).map (plI (allW b.words words))).map (Value.int .i64)) by rw [HST.out, List.map_append]; exact hown)
             have HSB7 := Lib.hid (SA.grown (HSB.out.alloc (.cells #[.int .i64 pp] 3)) hg (HV.out.alloc (.cells #[.int .i64 pp] 3)) (Nat.le_of_lt HSB.out.lo) (by decide) (by decide))
             have HRO7 := Lib.hid ((HRO4.out.alloc (.cells #[.int .i64 pp] 3)).kept hg (own_apart (HRO4.out.alloc (.cells #[.int .i64 pp] 3)) (HV.out.alloc (.cells #[.int .i64 pp] 3)) (by decide)))
             have HB37 := Lib.hid ((HB34.out.alloc HB34.out.size (.cells #[.int .i64 pp] 3)).grown hg (by simp; omega) (fun g e => by have := (HV.out.lt g e).1; have := HPE.out; omega))
             clear hown hg)))
        go_roundw
        case rel => exact ⟨k + 1, _, rfl, hlt, by go_num, HSB7, HRO7, HB37, HV7⟩
        case measure => exact meas hlt
      · obtain rfl : k = n := by omega
        obtain ⟨AV, cv, rfl, hcv⟩ := own_slice HV.out
        have hti : words.take k = words := List.take_of_length_le (by rw [HZ.out.len]; exact Nat.le_refl _)
        have hV := HV.out
        rw [hti, hks0] at hV
        have HVI := Lib.hid (intsAt_own hV (by omega))
        clear hti hV
        have KS := Lib.hid (sorted_any (cp := cv) HVI.out (Nat.le_refl _) (by omega))
        rw [srt_kW (allW_nodup HBD.out HWD.out)] at KS
        obtain ⟨K, hK⟩ : ∃ K, K = kW (allW b.words words) words := ⟨_, rfl⟩
        rw [← hK] at KS
        unfold SoPost at KS
        obtain ⟨q, hq⟩ : ∃ q, q = K.length := ⟨_, rfl⟩
        rw [← hq] at KS
        have HQ := Lib.hid hq
        have HK := Lib.hid hK
        have hq64 : q ≤ 64 := by
          rw [hq, hK]
          have h1 : (kW (allW b.words words) words).length ≤ (allW b.words words).length := idx_len _ _
          have := HL1.out
          omega
        clear hq hK hks0
        obtain ⟨⟨c0, c1, c2, c3, c4, c5, cf⟩, d0, d1, d2, d3, d4, d5, d6, df3, df5⟩ := HSB.out.cells
        go_upto_region 18 with (go_at_call 28; go_loud (
           refine KS.out.mono ?_
           rintro e w8 ⟨A5, k5, rfl, hk5, ho5, hb8⟩
           have HSB8 := Lib.hid (HSB.out.go hb8)
           have HRO8 := Lib.hid (own_go HRO4.out hb8)
           have HO5 := Lib.hid ho5
           clear ho5 hb8 c0 c1 c2 c3 c4 c5 cf d0 d1 d2 d3 d4 d5 d6 df3 df5
           obtain ⟨⟨c0, c1, c2, c3, c4, c5, cf⟩, d0, d1, d2, d3, d4, d5, d6, df3, df5⟩ := HSB8.out.cells))
        clear c0 c1 c2 c3 c4 c5 cf d0 d1 d2 d3 d4 d5 d6 df3 df5 KS
        have HSB9 := Lib.hid (HSB8.out.set5 (.slice A5 q k5))
        have HRO9 := Lib.hid (own_set (i := 5) (u := .slice A5 q k5) HRO8.out HSB8.out.msg (by decide))
        have HO9 := Lib.hid (own_set (i := 5) (u := .slice A5 q k5) HO5.out HSB8.out.msg (by decide))
        generalize (World.setCell w8 _ _) = w9 at HSB9 HRO9 HO9 ⊢
        obtain ⟨⟨c0, c1, c2, c3, c4, c5, cf⟩, d0, d1, d2, d3, d4, d5, d6, df3, df5⟩ := HSB9.out.cells
        go_upto_region 19 with fail
        clear c0 c1 c2 c3 c4 c5 cf d0 d1 d2 d3 d4 d5 d6 df3 df5
        have HSX := Lib.hid (HSB9.out.set4 (.slice A1 n1 k1))
        have HROX := Lib.hid (own_set (i := 4) (u := .slice A1 n1 k1) HRO9.out HSB9.out.box (by decide))
        have HOX := Lib.hid (own_set (i := 4) (u := .slice A1 n1 k1) HO9.out HSB9.out.box (by decide))
        generalize (World.setCell w9 _ _) = wx at HSX HROX HOX ⊢
        have km := refMayMsg_cells (bid := b.id) (bv := b.valid) (bn := b.next) (bh := b.high) (WA := A1) (wn := n1) (wc := k1) (MA := MA) (mn := mn) (mc := mcp) (u := b.next) (md := b.high + 1) (d := date) (id := ID) (fl := flags) (kc := k5) (tx := text) (intsAt_own HOX.out (by omega)) (Nat.le_refl _) (by omega)
        rw [show mmE n1 ⟨b.next, b.high + 1, date, ID, flags, K, text⟩ = E by
          rw [HEV.out, HL1.out, HK.out]
          unfold addM
          rw [HID.out]] at km
        have KM := Lib.hid km
        clear km
        obtain ⟨⟨c0, c1, c2, c3, c4, c5, cf⟩, d0, d1, d2, d3, d4, d5, d6, df3, df5⟩ := HSX.out.cells
        go_upto_region 20 with (go_at_call 29; go_loud (
           refine KM.out.mono ?_
           rintro e wy ⟨rfl, hby⟩
           have HSY := Lib.hid (HSX.out.go hby)
           have HROY := Lib.hid (own_go HROX.out hby)
           have HOY := Lib.hid (own_go HOX.out hby)
           clear hby c0 c1 c2 c3 c4 c5 cf d0 d1 d2 d3 d4 d5 d6 df3 df5))
        by_cases hE0 : E = 0
        · have HR0 := Lib.hid (show R = addL b date id flags words text by rw [HR.out, if_pos hE0])
          subst hE0
          obtain ⟨⟨c0, c1, c2, c3, c4, c5, cf⟩, d0, d1, d2, d3, d4, d5, d6, df3, df5⟩ := HSY.out.cells
          have hsy := HSY.out.bl
          obtain ⟨q0, hq0⟩ : ∃ q0 : RRaw, q0 = ⟨⟨1, 0, 0, addM b date id flags words text, emT⟩, A5, k5⟩ := ⟨_, rfl⟩
          have HCL := Lib.hid (show cell11 q0 = [.int .i64 1, .int .i64 0, .int .i64 0, .int .i64 b.next, .int .i64 (b.high + 1), .int .i64 date, .string ID, .int .i64 flags, .slice A5 q k5, .string text, .string ⟨#[]⟩] by
            rw [hq0, HQ.out, HK.out]
            unfold cell11 addM
            rw [HID.out]
            rfl)
          have hs := src_row wy q0
          rw [HCL.out] at hs
          have HS := Lib.hid hs
          have HQ0 := Lib.hid hq0
          clear hs hq0
          go_wp2_with (at_builtin; go_loud (
             refine wpList_rows elR rfl _ _ rfl rfl rfl (HROY.out.alloc (.cells #[.int .i64 1, .int .i64 0, .int .i64 0, .int .i64 b.next, .int .i64 (b.high + 1), .int .i64 date, .string ID, .int .i64 flags, .slice A5 q k5, .string text, .string ⟨#[]⟩] 51)) HS.out (by unfold maxLen; omega) (by omega) (by have := HPE.out; have := HSY.out.bl.2; simp; omega) ?_
             intro vz wz hown hg _
             obtain ⟨AZ, kz, rfl, hkz⟩ := own_slice hown
             have HRZ := Lib.hid (show wz.ownsRow w2.heap.size 51 11 (.slice AZ (n2 + 1) kz) (n2 + 1) (rc ((newW b.words words).map wRaw ++ [q0])) by rw [rc_snoc, HCL.out]; exact hown)
             have HOZ := Lib.hid ((HOY.out.alloc (.cells #[.int .i64 1, .int .i64 0, .int .i64 0, .int .i64 b.next, .int .i64 (b.high + 1), .int .i64 date, .string ID, .int .i64 flags, .slice A5 q k5, .string text, .string ⟨#[]⟩] 51)).kept hg (own_apart (HOY.out.alloc (.cells #[.int .i64 1, .int .i64 0, .int .i64 0, .int .i64 b.next, .int .i64 (b.high + 1), .int .i64 date, .string ID, .int .i64 flags, .slice A5 q k5, .string text, .string ⟨#[]⟩] 51)) (HROY.out.alloc (.cells #[.int .i64 1, .int .i64 0, .int .i64 0, .int .i64 b.next, .int .i64 (b.high + 1), .int .i64 date, .string ID, .int .i64 flags, .slice A5 q k5, .string text, .string ⟨#[]⟩] 51)) (by decide)))
             have HBZ := Lib.hid ((HSY.out.bel.alloc HSY.out.bel.size (.cells #[.int .i64 1, .int .i64 0, .int .i64 0, .int .i64 b.next, .int .i64 (b.high + 1), .int .i64 date, .string ID, .int .i64 flags, .slice A5 q k5, .string text, .string ⟨#[]⟩] 51)).grown hg (by have := HSY.out.bel.size; simp; omega) (fun g e => by have := (HROY.out.lt g e).1; omega))
             clear hown hg c0 c1 c2 c3 c4 c5 cf d0 d1 d2 d3 d4 d5 d6 df3 df5))
          refine bodyPost_ret (v := .tuple #[.slice AZ (n2 + 1) kz, .int .i64 0]) (by rw [results_tmp2 (t := 12) (u := 13) rfl]; rfl) rfl ?_
          rw [HR0.out]
          refine ⟨AZ, n2 + 1, kz, rfl, hkz, ?_, HBZ.out⟩
          have hnl := HL2.out
          have hnl2 : (newW b.words words).length ≤ words.length := (newW_sub _ _).length_le
          have hzl := HZ.out.len
          have this := rowsAt_own HRZ.out (fun g e => (HRZ.out.lt g e).2) (by omega) (fun q9 hq9 => by
            rcases List.mem_append.1 hq9 with hq9 | hq9
            · exact wRaw_keys (fun y hy => strs_size HZ.out y (List.mem_filter.1 hy).1) q9 hq9
            · obtain rfl := List.mem_singleton.1 hq9
              rw [HQ0.out]
              refine ⟨?_, ?_, ?_, zt, by show (⟨#[]⟩ : ByteArray).size ≤ _; decide⟩
              · have h1 := intsAt_own HOZ.out (by omega)
                rw [HQ.out, HK.out] at h1
                exact h1
              · show (kW (allW b.words words) words).length ≤ k5
                rw [← HK.out, ← HQ.out]; exact hk5
              · show (if id.size = 0 then ownT b.id b.next else id).size ≤ _
                rw [HID.out]; exact hzid)
          rw [List.map_append, wRaw_r, show [q0].map RRaw.r = [q0.r] from rfl, HQ0.out] at this
          exact this
        · have hE1 : (E != 0) = true := by simpa using hE0
          have HP := Lib.hid (show RowsOut R E w (.returned (.tuple #[.slice none 0 0, .int .i64 E])) wy by
            rw [HR.out, if_neg hE0]
            exact rowsOut_nil HSY.out.bel)
          clear hE0
          go_wp2_with fail
          refine bodyPost_ret (v := .tuple #[.slice none 0 0, .int .i64 E]) (by rw [results_tmp2 (t := 12) (u := 13) rfl]; rfl) rfl ?_
          exact HP.out
  · have hq : (id.toList == (ByteArray.mk #[]).toList) = false := by
      rw [ByteArray.toList_eq, ByteArray.toList_eq]
      cases id with | mk d => simpa [ByteArray.size] using hem
    have hq2 : id.toList.isEmpty = false := by
      rw [ByteArray.toList_eq]
      cases id with | mk d => cases h : d.toList with
        | nil => exact absurd (by simp [ByteArray.size, ← Array.length_toList, h]) hem
        | cons a r => simp [h]
    obtain ⟨ID, hID⟩ : ∃ ID, ID = id := ⟨_, rfl⟩
    have HID := Lib.hid (show (if id.size = 0 then ownT b.id b.next else id) = ID by rw [if_neg hem, hID])
    have hzid : ID.size ≤ 140737488355328 := by rw [hID]; exact zi
    rw [← hID] at HSB
    clear hem
    obtain ⟨W, hWW⟩ : ∃ W, W = w4 := ⟨_, rfl⟩
    rw [← hWW] at HSB HRO4 HB34 ⊢
    clear hWW
    go_upto_region 11 with fail
    clear hID
    go_upto_region 13 with fail
    have hks0 : words.map (plI (allW b.words words)) = plL (allW b.words words) words := plL_all fun x hx => allW_mem hx
    go_loopw [72, 17] (fun s72 s17 wr => ∃ (k : Nat) (v : Value), v = s17 ∧ k ≤ n ∧ s72 = .int .i64 k ∧ Hid (SA w wr P b (.slice WA wn wc) (.slice MA mn mcp) (.int .i64 b.next) (.int .i64 (b.high + 1)) (.int .i64 date) (.string ID) (.int .i64 flags) (.slice none 0 0) (.string text)) ∧
        Hid (wr.ownsRow w2.heap.size 51 11 (.slice A2' n2 k2) n2 (rc ((newW b.words words).map wRaw))) ∧ Hid (Below w3.heap.size w3 wr) ∧ Hid (wr.ownsRow P 3 1 v k (((words.take k).map (plI (allW b.words words))).map (Value.int .i64)))) (fun s72 _ _ => n - (intOf s72).toNat)
    case atStart => exact ⟨0, _, rfl, Nat.zero_le _, rfl, HSB, HRO4, HB34, Lib.hid (World.ownsRow_nil _ _ _ _)⟩
    case round =>
      clear HSB HRO4 HB34
      obtain ⟨k, v, rfl, hk, rfl, HSB, HRO4, HB34, HV⟩ := hrel
      have hsz := HB34.out.size
      by_cases hlt : k < n
      · obtain ⟨ad, x, rfl, e1, m0⟩ := StrsAt.at_ HZ.out HSB.out.bel hB hlt
        have g0 : (0 : Int) ≤ (k : Int) := by omega
        have g1 : (k : Int) < (n : Int) := by omega
        have HST := Lib.hid (show (words.take (k + 1)).map (plI (allW b.words words)) = (words.take k).map (plI (allW b.words words)) ++ [plI (allW b.words words) x] by
          obtain ⟨hl, e⟩ := List.getElem?_eq_some_iff.1 e1
          rw [List.take_succ_eq_append_getElem hl, e, List.map_append]; rfl)
        have KP := Lib.hid (place_any (cp := k1) (x := x) (StrsAt.below HSA.out HB34.out (Nat.le_refl _)))
        obtain ⟨pp, hpp⟩ : ∃ pp, pp = plI (allW b.words words) x := ⟨_, rfl⟩
        rw [← hpp] at KP HST
        clear e1 hpp
        go_wp2_with (first
          | (go_at_call 27; go_loud (refine KP.out.mono ?_; rintro e w6 ⟨rfl, rfl⟩))
          | (at_builtin; go_loud (
             refine wpList_rows elI rfl _ _ rfl rfl rfl (HV.out.alloc (.cells #[.int .i64 pp] 3)) (src_new _ #[.int .i64 pp] 3 (m := 1) (sz := 1) rfl rfl (fun u hu => by simp at hu; subst hu; rfl)) (by unfold maxLen; omega) (by omega) (by have := HPE.out; simp; omega) ?_
             intro v7 w7 hown hg _
             have HV7 := Lib.hid (show w7.ownsRow P 3 1 v7 (k + 1) (((words.take (k + 1)).map (plI (allW b.words words))).map (Value.int .i64)) by rw [HST.out, List.map_append]; exact hown)
             have HSB7 := Lib.hid (SA.grown (HSB.out.alloc (.cells #[.int .i64 pp] 3)) hg (HV.out.alloc (.cells #[.int .i64 pp] 3)) (Nat.le_of_lt HSB.out.lo) (by decide) (by decide))
             have HRO7 := Lib.hid ((HRO4.out.alloc (.cells #[.int .i64 pp] 3)).kept hg (own_apart (HRO4.out.alloc (.cells #[.int .i64 pp] 3)) (HV.out.alloc (.cells #[.int .i64 pp] 3)) (by decide)))
             have HB37 := Lib.hid ((HB34.out.alloc HB34.out.size (.cells #[.int .i64 pp] 3)).grown hg (by simp; omega) (fun g e => by have := (HV.out.lt g e).1; have := HPE.out; omega))
             clear hown hg)))
        go_roundw
        case rel => exact ⟨k + 1, _, rfl, hlt, by go_num, HSB7, HRO7, HB37, HV7⟩
        case measure => exact meas hlt
      · obtain rfl : k = n := by omega
        obtain ⟨AV, cv, rfl, hcv⟩ := own_slice HV.out
        have hti : words.take k = words := List.take_of_length_le (by rw [HZ.out.len]; exact Nat.le_refl _)
        have hV := HV.out
        rw [hti, hks0] at hV
        have HVI := Lib.hid (intsAt_own hV (by omega))
        clear hti hV
        have KS := Lib.hid (sorted_any (cp := cv) HVI.out (Nat.le_refl _) (by omega))
        rw [srt_kW (allW_nodup HBD.out HWD.out)] at KS
        obtain ⟨K, hK⟩ : ∃ K, K = kW (allW b.words words) words := ⟨_, rfl⟩
        rw [← hK] at KS
        unfold SoPost at KS
        obtain ⟨q, hq⟩ : ∃ q, q = K.length := ⟨_, rfl⟩
        rw [← hq] at KS
        have HQ := Lib.hid hq
        have HK := Lib.hid hK
        have hq64 : q ≤ 64 := by
          rw [hq, hK]
          have h1 : (kW (allW b.words words) words).length ≤ (allW b.words words).length := idx_len _ _
          have := HL1.out
          omega
        clear hq hK hks0
        obtain ⟨⟨c0, c1, c2, c3, c4, c5, cf⟩, d0, d1, d2, d3, d4, d5, d6, df3, df5⟩ := HSB.out.cells
        go_upto_region 18 with (go_at_call 28; go_loud (
           refine KS.out.mono ?_
           rintro e w8 ⟨A5, k5, rfl, hk5, ho5, hb8⟩
           have HSB8 := Lib.hid (HSB.out.go hb8)
           have HRO8 := Lib.hid (own_go HRO4.out hb8)
           have HO5 := Lib.hid ho5
           clear ho5 hb8 c0 c1 c2 c3 c4 c5 cf d0 d1 d2 d3 d4 d5 d6 df3 df5
           obtain ⟨⟨c0, c1, c2, c3, c4, c5, cf⟩, d0, d1, d2, d3, d4, d5, d6, df3, df5⟩ := HSB8.out.cells))
        clear c0 c1 c2 c3 c4 c5 cf d0 d1 d2 d3 d4 d5 d6 df3 df5 KS
        have HSB9 := Lib.hid (HSB8.out.set5 (.slice A5 q k5))
        have HRO9 := Lib.hid (own_set (i := 5) (u := .slice A5 q k5) HRO8.out HSB8.out.msg (by decide))
        have HO9 := Lib.hid (own_set (i := 5) (u := .slice A5 q k5) HO5.out HSB8.out.msg (by decide))
        generalize (World.setCell w8 _ _) = w9 at HSB9 HRO9 HO9 ⊢
        obtain ⟨⟨c0, c1, c2, c3, c4, c5, cf⟩, d0, d1, d2, d3, d4, d5, d6, df3, df5⟩ := HSB9.out.cells
        go_upto_region 19 with fail
        clear c0 c1 c2 c3 c4 c5 cf d0 d1 d2 d3 d4 d5 d6 df3 df5
        have HSX := Lib.hid (HSB9.out.set4 (.slice A1 n1 k1))
        have HROX := Lib.hid (own_set (i := 4) (u := .slice A1 n1 k1) HRO9.out HSB9.out.box (by decide))
        have HOX := Lib.hid (own_set (i := 4) (u := .slice A1 n1 k1) HO9.out HSB9.out.box (by decide))
        generalize (World.setCell w9 _ _) = wx at HSX HROX HOX ⊢
        have km := refMayMsg_cells (bid := b.id) (bv := b.valid) (bn := b.next) (bh := b.high) (WA := A1) (wn := n1) (wc := k1) (MA := MA) (mn := mn) (mc := mcp) (u := b.next) (md := b.high + 1) (d := date) (id := ID) (fl := flags) (kc := k5) (tx := text) (intsAt_own HOX.out (by omega)) (Nat.le_refl _) (by omega)
        rw [show mmE n1 ⟨b.next, b.high + 1, date, ID, flags, K, text⟩ = E by
          rw [HEV.out, HL1.out, HK.out]
          unfold addM
          rw [HID.out]] at km
        have KM := Lib.hid km
        clear km
        obtain ⟨⟨c0, c1, c2, c3, c4, c5, cf⟩, d0, d1, d2, d3, d4, d5, d6, df3, df5⟩ := HSX.out.cells
        go_upto_region 20 with (go_at_call 29; go_loud (
           refine KM.out.mono ?_
           rintro e wy ⟨rfl, hby⟩
           have HSY := Lib.hid (HSX.out.go hby)
           have HROY := Lib.hid (own_go HROX.out hby)
           have HOY := Lib.hid (own_go HOX.out hby)
           clear hby c0 c1 c2 c3 c4 c5 cf d0 d1 d2 d3 d4 d5 d6 df3 df5))
        by_cases hE0 : E = 0
        · have HR0 := Lib.hid (show R = addL b date id flags words text by rw [HR.out, if_pos hE0])
          subst hE0
          obtain ⟨⟨c0, c1, c2, c3, c4, c5, cf⟩, d0, d1, d2, d3, d4, d5, d6, df3, df5⟩ := HSY.out.cells
          have hsy := HSY.out.bl
          obtain ⟨q0, hq0⟩ : ∃ q0 : RRaw, q0 = ⟨⟨1, 0, 0, addM b date id flags words text, emT⟩, A5, k5⟩ := ⟨_, rfl⟩
          have HCL := Lib.hid (show cell11 q0 = [.int .i64 1, .int .i64 0, .int .i64 0, .int .i64 b.next, .int .i64 (b.high + 1), .int .i64 date, .string ID, .int .i64 flags, .slice A5 q k5, .string text, .string ⟨#[]⟩] by
            rw [hq0, HQ.out, HK.out]
            unfold cell11 addM
            rw [HID.out]
            rfl)
          have hs := src_row wy q0
          rw [HCL.out] at hs
          have HS := Lib.hid hs
          have HQ0 := Lib.hid hq0
          clear hs hq0
          go_wp2_with (at_builtin; go_loud (
             refine wpList_rows elR rfl _ _ rfl rfl rfl (HROY.out.alloc (.cells #[.int .i64 1, .int .i64 0, .int .i64 0, .int .i64 b.next, .int .i64 (b.high + 1), .int .i64 date, .string ID, .int .i64 flags, .slice A5 q k5, .string text, .string ⟨#[]⟩] 51)) HS.out (by unfold maxLen; omega) (by omega) (by have := HPE.out; have := HSY.out.bl.2; simp; omega) ?_
             intro vz wz hown hg _
             obtain ⟨AZ, kz, rfl, hkz⟩ := own_slice hown
             have HRZ := Lib.hid (show wz.ownsRow w2.heap.size 51 11 (.slice AZ (n2 + 1) kz) (n2 + 1) (rc ((newW b.words words).map wRaw ++ [q0])) by rw [rc_snoc, HCL.out]; exact hown)
             have HOZ := Lib.hid ((HOY.out.alloc (.cells #[.int .i64 1, .int .i64 0, .int .i64 0, .int .i64 b.next, .int .i64 (b.high + 1), .int .i64 date, .string ID, .int .i64 flags, .slice A5 q k5, .string text, .string ⟨#[]⟩] 51)).kept hg (own_apart (HOY.out.alloc (.cells #[.int .i64 1, .int .i64 0, .int .i64 0, .int .i64 b.next, .int .i64 (b.high + 1), .int .i64 date, .string ID, .int .i64 flags, .slice A5 q k5, .string text, .string ⟨#[]⟩] 51)) (HROY.out.alloc (.cells #[.int .i64 1, .int .i64 0, .int .i64 0, .int .i64 b.next, .int .i64 (b.high + 1), .int .i64 date, .string ID, .int .i64 flags, .slice A5 q k5, .string text, .string ⟨#[]⟩] 51)) (by decide)))
             have HBZ := Lib.hid ((HSY.out.bel.alloc HSY.out.bel.size (.cells #[.int .i64 1, .int .i64 0, .int .i64 0, .int .i64 b.next, .int .i64 (b.high + 1), .int .i64 date, .string ID, .int .i64 flags, .slice A5 q k5, .string text, .string ⟨#[]⟩] 51)).grown hg (by have := HSY.out.bel.size; simp; omega) (fun g e => by have := (HROY.out.lt g e).1; omega))
             clear hown hg c0 c1 c2 c3 c4 c5 cf d0 d1 d2 d3 d4 d5 d6 df3 df5))
          refine bodyPost_ret (v := .tuple #[.slice AZ (n2 + 1) kz, .int .i64 0]) (by rw [results_tmp2 (t := 12) (u := 13) rfl]; rfl) rfl ?_
          rw [HR0.out]
          refine ⟨AZ, n2 + 1, kz, rfl, hkz, ?_, HBZ.out⟩
          have hnl := HL2.out
          have hnl2 : (newW b.words words).length ≤ words.length := (newW_sub _ _).length_le
          have hzl := HZ.out.len
          have this := rowsAt_own HRZ.out (fun g e => (HRZ.out.lt g e).2) (by omega) (fun q9 hq9 => by
            rcases List.mem_append.1 hq9 with hq9 | hq9
            · exact wRaw_keys (fun y hy => strs_size HZ.out y (List.mem_filter.1 hy).1) q9 hq9
            · obtain rfl := List.mem_singleton.1 hq9
              rw [HQ0.out]
              refine ⟨?_, ?_, ?_, zt, by show (⟨#[]⟩ : ByteArray).size ≤ _; decide⟩
              · have h1 := intsAt_own HOZ.out (by omega)
                rw [HQ.out, HK.out] at h1
                exact h1
              · show (kW (allW b.words words) words).length ≤ k5
                rw [← HK.out, ← HQ.out]; exact hk5
              · show (if id.size = 0 then ownT b.id b.next else id).size ≤ _
                rw [HID.out]; exact hzid)
          rw [List.map_append, wRaw_r, show [q0].map RRaw.r = [q0.r] from rfl, HQ0.out] at this
          exact this
        · have hE1 : (E != 0) = true := by simpa using hE0
          have HP := Lib.hid (show RowsOut R E w (.returned (.tuple #[.slice none 0 0, .int .i64 E])) wy by
            rw [HR.out, if_neg hE0]
            exact rowsOut_nil HSY.out.bel)
          clear hE0
          go_wp2_with fail
          refine bodyPost_ret (v := .tuple #[.slice none 0 0, .int .i64 E]) (by rw [results_tmp2 (t := 12) (u := 13) rfl]; rfl) rfl ?_
          exact HP.out
theorem refAdd_any {w : World} {b : Box} {date flags : Int} {id text : ByteArray} {words : List ByteArray} {WA MA A : Option Addr} {wn wc mn mcp n cp B : Nat} (ht : BxO.Tab w) (hx : StrsAt w B WA wn b.words) (hm : MsgsAt w B MA mn b.msgs) (hwc : wn ≤ wc) (hB : B ≤ w.heap.size) (hz : StrsAt w B A n words) (hn : n ≤ cp) (hfew : n ≤ 100000 ∨ ∃ x ∈ words, 24 < x.size) (zi : id.size ≤ 140737488355328) (zt : text.size ≤ 140737488355328) :
    Calls Tryd.prog 8 #[.agg #[.string b.id, .int .i64 b.valid, .int .i64 b.next, .int .i64 b.high, .slice WA wn wc, .slice MA mn mcp], .int .i64 date, .string id, .int .i64 flags, .slice A n cp, .string text] w (RowsOut (addP b date id flags words text) (addE b date id flags words text) w) := by
  by_cases h0 : mbE b = 0
  · by_cases hw : wordsB words = true
    · exact refAdd_go ht hx hm hwc hB hz hn h0 hw (few_words hw (by rw [hz.len]; exact hfew)) zi zt
    · exact refAdd_one hx hm hwc hB hz hn (.inr (by simpa using hw))
  · exact refAdd_one hx hm hwc hB hz hn (.inl h0)
end Go.Proofs.YtnicijeeocknaaaDoor.RmF
