/-
  Add: the rows that add a message.
-/
import Derived.Test.YtnicijeeocknaaaDoorL5
import Derived.Test.YtnicijeeocknaaaDoorJ4
import Derived.Test.YtnicijeeocknaaaDoorBxO
import Derived.Test.YtnicijeeocknaaaDoorL1
import Derived.Deep.RegionHeld3
set_option linter.unusedVariables false
set_option linter.unusedSimpArgs false
namespace Go.Proofs.YtnicijeeocknaaaDoor.RwW15
open Go.RowKit Go.Proofs.YtnicijeeocknaaaDoor.BxD Go.Proofs.YtnicijeeocknaaaDoor.BxKit Go.Proofs.YtnicijeeocknaaaDoor.BxA Go.Proofs.YtnicijeeocknaaaDoor.BxB Go.Proofs.YtnicijeeocknaaaDoor.BxM Go.Proofs.YtnicijeeocknaaaDoor.BxO Go.Proofs.YtnicijeeocknaaaDoor.BxR Go.Proofs.YtnicijeeocknaaaDoor.BxC Go.Proofs.YtnicijeeocknaaaDoor.BxV Go.Proofs.YtnicijeeocknaaaDoor.RwD Go.Proofs.YtnicijeeocknaaaDoor.RwM Go.Proofs.YtnicijeeocknaaaDoor.RwKit Go.Proofs.YtnicijeeocknaaaDoor.RwOwn Go.Proofs.YtnicijeeocknaaaDoor.RwMb Go.Proofs.YtnicijeeocknaaaDoor.RwMc Go.Proofs.YtnicijeeocknaaaDoor.RwRo Go.Proofs.YtnicijeeocknaaaDoor.RwW13 Go.Proofs.YtnicijeeocknaaaDoor.RwW14

/-- The tables that lie in memory: the digits', the flags'. -/
def Tab (w : World) : Prop := BxO.Tab w ∧ FlK.Names w
theorem Tab.below {w w' : World} {B : Nat} (h : Tab w) (hb : Below B w w') (hB : w.heap.size ≤ B) : Tab w' := ⟨h.1.below hb hB, h.2.below hb (by have := h.2.size; omega)⟩
/-- The box in its block. -/
structure FR (w wr : World) (b : Box) (vw vm : Value) : Prop where
  bel : Below w.heap.size w wr
  blk : wr.heap[w.heap.size]? = some (.cells #[.string b.id, .int .i64 b.valid, .int .i64 b.next, .int .i64 b.high, vw, vm] 25 (0, 0))
section
variable {w wr w2 : World} {b : Box} {vw vm : Value}
theorem FR.start (w : World) (b : Box) (vw vm : Value) : FR w (w.alloc (.cells #[.string b.id, .int .i64 b.valid, .int .i64 b.next, .int .i64 b.high, vw, vm] 25)) b vw vm := ⟨(Below.refl _ _).alloc (Nat.le_refl _) _, heap_alloc_new w _⟩
theorem FR.lt (h : FR w wr b vw vm) : w.heap.size < wr.heap.size := (Array.getElem?_eq_some_iff.1 h.blk).1
theorem FR.go (h : FR w wr b vw vm) (hb : Below wr.heap.size wr w2) : FR w w2 b vw vm := ⟨h.bel.trans (hb.mono (Nat.le_of_lt h.lt)), (hb.block _ h.lt).trans h.blk⟩
theorem FR.drew (h : FR w wr b vw vm) : FR w wr.drew b vw vm := ⟨h.bel.drew, h.blk⟩
theorem FR.alloc (h : FR w wr b vw vm) (o : Obj) : FR w (wr.alloc o) b vw vm := h.go ((Below.refl _ _).alloc (Nat.le_refl _) o)
theorem FR.facts (h : FR w wr b vw vm) : wr.cell? { block := w.heap.size, off := 0 } = some (.string b.id) ∧ wr.cell? { block := w.heap.size, off := 1 } = some (.int .i64 b.valid) ∧ wr.cell? { block := w.heap.size, off := 2 } = some (.int .i64 b.next) ∧ wr.cell? { block := w.heap.size, off := 3 } = some (.int .i64 b.high) ∧ wr.cell? { block := w.heap.size, off := 4 } = some vw ∧ wr.cell? { block := w.heap.size, off := 5 } = some vm := by
  obtain ⟨a0, a1, a2, a3, a4, a5, _⟩ := six_at h.blk
  exact ⟨a0, a1, a2, a3, a4, a5⟩
theorem FR.free (h : FR w wr b vw vm) (i : Nat) : wr.frozen? { block := w.heap.size, off := i } = false := by simp [World.frozen?, h.blk]
theorem FR.set4 (h : FR w wr b vw vm) (v : Value) : FR w (wr.setCell { block := w.heap.size, off := 4 } v) b v vm :=
  ⟨h.bel.setCell (Nat.le_refl _) _, by simp [World.setCell, Array.getElem?_modify, h.blk]⟩
theorem FR.fill (h : FR w wr b vw vm) {Q : Nat} (hQ : w.heap.size < Q) (q : Raw) : FR w (fill7 wr Q q) b vw vm := by
  refine ⟨?_, (fill7_other (by omega) _).trans h.blk⟩
  have hB : w.heap.size ≤ Q := by omega
  unfold fill7
  exact ((((((h.bel.setCell hB _).setCell hB _).setCell hB _).setCell hB _).setCell hB _).setCell hB _).setCell hB _
end
def addP (b : Box) (date : Int) (id : ByteArray) (flags : Int) (words : List ByteArray) (text : ByteArray) : List Row := if addE b date id flags words text = 0 then addL b date id flags words text else []
theorem few_words {zs : List ByteArray} (hw : wordsB zs = true) (h : zs.length ≤ 100000 ∨ ∃ x ∈ zs, 24 < x.size) : zs.length ≤ 100000 := by
  rcases h with h | ⟨x, hx, h⟩
  · exact h
  · have := RwOwn.atB_size (((wordsB_iff _).1 hw).1 x hx)
    omega
theorem empty_id {s : ByteArray} (h : s.size = 0) : s = ⟨#[]⟩ := by
  rcases s with ⟨d⟩
  have : d.size = 0 := h
  rw [Array.eq_empty_of_size_eq_zero this]
theorem nonempty_id {s : ByteArray} (h : ¬ s.size = 0) : s.toList.isEmpty = false := by
  rw [ByteArray.toList_eq]
  cases hl : s.data.toList with
  | nil =>
    have h2 : s.data.toList.length = s.size := by rw [Array.length_toList]; rfl
    rw [hl] at h2
    exact absurd h2.symm h
  | cons a l => rfl
theorem mb_new0 (w : World) : MB (w.alloc (.cells #[.int .i64 0, .int .i64 0, .int .i64 0, .string ⟨#[]⟩, .int .i64 0, .slice none 0 0, .string ⟨#[]⟩] 28)) w.heap.size noM none 0 := heap_alloc_new w _
theorem seven_at {w : World} {Q : Nat} {c0 c1 c2 c3 c4 c5 c6 : Value} {t : TypeId} (h : w.heap[Q]? = some (.cells #[c0, c1, c2, c3, c4, c5, c6] t (0, 0))) : w.cell? { block := Q, off := 0 } = some c0 ∧ w.cell? { block := Q, off := 1 } = some c1 ∧ w.cell? { block := Q, off := 2 } = some c2 ∧ w.cell? { block := Q, off := 3 } = some c3 ∧ w.cell? { block := Q, off := 4 } = some c4 ∧ w.cell? { block := Q, off := 5 } = some c5 ∧ w.cell? { block := Q, off := 6 } = some c6 := by
  have c := fun o => cell_of_row w Q o _ _ _ h
  exact ⟨(c 0).trans rfl, (c 1).trans rfl, (c 2).trans rfl, (c 3).trans rfl, (c 4).trans rfl, (c 5).trans rfl, (c 6).trans rfl⟩
theorem fill7_below {w : World} {B Q : Nat} (h : B ≤ Q) (q : Raw) : Below B w (fill7 w Q q) := by
  unfold fill7
  exact (((((((Below.refl B w).setCell h _).setCell h _).setCell h _).setCell h _).setCell h _).setCell h _).setCell h _
theorem rowOnes (a1 a2 a3 a4 a5 : Int) (s1 : ByteArray) (a6 : Int) (K : Option Addr) (kl kc : Nat) (s2 : ByteArray) : ∀ u ∈ [Value.int .i64 1, .int .i64 a1, .int .i64 a2, .int .i64 a3, .int .i64 a4, .int .i64 a5, .string s1, .int .i64 a6, .slice K kl kc, .string s2, .string ⟨#[]⟩], u.oneCell' = true := by
  intro u hu
  simp only [List.mem_cons, List.not_mem_nil, or_false] at hu
  rcases hu with rfl | rfl | rfl | rfl | rfl | rfl | rfl | rfl | rfl | rfl | rfl <;> rfl
theorem src_cells (w : World) {cs : List Value} {t : TypeId} (h1 : ∀ u ∈ cs, u.oneCell' = true) (hl : cs.length = 11 := by rfl) : Src (w.alloc (.cells cs.toArray t)) (some ⟨w.heap.size, 0, none⟩) 1 11 cs := by
  have := src_new w cs.toArray t (b := w.heap.size) (m := 1) (sz := 11) rfl (by simpa using hl) (by simpa using h1)
  simpa using this
theorem src_block {w : World} {Q : Nat} {cs : List Value} {t : TypeId} (h : w.heap[Q]? = some (.cells cs.toArray t (0, 0))) (h1 : ∀ u ∈ cs, u.oneCell' = true) (hl : cs.length = 11 := by rfl) : Src w (some ⟨Q, 0, none⟩) 1 11 cs :=
  ⟨by rw [hl], h1, fun _ => ⟨_, rfl, fun j u hu => by rw [add_new, cell_of_row w Q j _ _ _ h]; simpa using hu⟩⟩
theorem add_fin {w w13 : World} {b : Box} {date flags : Int} {id text nm : ByteArray} {words : List ByteArray} {ks : List Int} {A9 A13 : Option Addr} {al kl k9 k13 fl B2 B3 : Nat} (hnm : nm = (if id.size = 0 then ownT b.id b.next else id)) (hks : ks = kW (allW b.words words) words) (hkl : kl = ks.length) (hfl : fl = (newW b.words words).length)
    (hmm : mmE al ⟨b.next, b.high + 1, date, nm, flags, ks, text⟩ = 0) (hws : ∀ x ∈ words, x.size ≤ 140737488355328) (ho : w13.ownsRow B2 51 11 (.slice A13 (fl + 1) k13) (fl + 1) (rc ((newW b.words words).map rawW) ++ [.int .i64 1, .int .i64 0, .int .i64 0, .int .i64 b.next, .int .i64 (b.high + 1), .int .i64 date, .string nm, .int .i64 flags, .slice A9 kl k9, .string text, .string ⟨#[]⟩])) (hk : w13.ownsRow B3 3 1 (.slice A9 kl k9) kl (ks.map (Value.int .i64)))
    (hfn : fl ≤ 100000) (hkl6 : kl ≤ 1000000) (hb : Below w.heap.size w w13) : RowsOut (addL b date id flags words text) 0 w (.returned (.tuple #[.slice A13 (fl + 1) k13, .int .i64 0])) w13 := by
  have hmm2 : mmB al ⟨b.next, b.high + 1, date, nm, flags, ks, text⟩ = true := by
    unfold mmE at hmm
    split at hmm
    · assumption
    · cases hmm
  obtain ⟨_, _, _, q4, _, _, q7'⟩ := mm_parts hmm2
  have q7 : text.size ≤ 300 := q7'
  have q4' : nm.size ≤ 24 := RwOwn.atB_size q4
  obtain ⟨_, _, e1, hk13⟩ := own_slice ho
  obtain ⟨_, _, e2, hk9⟩ := own_slice hk
  injection e1 with _ _ e1
  injection e2 with _ _ e2
  subst hkl
  refine ⟨A13, fl + 1, k13, rfl, by omega, ?_, hb⟩
  have hcells : rc ((newW b.words words).map rawW) ++ [.int .i64 1, .int .i64 0, .int .i64 0, .int .i64 b.next, .int .i64 (b.high + 1), .int .i64 date, .string nm, .int .i64 flags, .slice A9 ks.length k9, .string text, .string ⟨#[]⟩] = rc ((newW b.words words).map rawW ++ [⟨⟨1, 0, 0, ⟨b.next, b.high + 1, date, nm, flags, ks, text⟩, emT⟩, A9, k9⟩]) := by rw [rc_snoc]; rfl
  rw [hcells] at ho
  have hmap : ((newW b.words words).map rawW ++ [(⟨⟨1, 0, 0, ⟨b.next, b.high + 1, date, nm, flags, ks, text⟩, emT⟩, A9, k9⟩ : RRaw)]).map RRaw.r = addL b date id flags words text := by
    unfold addL addM
    rw [← hnm, ← hks, List.map_append, List.map_map]
    rfl
  rw [← hmap]
  refine rowsAt_own ho (fun g e => (ho.lt g e).2) (by omega) fun q hq => ?_
  rcases List.mem_append.1 hq with hq | hq
  · obtain ⟨x, hx, rfl⟩ := List.mem_map.1 hq
    exact ⟨RowAt.nil _ _ _ _ _, Nat.le_refl _, Nat.zero_le _, Nat.zero_le _, hws x ((newW_sub _ _).subset hx)⟩
  · obtain rfl := List.mem_singleton.1 hq
    exact ⟨intsAt_ownB hk (fun g e => (hk.lt g e).2) (show ks.length ≤ 140737488355328 by omega), by show ks.length ≤ k9; omega, Nat.le_trans q4' (by decide), Nat.le_trans q7 (by decide), Nat.zero_le _⟩
theorem rowsOut_none {w w' : World} (e : Int) (hb : Below w.heap.size w w') : RowsOut [] e w (.returned (.tuple #[.slice none 0 0, .int .i64 e])) w' := ⟨none, 0, 0, rfl, Nat.le_refl _, RowAt.nil _ _ _ _ _, hb⟩
set_option maxHeartbeats 4000000 in
set_option maxRecDepth 100000 in
theorem add_bad {w : World} {b : Box} {date flags : Int} {id text : ByteArray} {words : List ByteArray} {WA MA A : Option Addr} {wn wc mn mcp n cp B : Nat} (ht : Tab w) (hx : StrsAt w B WA wn b.words) (hm : MsgsAt w B MA mn b.msgs) (hwc : wn ≤ wc) (hmc : mn ≤ mcp) (hB : B ≤ w.heap.size) (hz : StrsAt w B A n words) (hn : n ≤ cp) (hl : n ≤ 8796093022208) (hfew : n ≤ 100000 ∨ ∃ x ∈ words, 24 < x.size) (zi : id.size ≤ 140737488355328) (zt : text.size ≤ 140737488355328) {E0 : Int} (h0 : mbE b = E0) (he : E0 ≠ 0) : Calls Tryd.prog 7 #[.agg #[.string b.id, .int .i64 b.valid, .int .i64 b.next, .int .i64 b.high, .slice WA wn wc, .slice MA mn mcp], .int .i64 date, .string id, .int .i64 flags, .slice A n cp, .string text] w (RowsOut [] 1 w) := by
  have f0 := FR.start w b (.slice WA wn wc) (.slice MA mn mcp)
  have F0 := Lib.hid f0
  have HX := Lib.hid hx
  have HM := Lib.hid hm
  have HZ := Lib.hid hz
  have HT := Lib.hid ht
  have H0 := Lib.hid h0
  have hxm := hx.max
  clear hx hm hz ht h0 f0
  go_enter Tryd.func7, Tryd.ntmps7
  go_upto_region 1 with fail
  generalize (World.alloc w _) = w1 at F0 ⊢
  have hs1 := F0.out.lt
  have km := may_box (bid := b.id) (bv := b.valid) (bn := b.next) (bh := b.high) (mc := mcp) (StrsAt.below HX.out F0.out.bel hB) (MsgsAt.below HM.out F0.out.bel hB) (show B ≤ w1.heap.size by omega) hwc
  rw [show mbE ⟨b.id, b.valid, b.next, b.high, b.words, b.msgs⟩ = E0 from H0.out] at km
  have KM := Lib.hid km
  clear km
  obtain ⟨c0, c1, c2, c3, c4, c5⟩ := F0.out.facts
  have he2 : (E0 == 0) = false := by simpa using he
  have he3 : (E0 != 0) = true := by simpa using he
  go_wp2_with (go_at_call 15; go_loud (
               refine KM.out.mono ?_
               rintro e w2 ⟨rfl, hb2⟩
               have F2 := Lib.hid (F0.out.go hb2)
               clear hb2))
  go_ret2
  exact rowsOut_none 1 F2.out.bel
set_option maxHeartbeats 4000000 in
set_option maxRecDepth 100000 in
theorem add_none {w : World} {b : Box} {date flags : Int} {id text : ByteArray} {words : List ByteArray} {WA MA A : Option Addr} {wn wc mn mcp n cp B : Nat} (ht : Tab w) (hx : StrsAt w B WA wn b.words) (hm : MsgsAt w B MA mn b.msgs) (hwc : wn ≤ wc) (hmc : mn ≤ mcp) (hB : B ≤ w.heap.size) (hz : StrsAt w B A n words) (hn : n ≤ cp) (hl : n ≤ 8796093022208) (hfew : n ≤ 100000 ∨ ∃ x ∈ words, 24 < x.size) (zi : id.size ≤ 140737488355328) (zt : text.size ≤ 140737488355328) (h0 : mbE b = 0) (hwb : wordsB words = false) : Calls Tryd.prog 7 #[.agg #[.string b.id, .int .i64 b.valid, .int .i64 b.next, .int .i64 b.high, .slice WA wn wc, .slice MA mn mcp], .int .i64 date, .string id, .int .i64 flags, .slice A n cp, .string text] w (RowsOut [] 1 w) := by
  have HWB := Lib.hid hwb
  clear hwb
  have f0 := FR.start w b (.slice WA wn wc) (.slice MA mn mcp)
  have F0 := Lib.hid f0
  have HX := Lib.hid hx
  have HM := Lib.hid hm
  have HZ := Lib.hid hz
  have HT := Lib.hid ht
  have H0 := Lib.hid h0
  have hxm := hx.max
  clear hx hm hz ht h0 f0
  go_enter Tryd.func7, Tryd.ntmps7
  go_upto_region 1 with fail
  generalize (World.alloc w _) = w1 at F0 ⊢
  have hs1 := F0.out.lt
  have km := may_box (bid := b.id) (bv := b.valid) (bn := b.next) (bh := b.high) (mc := mcp) (StrsAt.below HX.out F0.out.bel hB) (MsgsAt.below HM.out F0.out.bel hB) (show B ≤ w1.heap.size by omega) hwc
  rw [show mbE ⟨b.id, b.valid, b.next, b.high, b.words, b.msgs⟩ = 0 from H0.out] at km
  have KM := Lib.hid km
  clear km
  obtain ⟨c0, c1, c2, c3, c4, c5⟩ := F0.out.facts
  go_wp2_with (first
    | (go_at_call 15; go_loud (
       refine KM.out.mono ?_
       rintro e w2 ⟨rfl, hb2⟩
       have F2 := Lib.hid (F0.out.go hb2)
       have hs2 := F2.out.lt
       have kw := mayWords_any (cp := cp) (HT.out.below F2.out.bel (Nat.le_refl _)).2 (StrsAt.below HZ.out F2.out.bel hB) (show B ≤ w2.heap.size by omega) hl
       rw [HWB.out] at kw
       have KW := Lib.hid kw
       clear hb2 kw c0 c1 c2 c3 c4 c5))
    | (go_at_call 16; go_loud (
       refine KW.out.mono ?_
       rintro e w3 ⟨rfl, hb3⟩
       have F3 := Lib.hid (F2.out.go hb3)
       clear hb3)))
  go_ret2
  exact rowsOut_none 1 F3.out.bel
set_option maxHeartbeats 16000000 in
set_option maxRecDepth 100000 in
theorem add_go {w : World} {b : Box} {date flags : Int} {id text : ByteArray} {words : List ByteArray} {WA MA A : Option Addr} {wn wc mn mcp n cp B : Nat} (ht : Tab w) (hx : StrsAt w B WA wn b.words) (hm : MsgsAt w B MA mn b.msgs) (hwc : wn ≤ wc) (hmc : mn ≤ mcp) (hB : B ≤ w.heap.size) (hz : StrsAt w B A n words) (hn : n ≤ cp) (hl : n ≤ 8796093022208) (hfew : n ≤ 100000 ∨ ∃ x ∈ words, 24 < x.size) (zi : id.size ≤ 140737488355328) (zt : text.size ≤ 140737488355328) (h0 : mbE b = 0) (hwb : wordsB words = true) : Calls Tryd.prog 7 #[.agg #[.string b.id, .int .i64 b.valid, .int .i64 b.next, .int .i64 b.high, .slice WA wn wc, .slice MA mn mcp], .int .i64 date, .string id, .int .i64 flags, .slice A n cp, .string text] w (RowsOut (addP b date id flags words text) (addE b date id flags words text) w) := by
  have hf := fit_of h0
  have hwn : wn ≤ 64 := by rw [← hx.len]; exact hf.wl
  have hmn : mn ≤ 60 := by rw [← hm.len]; exact hf.ml
  have hn6 : n ≤ 100000 := by have := few_words hwb (by rw [hz.len]; exact hfew); rwa [hz.len] at this
  obtain ⟨_, hidb, _, hh, hnx⟩ := head_parts ((mb_iff b).1 h0).1
  have HF := Lib.hid hf
  have HWB := Lib.hid hwb
  have hxl := hx.len
  have hml := hm.len
  have HXL := Lib.hid hxl
  have HML := Lib.hid hml
  obtain ⟨R, hR⟩ : ∃ R, R = addP b date id flags words text := ⟨_, rfl⟩
  obtain ⟨E, hE⟩ : ∃ E, E = addE b date id flags words text := ⟨_, rfl⟩
  have HR := Lib.hid hR
  have HE := Lib.hid hE
  rw [← hR, ← hE]
  clear hR hE hf hwb hxl hml hfew
  have f0 := FR.start w b (.slice WA wn wc) (.slice MA mn mcp)
  have F0 := Lib.hid f0
  have HX := Lib.hid hx
  have HM := Lib.hid hm
  have HZ := Lib.hid hz
  have HT := Lib.hid ht
  have H0 := Lib.hid h0
  have hxm := hx.max
  clear hx hm hz ht h0 f0
  go_enter Tryd.func7, Tryd.ntmps7
  go_upto_region 1 with fail
  generalize (World.alloc w _) = w1 at F0 ⊢
  have hs1 := F0.out.lt
  have km := may_box (bid := b.id) (bv := b.valid) (bn := b.next) (bh := b.high) (mc := mcp) (StrsAt.below HX.out F0.out.bel hB) (MsgsAt.below HM.out F0.out.bel hB) (show B ≤ w1.heap.size by omega) hwc
  rw [show mbE ⟨b.id, b.valid, b.next, b.high, b.words, b.msgs⟩ = 0 from H0.out] at km
  have KM := Lib.hid km
  clear km
  obtain ⟨c0, c1, c2, c3, c4, c5⟩ := F0.out.facts
  go_upto_region 3 with (first
    | (go_at_call 15; go_loud (
       refine KM.out.mono ?_
       rintro e w2 ⟨rfl, hb2⟩
       have F2 := Lib.hid (F0.out.go hb2)
       have hs2 := F2.out.lt
       have kw := mayWords_any (cp := cp) (HT.out.below F2.out.bel (Nat.le_refl _)).2 (StrsAt.below HZ.out F2.out.bel hB) (show B ≤ w2.heap.size by omega) hl
       rw [HWB.out] at kw
       have KW := Lib.hid kw
       clear hb2 kw c0 c1 c2 c3 c4 c5))
    | (go_at_call 16; go_loud (
       refine KW.out.mono ?_
       rintro e w3 ⟨rfl, hb3⟩
       have F3 := Lib.hid (F2.out.go hb3)
       clear hb3)))
  have hs3 := F3.out.lt
  have KWO := Lib.hid (without_any (cp := cp) (oc := wc) (StrsAt.below HZ.out F3.out.bel hB) (StrsAt.below HX.out F3.out.bel hB) (show B ≤ w3.heap.size by omega) (show B ≤ w3.heap.size by omega) (show n ≤ 1000000 by omega))
  obtain ⟨c0, c1, c2, c3, c4, c5⟩ := F3.out.facts
  obtain ⟨fl, hfl⟩ : ∃ fl, fl = (newW b.words words).length := ⟨_, rfl⟩
  have HFL := Lib.hid hfl
  have hfn : fl ≤ n := by rw [hfl, ← HZ.out.len]; exact (newW_sub _ _).length_le
  clear hfl
  go_upto_region 4 with (go_at_call 17; go_loud (
     refine KWO.out.mono ?_
     rintro e w4 ⟨A4, k4, rfl, ho4, hb4⟩
     rw [← HFL.out] at ho4 ⊢
     have F4 := Lib.hid (F3.out.go hb4)
     have HO4 := Lib.hid ho4
     clear ho4 hb4 c0 c1 c2 c3 c4 c5))
  have hs4 := F4.out.lt
  obtain ⟨c0, c1, c2, c3, c4, c5⟩ := F4.out.facts
  have hall : (allW b.words words).length = wn + fl := by unfold allW; rw [List.length_append, HXL.out, HFL.out]
  have HAL := Lib.hid hall
  have heq : E = if 60 ≤ mn ∨ 64 < wn + fl then 4 else if 1000000 ≤ b.high ∨ 1000000 ≤ b.next then 9 else mmE (wn + fl) (addM b date id flags words text) := by
    rw [HE.out]
    unfold addE
    rw [if_neg (by rw [H0.out, HWB.out]; simp), HML.out, hall]
  have HEQ := Lib.hid heq
  clear heq hall
  have none : ∀ {w' : World}, E ≠ 0 → Below w.heap.size w w' → RowsOut R E w (.returned (.tuple #[.slice none 0 0, .int .i64 E])) w' := fun hne hb => by
    have : R = [] := by rw [HR.out]; unfold addP; rw [if_neg (by rw [← HE.out]; exact hne)]
    rw [this]
    exact rowsOut_none _ hb
  have NONE := Lib.hid (fun (w' : World) => @none w')
  clear none
  by_cases g1 : 60 ≤ mn
  · have he : E = 4 := by rw [HEQ.out, if_pos (.inl g1)]
    have HE4 := Lib.hid he
    clear he
    go_wp2_with fail
    go_ret2
    have := NONE.out _ (by rw [HE4.out]; decide) F4.out.bel
    rwa [HE4.out] at this ⊢
  by_cases g2 : 64 < wn + fl
  · have he : E = 4 := by rw [HEQ.out, if_pos (.inr g2)]
    have HE4 := Lib.hid he
    clear he
    go_wp2_with fail
    go_ret2
    have := NONE.out _ (by rw [HE4.out]; decide) F4.out.bel
    rwa [HE4.out] at this ⊢
  by_cases g3 : b.high = 1000000
  · have he : E = 9 := by rw [HEQ.out, if_neg (by omega), if_pos (.inl (by omega))]
    have HE4 := Lib.hid he
    clear he
    have g3b : (b.high == 1000000) = true := by simpa using g3
    go_wp2_with fail
    go_ret2
    have := NONE.out _ (by rw [HE4.out]; decide) F4.out.bel
    rwa [HE4.out] at this ⊢
  have g3b : (b.high == 1000000) = false := by simpa using g3
  by_cases g4 : b.next = 1000000
  · have he : E = 9 := by rw [HEQ.out, if_neg (by omega), if_pos (.inr (by omega))]
    have HE4 := Lib.hid he
    clear he
    have g4b : (b.next == 1000000) = true := by simpa using g4
    go_wp2_with fail
    go_ret2
    have := NONE.out _ (by rw [HE4.out]; decide) F4.out.bel
    rwa [HE4.out] at this ⊢
  have g4b : (b.next == 1000000) = false := by simpa using g4
  have heq2 : E = mmE (wn + fl) (addM b date id flags words text) := by rw [HEQ.out, if_neg (by omega), if_neg (by omega)]
  have HEQ2 := Lib.hid heq2
  clear heq2 HEQ
  obtain ⟨nm, hnm⟩ : ∃ nm : ByteArray, nm = (if id.size = 0 then ownT b.id b.next else id) := ⟨_, rfl⟩
  have HNM := Lib.hid hnm
  clear hnm
  go_upto_region 10 with fail
  clear g3b g4b
  by_cases hid0 : id.size = 0
  · have hem : id.toList.isEmpty = true := by rw [empty_id hid0, ByteArray.toList_eq]; rfl
    have hn2 : nm = ownT b.id b.next := by rw [HNM.out, if_pos hid0]
    have ko := own_any (HT.out.below F4.out.bel (Nat.le_refl _)).1 (show b.next ≤ 9223372036854775807 by omega) (show b.id.size ≤ 200 by omega)
    rw [← hn2] at ko
    have KO := Lib.hid ko
    clear ko hn2 hid0
    go_upto_region 12 with (go_at_call 18; go_loud (
       refine KO.out.mono ?_
       rintro e w5 ⟨rfl, hb5⟩
       have F5 := Lib.hid (F4.out.go hb5)
       have HO5 := Lib.hid (own_block HO4.out fun g e => hb5.block g (HO4.out.lt g e).2)
       clear hb5 c0 c1 c2 c3 c4 c5))
    clear hem F4 HO4
    have hs5 := F5.out.lt
    obtain ⟨c0, c1, c2, c3, c4, c5⟩ := F5.out.facts
    have st5 := strsAt_ownB HO5.out (fun g e => (HO5.out.lt g e).2) (by omega) (fun x hx => strs_size HZ.out x ((newW_sub _ _).subset hx))
    have k0 := cell_new w5 #[.slice WA wn wc, .slice A4 fl k4] 22 0
    have k1 := cell_new w5 #[.slice WA wn wc, .slice A4 fl k4] 22 1
    rw [add_new] at k0 k1
    have hsz6 : (w5.alloc (.cells #[.slice WA wn wc, .slice A4 fl k4] 22)).heap.size = w5.heap.size + 1 := by simp
    have kcc := concat_any (c1 := wc) (c2 := k4) (g := w5.heap.size) (StrsAt.below HX.out (F5.out.alloc (.cells #[.slice WA wn wc, .slice A4 fl k4] 22)).bel hB) (StrsAt.below st5 ((Below.refl w5.heap.size w5).alloc (Nat.le_refl _) (.cells #[.slice WA wn wc, .slice A4 fl k4] 22)) (Nat.le_refl _)) (by omega) (by omega) (by omega) k0 k1 (by omega)
    have KCC := Lib.hid kcc
    have F6 := Lib.hid (F5.out.alloc (.cells #[.slice WA wn wc, .slice A4 fl k4] 22))
    obtain ⟨al, hal⟩ : ∃ al, al = (b.words ++ newW b.words words).length := ⟨_, rfl⟩
    have halw : al = wn + fl := by rw [hal]; exact HAL.out
    have hal64 : al ≤ 64 := by omega
    have HALW := Lib.hid halw
    clear halw
    have HAA := Lib.hid hal
    clear kcc k0 k1 st5 hsz6 hal
    go_upto_region 13 with (go_at_call 19; go_loud (
       refine KCC.out.mono ?_
       rintro e w7 ⟨A7, k7, rfl, ho7, hb7⟩
       rw [← HAA.out] at ho7 ⊢
       have F7 := Lib.hid (F6.out.go hb7)
       have HO7 := Lib.hid ho7
       have HFO7 := Lib.hid (own_block HO5.out fun g e => ((((Below.refl w5.heap.size w5).alloc (Nat.le_refl _) (.cells #[.slice WA wn wc, .slice A4 fl k4] 22)).trans (hb7.mono (by simp))).block g (HO5.out.lt g e).2))
       have hs7 := hb7.size
       clear ho7 hb7 c0 c1 c2 c3 c4 c5
       obtain ⟨c0, c1, c2, c3, c4, c5⟩ := F7.out.facts
       have c6 := F7.out.free 4))
    have F8 := Lib.hid (F7.out.set4 (.slice A7 al k7))
    have HO8 := Lib.hid (own_other HO7.out (own_ne_blk HO7.out F7.out.blk (by decide)) 4 (.slice A7 al k7))
    have HFO8 := Lib.hid (own_other HFO7.out (own_ne_blk HFO7.out F7.out.blk (by decide)) 4 (.slice A7 al k7))
    clear c0 c1 c2 c3 c4 c5 c6 F7 HO7 HFO7 F6 KCC
    generalize (World.setCell w7 _ _) = w8 at F8 HO8 HFO8 ⊢
    have hs8 := F8.out.lt
    have hal6 : al ≤ 1000000 := by omega
    obtain ⟨ks, hks⟩ : ∃ ks, ks = kW (allW b.words words) words := ⟨_, rfl⟩
    have hsa : ∀ x ∈ b.words ++ newW b.words words, x.size ≤ 140737488355328 := fun x hx => by
      rcases List.mem_append.1 hx with hx | hx
      · exact strs_size HX.out x hx
      · exact strs_size HZ.out x ((newW_sub _ _).subset hx)
    have kp : ∀ w' : World, Below w8.heap.size w8 w' → Calls Tryd.prog 20 #[.slice A7 al k7, .slice A n cp] w' (OwI ks w') := fun w' hb => by
      have q1 := (F8.out.go hb).lt
      have q2 := strsAt_ownB (own_block HO8.out fun g e => hb.block g (HO8.out.lt g e).2) (B := w8.heap.size) (fun g e => (HO8.out.lt g e).2) (by omega) hsa
      rw [hks]
      exact places_any q2 (StrsAt.below HZ.out (F8.out.go hb).bel hB) hb.size (by omega) hal6
    have KP := Lib.hid kp
    clear kp hsa
    obtain ⟨kl, hkl⟩ : ∃ kl, kl = ks.length := ⟨_, rfl⟩
    have hkl6 : kl ≤ 1000000 := by rw [hkl, hks]; refine Nat.le_trans (idx_le _ _) ?_; rw [HAL.out]; omega
    have HKL := Lib.hid hkl
    have HKS := Lib.hid hks
    clear hks
    have F8z := Lib.hid (F8.out.alloc (.cells #[.int .i64 0, .int .i64 0, .int .i64 0, .string ⟨#[]⟩, .int .i64 0, .slice none 0 0, .string ⟨#[]⟩] 28))
    have Z8 := Lib.hid (mb_new0 w8)
    obtain ⟨c0, c1, c2, c3, c4, c5⟩ := F8.out.facts
    obtain ⟨e0, e1, e2, e3, e4, e5⟩ := F8z.out.facts
    clear hkl
    have hwr : IntKind.i64.wrap (b.high + 1) = b.high + 1 := by rw [IntKind.wrap_i64]; omega
    go_region_held3 (fun wr => wr.cell? { block := w.heap.size, off := 2 } = some (.int .i64 b.next) ∧ wr.cell? { block := w.heap.size, off := 3 } = some (.int .i64 b.high) ∧ wr.cell? { block := w.heap.size, off := 4 } = some (.slice A7 al k7))
      (with_reducible first | exact ⟨c2, c3, c4⟩ | exact ⟨e2, e3, e4⟩ | exact ⟨x2, x3, x4⟩ | exact ⟨y2, y3, y4⟩ | exact ⟨z2', z3', z4'⟩ | go_keep) (first
      | (go_at_call 20
         ((with_reducible refine (KP.out _ ?d1).mono ?_); rotate_left)
         case d1 => first | exact Below.refl _ _ | exact (Below.refl _ _).drew | exact (Below.refl _ _).alloc (Nat.le_refl _) _ | exact ((Below.refl _ _).alloc (Nat.le_refl _) _).drew
         rintro e w9 ⟨A9, k9, rfl, hown, hbel⟩
         first
         | (have F9 := Lib.hid (show FR w w9 b (.slice A7 al k7) (.slice MA mn mcp) by first | exact F8.out.go hbel | exact F8.out.drew.go hbel)
            have Z9 := Lib.hid True.intro
            have y2 := True.intro
            have y3 := True.intro
            have y4 := True.intro)
         | (have F9 := Lib.hid (show FR w w9 b (.slice A7 al k7) (.slice MA mn mcp) by first | exact F8z.out.go hbel | exact F8z.out.drew.go hbel)
            have Z9 := Lib.hid (show MB w9 w8.heap.size noM none 0 by first | exact Z8.out.go hbel | exact Z8.out.drew.go hbel)
            obtain ⟨_, _, _, _, _, _, _⟩ := Z9.out.facts
            have zf0 := Z9.out.free 0
            have zf1 := Z9.out.free 1
            have zf2 := Z9.out.free 2
            have zf3 := Z9.out.free 3
            have zf4 := Z9.out.free 4
            have zf5 := Z9.out.free 5
            have zf6 := Z9.out.free 6
            have y := (F9.out.fill (by omega) ⟨⟨b.next, b.high + 1, date, nm, flags, ks, text⟩, A9, k9⟩).facts
            unfold fill7 at y
            dsimp only at y
            rw [← HKL.out] at y
            obtain ⟨_, _, y2, y3, y4, _⟩ := y)
         rw [← HKL.out] at hown ⊢
         have x0 := F9.out.facts
         obtain ⟨_, _, x2, x3, x4, _⟩ := x0
         have z0' := (F9.out.alloc (.cells #[.int .i64 b.next, .int .i64 (b.high + 1), .int .i64 date, .string nm, .int .i64 flags, .slice A9 kl k9, .string text] 28)).facts
         obtain ⟨_, _, z2', z3', z4', _⟩ := z0'
         have HK9 := Lib.hid (own_base hown (show w.heap.size ≤ _ by simp; omega))
         have HB89 := Lib.hid (show Below w8.heap.size w8 w9 by first | exact hbel | exact (Below.drew (Below.refl _ _)).trans hbel | exact ((Below.refl _ _).alloc (Nat.le_refl _) _).trans (hbel.mono (by simp)) | exact (Below.drew ((Below.refl _ _).alloc (Nat.le_refl _) _)).trans (hbel.mono (by simp)))
         clear hown hbel
         dsimp only))
    all_goals
      rename_i hHeld
      clear hHeld c0 c1 c2 c3 c4 c5 e0 e1 e2 e3 e4 e5 x2 x3 x4 y2 y3 y4 z2' z3' z4' hwr KP
      first
      | (have hb10 := HB89.out.trans (((Below.refl w9.heap.size w9).alloc (Nat.le_refl _) (.cells #[.int .i64 b.next, .int .i64 (b.high + 1), .int .i64 date, .string nm, .int .i64 flags, .slice A9 kl k9, .string text] 28)).mono HB89.out.size)
         have m10 := heap_alloc_new w9 (.cells #[.int .i64 b.next, .int .i64 (b.high + 1), .int .i64 date, .string nm, .int .i64 flags, .slice A9 kl k9, .string text] 28)
         have hk10 := HK9.out.alloc (.cells #[.int .i64 b.next, .int .i64 (b.high + 1), .int .i64 date, .string nm, .int .i64 flags, .slice A9 kl k9, .string text] 28)
         have hQ : w8.heap.size ≤ w9.heap.size := HB89.out.size
         obtain ⟨Q, hQ2⟩ : ∃ Q, Q = w9.heap.size := ⟨_, rfl⟩
         rw [← hQ2] at m10 hQ ⊢
         clear hQ2
         have HB10 := Lib.hid hb10
         have M10 := Lib.hid m10
         have HK10 := Lib.hid hk10
         clear hb10 m10 hk10
         generalize (World.alloc w9 _) = w10 at HB10 M10 HK10 ⊢)
      | (have hb10 := HB89.out.trans (fill7_below (Nat.le_refl w8.heap.size) ⟨⟨b.next, b.high + 1, date, nm, flags, ks, text⟩, A9, k9⟩)
         have m10 := fill7_mb Z9.out ⟨⟨b.next, b.high + 1, date, nm, flags, ks, text⟩, A9, k9⟩
         have hk10 := own_block (w' := fill7 w9 w8.heap.size ⟨⟨b.next, b.high + 1, date, nm, flags, ks, text⟩, A9, k9⟩) HK9.out fun g e => fill7_other (fun e2 => own_ne_blk HK9.out Z9.out (by decide) (by rw [← e2]; exact e)) _
         unfold MB at m10
         unfold fill7 at hb10 m10 hk10
         dsimp only at hb10 m10 hk10
         rw [← HKL.out] at hb10 m10 hk10
         have hQ : w8.heap.size ≤ w8.heap.size := Nat.le_refl _
         obtain ⟨Q, hQ2⟩ : ∃ Q, Q = w8.heap.size := ⟨_, rfl⟩
         have HB10 := Lib.hid hb10
         have M10 := Lib.hid m10
         have HK10 := Lib.hid hk10
         clear hb10 m10 hk10
         generalize (World.setCell (World.setCell (World.setCell (World.setCell (World.setCell (World.setCell (World.setCell w9 _ _) _ _) _ _) _ _) _ _) _ _) _ _) = w10 at HB10 M10 HK10 ⊢
         rw [← hQ2] at M10 hQ ⊢
         have hQ : w8.heap.size ≤ Q := by omega
         clear hQ2)
      clear F9 Z9 HK9 HB89 F8z Z8
      have F10 := Lib.hid (F8.out.go HB10.out)
      have hs10 := F10.out.lt
      have hkg := fun g e => (HK10.out.lt g e).2
      have km := mayMsg_cells (bid := b.id) (bv := b.valid) (bn := b.next) (bh := b.high) (WA := A7) (wn := al) (wc := k7) (MA := MA) (mn := mn) (mc := mcp) (id := nm) (tx := text) (u := b.next) (md := b.high + 1) (d := date) (fl := flags) (kc := k9) (intsAt_ownB HK10.out (B := w10.heap.size) hkg (by omega)) (Nat.le_refl _) (show al ≤ 140737488355328 by omega)
      have hmE : mmE al ⟨b.next, b.high + 1, date, nm, flags, ks, text⟩ = E := by rw [HEQ2.out, ← HALW.out]; unfold addM; rw [← HNM.out, ← HKS.out]
      rw [hmE] at km
      have KM := Lib.hid km
      have HME := Lib.hid hmE
      clear km hmE hkg
      obtain ⟨c0, c1, c2, c3, c4, c5⟩ := F10.out.facts
      obtain ⟨m0, m1, m2, m3, m4, m5, m6⟩ := seven_at M10.out
      go_upto_region 15 with (go_at_call 21; go_loud (
         refine KM.out.mono ?_
         rintro e w11 ⟨rfl, hb11⟩))
      have HB11 := Lib.hid (HB10.out.trans (hb11.mono HB10.out.size))
      have M11 := Lib.hid ((hb11.block Q (Array.getElem?_eq_some_iff.1 M10.out).1).trans M10.out)
      have HK11 := Lib.hid (own_block HK10.out fun g e => hb11.block g (HK10.out.lt g e).2)
      clear hb11 c0 c1 c2 c3 c4 c5 m0 m1 m2 m3 m4 m5 m6
      clear KM HB10 M10 HK10 F10
      have F11 := Lib.hid (F8.out.go HB11.out)
      have hE01 : E = 0 ∨ E = 1 := by
        rw [HEQ2.out]
        unfold mmE
        split
        · exact .inl rfl
        · exact .inr rfl
      have HRR := Lib.hid (show E = 0 → R = addL b date id flags words text from fun h => by
        rw [HR.out]
        unfold addP
        rw [if_pos (show addE b date id flags words text = 0 from HE.out.symm.trans h)])
      clear HR HE HEQ2
      rcases hE01 with hE0 | hE0
      case inr =>
        subst hE0
        go_wp2_with fail
        go_ret2
        exact NONE.out _ (by decide) F11.out.bel
      case inl =>
        clear NONE
        subst hE0
        go_upto_region 17 with fail
        have hs11 := F11.out.lt
        have hs11b := HB11.out.size
        have hb1 : fl + 1 ≤ maxLen := by unfold maxLen; omega
        have hb2 : (fl + 1) * 128 ≤ 140737488355328 := by omega
        obtain ⟨m0, m1, m2, m3, m4, m5, m6⟩ := seven_at M11.out
        have kwr : ∀ w' : World, Below w11.heap.size w11 w' → Calls Tryd.prog 22 #[.slice A4 fl k4] w' (fun e w12 => ∃ A c, e = .returned (.slice A fl c) ∧ w12.ownsRow w.heap.size 51 11 (.slice A fl c) fl (rc ((newW b.words words).map rawW)) ∧ Below w11.heap.size w11 w12 ∧ Below w'.heap.size w' w12) := fun w' hb => by
          have hb8 := HB11.out.trans (hb.mono HB11.out.size)
          have q2 := strsAt_ownB (own_block HFO8.out fun g e => hb8.block g (HFO8.out.lt g e).2) (B := w8.heap.size) (fun g e => (HFO8.out.lt g e).2) (by omega) (fun x hx => strs_size HZ.out x ((newW_sub _ _).subset hx))
          refine (wordRows_any (cp := k4) q2 hb8.size (by omega)).mono ?_
          rintro e w12 ⟨A12, k12, rfl, hown, hbel⟩
          rw [← HFL.out] at hown ⊢
          have hsz := hb.size
          exact ⟨A12, k12, rfl, own_base hown (by omega), hb.trans (hbel.mono hsz), hbel⟩
        have HLT := Lib.hid (show w11.heap.size < (w11.alloc (.cells #[.int .i64 1, .int .i64 0, .int .i64 0, .int .i64 b.next, .int .i64 (b.high + 1), .int .i64 date, .string nm, .int .i64 flags, .slice A9 kl k9, .string text, .string ⟨#[]⟩] 51)).heap.size by simp)
        have HLD := Lib.hid (show w11.heap.size < (w11.alloc (.cells #[.int .i64 1, .int .i64 0, .int .i64 0, .int .i64 b.next, .int .i64 (b.high + 1), .int .i64 date, .string nm, .int .i64 flags, .slice A9 kl k9, .string text, .string ⟨#[]⟩] 51)).drew.heap.size by show w11.heap.size < (w11.alloc (.cells #[.int .i64 1, .int .i64 0, .int .i64 0, .int .i64 b.next, .int .i64 (b.high + 1), .int .i64 date, .string nm, .int .i64 flags, .slice A9 kl k9, .string text, .string ⟨#[]⟩] 51)).heap.size; simp)
        have R11d := Lib.hid (show (w11.alloc (.cells #[.int .i64 1, .int .i64 0, .int .i64 0, .int .i64 b.next, .int .i64 (b.high + 1), .int .i64 date, .string nm, .int .i64 flags, .slice A9 kl k9, .string text, .string ⟨#[]⟩] 51)).drew.heap[w11.heap.size]? = some (.cells #[.int .i64 1, .int .i64 0, .int .i64 0, .int .i64 b.next, .int .i64 (b.high + 1), .int .i64 date, .string nm, .int .i64 flags, .slice A9 kl k9, .string text, .string ⟨#[]⟩] 51 (0, 0)) from heap_alloc_new w11 (.cells #[.int .i64 1, .int .i64 0, .int .i64 0, .int .i64 b.next, .int .i64 (b.high + 1), .int .i64 date, .string nm, .int .i64 flags, .slice A9 kl k9, .string text, .string ⟨#[]⟩] 51))
        have KWR := Lib.hid kwr
        have R11 := Lib.hid (heap_alloc_new w11 (.cells #[.int .i64 1, .int .i64 0, .int .i64 0, .int .i64 b.next, .int .i64 (b.high + 1), .int .i64 date, .string nm, .int .i64 flags, .slice A9 kl k9, .string text, .string ⟨#[]⟩] 51))
        have M11a := Lib.hid ((heap_alloc_old w11 (.cells #[.int .i64 1, .int .i64 0, .int .i64 0, .int .i64 b.next, .int .i64 (b.high + 1), .int .i64 date, .string nm, .int .i64 flags, .slice A9 kl k9, .string text, .string ⟨#[]⟩] 51) (Array.getElem?_eq_some_iff.1 M11.out).1).trans M11.out)
        obtain ⟨n0, n1, n2, n3, n4, n5, n6⟩ := seven_at M11a.out
        clear kwr
        go_region_held3 (fun wr => wr.cell? { block := Q, off := 0 } = some (.int .i64 b.next) ∧ wr.cell? { block := Q, off := 1 } = some (.int .i64 (b.high + 1)) ∧ wr.cell? { block := Q, off := 2 } = some (.int .i64 date) ∧ wr.cell? { block := Q, off := 3 } = some (.string nm) ∧ wr.cell? { block := Q, off := 4 } = some (.int .i64 flags) ∧ wr.cell? { block := Q, off := 5 } = some (.slice A9 kl k9) ∧ wr.cell? { block := Q, off := 6 } = some (.string text))
          (with_reducible first | exact ⟨m0, m1, m2, m3, m4, m5, m6⟩ | exact ⟨n0, n1, n2, n3, n4, n5, n6⟩ | exact X12.out | exact X12a.out | exact X13.out | go_keep) (first
          | (go_at_call 22
             ((with_reducible refine (KWR.out _ ?d1).mono ?_); rotate_left)
             case d1 => first | exact Below.refl _ _ | exact (Below.refl _ _).drew | exact (Below.refl _ _).alloc (Nat.le_refl _) _ | exact ((Below.refl _ _).alloc (Nat.le_refl _) _).drew
             go_loud (
               rintro e w12 ⟨A12, k12, rfl, hown, hb12, hbel⟩
               have HB12 := Lib.hid hb12
               have M12 := Lib.hid ((HB12.out.block Q (Array.getElem?_eq_some_iff.1 M11.out).1).trans M11.out)
               have M12a := Lib.hid ((heap_alloc_old w12 (.cells #[.int .i64 1, .int .i64 0, .int .i64 0, .int .i64 b.next, .int .i64 (b.high + 1), .int .i64 date, .string nm, .int .i64 flags, .slice A9 kl k9, .string text, .string ⟨#[]⟩] 51) (Array.getElem?_eq_some_iff.1 M12.out).1).trans M12.out)
               have X12 := Lib.hid (seven_at M12.out)
               have X12a := Lib.hid (seven_at M12a.out)
               have HR12 := Lib.hid hown
               have HK12 := Lib.hid (own_block HK11.out fun g e => HB12.out.block g (HK11.out.lt g e).2)
               have OA := Lib.hid (HR12.out.alloc (.cells #[.int .i64 1, .int .i64 0, .int .i64 0, .int .i64 b.next, .int .i64 (b.high + 1), .int .i64 date, .string nm, .int .i64 flags, .slice A9 kl k9, .string text, .string ⟨#[]⟩] 51))
               have SA := Lib.hid (src_cells w12 (t := 51) (rowOnes 0 0 b.next (b.high + 1) date nm flags A9 kl k9 text))
               have HC12 := Lib.hid (Nat.le_trans (Nat.le_of_lt hs11) HB12.out.size)
               have HA12 := Lib.hid (Nat.le_trans HC12.out (Below.size ((Below.refl w12.heap.size w12).alloc (Nat.le_refl _) (.cells #[.int .i64 1, .int .i64 0, .int .i64 0, .int .i64 b.next, .int .i64 (b.high + 1), .int .i64 date, .string nm, .int .i64 flags, .slice A9 kl k9, .string text, .string ⟨#[]⟩] 51))))
               have HBB := Lib.hid (F11.out.bel.trans (HB12.out.mono (Nat.le_of_lt hs11)))
               first
               | (have sb := hbel.block w11.heap.size (by with_reducible first | exact HLT.out | exact HLD.out)
                  have sb2 : w12.heap[w11.heap.size]? = some (.cells #[.int .i64 1, .int .i64 0, .int .i64 0, .int .i64 b.next, .int .i64 (b.high + 1), .int .i64 date, .string nm, .int .i64 flags, .slice A9 kl k9, .string text, .string ⟨#[]⟩] 51 (0, 0)) := by with_reducible first | exact sb.trans R11.out | exact sb.trans R11d.out
                  have SB := Lib.hid (src_block sb2 (rowOnes 0 0 b.next (b.high + 1) date nm flags A9 kl k9 text))
                  clear sb sb2
                  clear hown hbel hb12
                  dsimp only)
               | (have SB := Lib.hid True.intro
                  clear hown hbel hb12
                  dsimp only)))
          | ((with_reducible refine step_rows elR (c := 1) rfl (.tmp 82) (.tmp 85) rfl (by simp [Act.eval]) (by simp [Act.eval]) OA.out SA.out hb1 hb2 HA12.out ?_)
             go_loud (
               intro v13 w13 hown13 hg13 _
               obtain ⟨A13, k13, rfl, hk13⟩ := own_slice hown13
               have M13 := Lib.hid ((hg13.block Q (Array.getElem?_eq_some_iff.1 M12a.out).1 (Ne.symm (own_ne_blk OA.out M12a.out (by decide)))).trans M12a.out)
               have X13 := Lib.hid (seven_at M13.out)
               have HK13 := Lib.hid (own_block (HK12.out.alloc (.cells #[.int .i64 1, .int .i64 0, .int .i64 0, .int .i64 b.next, .int .i64 (b.high + 1), .int .i64 date, .string nm, .int .i64 flags, .slice A9 kl k9, .string text, .string ⟨#[]⟩] 51)) fun g e => hg13.block g ((HK12.out.alloc (.cells #[.int .i64 1, .int .i64 0, .int .i64 0, .int .i64 b.next, .int .i64 (b.high + 1), .int .i64 date, .string nm, .int .i64 flags, .slice A9 kl k9, .string text, .string ⟨#[]⟩] 51)).lt g e).2 fun e2 => own_ne (HK12.out.alloc (.cells #[.int .i64 1, .int .i64 0, .int .i64 0, .int .i64 b.next, .int .i64 (b.high + 1), .int .i64 date, .string nm, .int .i64 flags, .slice A9 kl k9, .string text, .string ⟨#[]⟩] 51)) OA.out e2.symm (by decide) e)
               have HB13 := Lib.hid ((HBB.out.alloc HC12.out (.cells #[.int .i64 1, .int .i64 0, .int .i64 0, .int .i64 b.next, .int .i64 (b.high + 1), .int .i64 date, .string nm, .int .i64 flags, .slice A9 kl k9, .string text, .string ⟨#[]⟩] 51)).grown hg13 HA12.out (fun g e => (HR12.out.lt g e).1))
               have HO13 := Lib.hid hown13
               clear hown13 hg13
               dsimp only))
          | ((with_reducible refine step_rows elR (c := 1) rfl (.tmp 82) (.tmp 85) rfl (by simp [Act.eval]) (by simp [Act.eval]) HR12.out SB.out hb1 hb2 HC12.out ?_)
             go_loud (
               intro v13 w13 hown13 hg13 _
               obtain ⟨A13, k13, rfl, hk13⟩ := own_slice hown13
               have M13 := Lib.hid ((hg13.block Q (Array.getElem?_eq_some_iff.1 M12.out).1 (Ne.symm (own_ne_blk HR12.out M12.out (by decide)))).trans M12.out)
               have X13 := Lib.hid (seven_at M13.out)
               have HK13 := Lib.hid (own_block HK12.out fun g e => hg13.block g (HK12.out.lt g e).2 fun e2 => own_ne HK12.out HR12.out e2.symm (by decide) e)
               have HB13 := Lib.hid (HBB.out.grown hg13 HC12.out (fun g e => (HR12.out.lt g e).1))
               have HO13 := Lib.hid hown13
               clear hown13 hg13
               dsimp only)))
        all_goals
          go_wp2_with fail
          go_ret2
          rw [HRR.out (by first | rfl | trivial)]
          exact add_fin HNM.out HKS.out HKL.out HFL.out HME.out (strs_size HZ.out) HO13.out HK13.out (by omega) hkl6 HB13.out
  · have hem : id.toList.isEmpty = false := nonempty_id hid0
    have hn2 : nm = id := by rw [HNM.out, if_neg hid0]
    have F5 := F4
    have HO5 := HO4
    clear hid0
    go_upto_region 12 with fail
    rw [← hn2]
    clear hn2
    clear hem F4 HO4 c0 c1 c2 c3 c4 c5
    have hs5 := F5.out.lt
    obtain ⟨c0, c1, c2, c3, c4, c5⟩ := F5.out.facts
    have st5 := strsAt_ownB HO5.out (fun g e => (HO5.out.lt g e).2) (by omega) (fun x hx => strs_size HZ.out x ((newW_sub _ _).subset hx))
    have k0 := cell_new w4 #[.slice WA wn wc, .slice A4 fl k4] 22 0
    have k1 := cell_new w4 #[.slice WA wn wc, .slice A4 fl k4] 22 1
    rw [add_new] at k0 k1
    have hsz6 : (w4.alloc (.cells #[.slice WA wn wc, .slice A4 fl k4] 22)).heap.size = w4.heap.size + 1 := by simp
    have kcc := concat_any (c1 := wc) (c2 := k4) (g := w4.heap.size) (StrsAt.below HX.out (F5.out.alloc (.cells #[.slice WA wn wc, .slice A4 fl k4] 22)).bel hB) (StrsAt.below st5 ((Below.refl w4.heap.size w4).alloc (Nat.le_refl _) (.cells #[.slice WA wn wc, .slice A4 fl k4] 22)) (Nat.le_refl _)) (by omega) (by omega) (by omega) k0 k1 (by omega)
    have KCC := Lib.hid kcc
    have F6 := Lib.hid (F5.out.alloc (.cells #[.slice WA wn wc, .slice A4 fl k4] 22))
    obtain ⟨al, hal⟩ : ∃ al, al = (b.words ++ newW b.words words).length := ⟨_, rfl⟩
    have halw : al = wn + fl := by rw [hal]; exact HAL.out
    have hal64 : al ≤ 64 := by omega
    have HALW := Lib.hid halw
    clear halw
    have HAA := Lib.hid hal
    clear kcc k0 k1 st5 hsz6 hal
    go_upto_region 13 with (go_at_call 19; go_loud (
       refine KCC.out.mono ?_
       rintro e w7 ⟨A7, k7, rfl, ho7, hb7⟩
       rw [← HAA.out] at ho7 ⊢
       have F7 := Lib.hid (F6.out.go hb7)
       have HO7 := Lib.hid ho7
       have HFO7 := Lib.hid (own_block HO5.out fun g e => ((((Below.refl w4.heap.size w4).alloc (Nat.le_refl _) (.cells #[.slice WA wn wc, .slice A4 fl k4] 22)).trans (hb7.mono (by simp))).block g (HO5.out.lt g e).2))
       have hs7 := hb7.size
       clear ho7 hb7 c0 c1 c2 c3 c4 c5
       obtain ⟨c0, c1, c2, c3, c4, c5⟩ := F7.out.facts
       have c6 := F7.out.free 4))
    have F8 := Lib.hid (F7.out.set4 (.slice A7 al k7))
    have HO8 := Lib.hid (own_other HO7.out (own_ne_blk HO7.out F7.out.blk (by decide)) 4 (.slice A7 al k7))
    have HFO8 := Lib.hid (own_other HFO7.out (own_ne_blk HFO7.out F7.out.blk (by decide)) 4 (.slice A7 al k7))
    clear c0 c1 c2 c3 c4 c5 c6 F7 HO7 HFO7 F6 KCC
    generalize (World.setCell w7 _ _) = w8 at F8 HO8 HFO8 ⊢
    have hs8 := F8.out.lt
    have hal6 : al ≤ 1000000 := by omega
    obtain ⟨ks, hks⟩ : ∃ ks, ks = kW (allW b.words words) words := ⟨_, rfl⟩
    have hsa : ∀ x ∈ b.words ++ newW b.words words, x.size ≤ 140737488355328 := fun x hx => by
      rcases List.mem_append.1 hx with hx | hx
      · exact strs_size HX.out x hx
      · exact strs_size HZ.out x ((newW_sub _ _).subset hx)
    have kp : ∀ w' : World, Below w8.heap.size w8 w' → Calls Tryd.prog 20 #[.slice A7 al k7, .slice A n cp] w' (OwI ks w') := fun w' hb => by
      have q1 := (F8.out.go hb).lt
      have q2 := strsAt_ownB (own_block HO8.out fun g e => hb.block g (HO8.out.lt g e).2) (B := w8.heap.size) (fun g e => (HO8.out.lt g e).2) (by omega) hsa
      rw [hks]
      exact places_any q2 (StrsAt.below HZ.out (F8.out.go hb).bel hB) hb.size (by omega) hal6
    have KP := Lib.hid kp
    clear kp hsa
    obtain ⟨kl, hkl⟩ : ∃ kl, kl = ks.length := ⟨_, rfl⟩
    have hkl6 : kl ≤ 1000000 := by rw [hkl, hks]; refine Nat.le_trans (idx_le _ _) ?_; rw [HAL.out]; omega
    have HKL := Lib.hid hkl
    have HKS := Lib.hid hks
    clear hks
    have F8z := Lib.hid (F8.out.alloc (.cells #[.int .i64 0, .int .i64 0, .int .i64 0, .string ⟨#[]⟩, .int .i64 0, .slice none 0 0, .string ⟨#[]⟩] 28))
    have Z8 := Lib.hid (mb_new0 w8)
    obtain ⟨c0, c1, c2, c3, c4, c5⟩ := F8.out.facts
    obtain ⟨e0, e1, e2, e3, e4, e5⟩ := F8z.out.facts
    clear hkl
    have hwr : IntKind.i64.wrap (b.high + 1) = b.high + 1 := by rw [IntKind.wrap_i64]; omega
    go_region_held3 (fun wr => wr.cell? { block := w.heap.size, off := 2 } = some (.int .i64 b.next) ∧ wr.cell? { block := w.heap.size, off := 3 } = some (.int .i64 b.high) ∧ wr.cell? { block := w.heap.size, off := 4 } = some (.slice A7 al k7))
      (with_reducible first | exact ⟨c2, c3, c4⟩ | exact ⟨e2, e3, e4⟩ | exact ⟨x2, x3, x4⟩ | exact ⟨y2, y3, y4⟩ | exact ⟨z2', z3', z4'⟩ | go_keep) (first
      | (go_at_call 20
         ((with_reducible refine (KP.out _ ?d1).mono ?_); rotate_left)
         case d1 => first | exact Below.refl _ _ | exact (Below.refl _ _).drew | exact (Below.refl _ _).alloc (Nat.le_refl _) _ | exact ((Below.refl _ _).alloc (Nat.le_refl _) _).drew
         rintro e w9 ⟨A9, k9, rfl, hown, hbel⟩
         first
         | (have F9 := Lib.hid (show FR w w9 b (.slice A7 al k7) (.slice MA mn mcp) by first | exact F8.out.go hbel | exact F8.out.drew.go hbel)
            have Z9 := Lib.hid True.intro
            have y2 := True.intro
            have y3 := True.intro
            have y4 := True.intro)
         | (have F9 := Lib.hid (show FR w w9 b (.slice A7 al k7) (.slice MA mn mcp) by first | exact F8z.out.go hbel | exact F8z.out.drew.go hbel)
            have Z9 := Lib.hid (show MB w9 w8.heap.size noM none 0 by first | exact Z8.out.go hbel | exact Z8.out.drew.go hbel)
            obtain ⟨_, _, _, _, _, _, _⟩ := Z9.out.facts
            have zf0 := Z9.out.free 0
            have zf1 := Z9.out.free 1
            have zf2 := Z9.out.free 2
            have zf3 := Z9.out.free 3
            have zf4 := Z9.out.free 4
            have zf5 := Z9.out.free 5
            have zf6 := Z9.out.free 6
            have y := (F9.out.fill (by omega) ⟨⟨b.next, b.high + 1, date, nm, flags, ks, text⟩, A9, k9⟩).facts
            unfold fill7 at y
            dsimp only at y
            rw [← HKL.out] at y
            obtain ⟨_, _, y2, y3, y4, _⟩ := y)
         rw [← HKL.out] at hown ⊢
         have x0 := F9.out.facts
         obtain ⟨_, _, x2, x3, x4, _⟩ := x0
         have z0' := (F9.out.alloc (.cells #[.int .i64 b.next, .int .i64 (b.high + 1), .int .i64 date, .string nm, .int .i64 flags, .slice A9 kl k9, .string text] 28)).facts
         obtain ⟨_, _, z2', z3', z4', _⟩ := z0'
         have HK9 := Lib.hid (own_base hown (show w.heap.size ≤ _ by simp; omega))
         have HB89 := Lib.hid (show Below w8.heap.size w8 w9 by first | exact hbel | exact (Below.drew (Below.refl _ _)).trans hbel | exact ((Below.refl _ _).alloc (Nat.le_refl _) _).trans (hbel.mono (by simp)) | exact (Below.drew ((Below.refl _ _).alloc (Nat.le_refl _) _)).trans (hbel.mono (by simp)))
         clear hown hbel
         dsimp only))
    all_goals
      rename_i hHeld
      clear hHeld c0 c1 c2 c3 c4 c5 e0 e1 e2 e3 e4 e5 x2 x3 x4 y2 y3 y4 z2' z3' z4' hwr KP
      first
      | (have hb10 := HB89.out.trans (((Below.refl w9.heap.size w9).alloc (Nat.le_refl _) (.cells #[.int .i64 b.next, .int .i64 (b.high + 1), .int .i64 date, .string nm, .int .i64 flags, .slice A9 kl k9, .string text] 28)).mono HB89.out.size)
         have m10 := heap_alloc_new w9 (.cells #[.int .i64 b.next, .int .i64 (b.high + 1), .int .i64 date, .string nm, .int .i64 flags, .slice A9 kl k9, .string text] 28)
         have hk10 := HK9.out.alloc (.cells #[.int .i64 b.next, .int .i64 (b.high + 1), .int .i64 date, .string nm, .int .i64 flags, .slice A9 kl k9, .string text] 28)
         have hQ : w8.heap.size ≤ w9.heap.size := HB89.out.size
         obtain ⟨Q, hQ2⟩ : ∃ Q, Q = w9.heap.size := ⟨_, rfl⟩
         rw [← hQ2] at m10 hQ ⊢
         clear hQ2
         have HB10 := Lib.hid hb10
         have M10 := Lib.hid m10
         have HK10 := Lib.hid hk10
         clear hb10 m10 hk10
         generalize (World.alloc w9 _) = w10 at HB10 M10 HK10 ⊢)
      | (have hb10 := HB89.out.trans (fill7_below (Nat.le_refl w8.heap.size) ⟨⟨b.next, b.high + 1, date, nm, flags, ks, text⟩, A9, k9⟩)
         have m10 := fill7_mb Z9.out ⟨⟨b.next, b.high + 1, date, nm, flags, ks, text⟩, A9, k9⟩
         have hk10 := own_block (w' := fill7 w9 w8.heap.size ⟨⟨b.next, b.high + 1, date, nm, flags, ks, text⟩, A9, k9⟩) HK9.out fun g e => fill7_other (fun e2 => own_ne_blk HK9.out Z9.out (by decide) (by rw [← e2]; exact e)) _
         unfold MB at m10
         unfold fill7 at hb10 m10 hk10
         dsimp only at hb10 m10 hk10
         rw [← HKL.out] at hb10 m10 hk10
         have hQ : w8.heap.size ≤ w8.heap.size := Nat.le_refl _
         obtain ⟨Q, hQ2⟩ : ∃ Q, Q = w8.heap.size := ⟨_, rfl⟩
         have HB10 := Lib.hid hb10
         have M10 := Lib.hid m10
         have HK10 := Lib.hid hk10
         clear hb10 m10 hk10
         generalize (World.setCell (World.setCell (World.setCell (World.setCell (World.setCell (World.setCell (World.setCell w9 _ _) _ _) _ _) _ _) _ _) _ _) _ _) = w10 at HB10 M10 HK10 ⊢
         rw [← hQ2] at M10 hQ ⊢
         have hQ : w8.heap.size ≤ Q := by omega
         clear hQ2)
      clear F9 Z9 HK9 HB89 F8z Z8
      have F10 := Lib.hid (F8.out.go HB10.out)
      have hs10 := F10.out.lt
      have hkg := fun g e => (HK10.out.lt g e).2
      have km := mayMsg_cells (bid := b.id) (bv := b.valid) (bn := b.next) (bh := b.high) (WA := A7) (wn := al) (wc := k7) (MA := MA) (mn := mn) (mc := mcp) (id := nm) (tx := text) (u := b.next) (md := b.high + 1) (d := date) (fl := flags) (kc := k9) (intsAt_ownB HK10.out (B := w10.heap.size) hkg (by omega)) (Nat.le_refl _) (show al ≤ 140737488355328 by omega)
      have hmE : mmE al ⟨b.next, b.high + 1, date, nm, flags, ks, text⟩ = E := by rw [HEQ2.out, ← HALW.out]; unfold addM; rw [← HNM.out, ← HKS.out]
      rw [hmE] at km
      have KM := Lib.hid km
      have HME := Lib.hid hmE
      clear km hmE hkg
      obtain ⟨c0, c1, c2, c3, c4, c5⟩ := F10.out.facts
      obtain ⟨m0, m1, m2, m3, m4, m5, m6⟩ := seven_at M10.out
      go_upto_region 15 with (go_at_call 21; go_loud (
         refine KM.out.mono ?_
         rintro e w11 ⟨rfl, hb11⟩))
      have HB11 := Lib.hid (HB10.out.trans (hb11.mono HB10.out.size))
      have M11 := Lib.hid ((hb11.block Q (Array.getElem?_eq_some_iff.1 M10.out).1).trans M10.out)
      have HK11 := Lib.hid (own_block HK10.out fun g e => hb11.block g (HK10.out.lt g e).2)
      clear hb11 c0 c1 c2 c3 c4 c5 m0 m1 m2 m3 m4 m5 m6
      clear KM HB10 M10 HK10 F10
      have F11 := Lib.hid (F8.out.go HB11.out)
      have hE01 : E = 0 ∨ E = 1 := by
        rw [HEQ2.out]
        unfold mmE
        split
        · exact .inl rfl
        · exact .inr rfl
      have HRR := Lib.hid (show E = 0 → R = addL b date id flags words text from fun h => by
        rw [HR.out]
        unfold addP
        rw [if_pos (show addE b date id flags words text = 0 from HE.out.symm.trans h)])
      clear HR HE HEQ2
      rcases hE01 with hE0 | hE0
      case inr =>
        subst hE0
        go_wp2_with fail
        go_ret2
        exact NONE.out _ (by decide) F11.out.bel
      case inl =>
        clear NONE
        subst hE0
        go_upto_region 17 with fail
        have hs11 := F11.out.lt
        have hs11b := HB11.out.size
        have hb1 : fl + 1 ≤ maxLen := by unfold maxLen; omega
        have hb2 : (fl + 1) * 128 ≤ 140737488355328 := by omega
        obtain ⟨m0, m1, m2, m3, m4, m5, m6⟩ := seven_at M11.out
        have kwr : ∀ w' : World, Below w11.heap.size w11 w' → Calls Tryd.prog 22 #[.slice A4 fl k4] w' (fun e w12 => ∃ A c, e = .returned (.slice A fl c) ∧ w12.ownsRow w.heap.size 51 11 (.slice A fl c) fl (rc ((newW b.words words).map rawW)) ∧ Below w11.heap.size w11 w12 ∧ Below w'.heap.size w' w12) := fun w' hb => by
          have hb8 := HB11.out.trans (hb.mono HB11.out.size)
          have q2 := strsAt_ownB (own_block HFO8.out fun g e => hb8.block g (HFO8.out.lt g e).2) (B := w8.heap.size) (fun g e => (HFO8.out.lt g e).2) (by omega) (fun x hx => strs_size HZ.out x ((newW_sub _ _).subset hx))
          refine (wordRows_any (cp := k4) q2 hb8.size (by omega)).mono ?_
          rintro e w12 ⟨A12, k12, rfl, hown, hbel⟩
          rw [← HFL.out] at hown ⊢
          have hsz := hb.size
          exact ⟨A12, k12, rfl, own_base hown (by omega), hb.trans (hbel.mono hsz), hbel⟩
        have HLT := Lib.hid (show w11.heap.size < (w11.alloc (.cells #[.int .i64 1, .int .i64 0, .int .i64 0, .int .i64 b.next, .int .i64 (b.high + 1), .int .i64 date, .string nm, .int .i64 flags, .slice A9 kl k9, .string text, .string ⟨#[]⟩] 51)).heap.size by simp)
        have HLD := Lib.hid (show w11.heap.size < (w11.alloc (.cells #[.int .i64 1, .int .i64 0, .int .i64 0, .int .i64 b.next, .int .i64 (b.high + 1), .int .i64 date, .string nm, .int .i64 flags, .slice A9 kl k9, .string text, .string ⟨#[]⟩] 51)).drew.heap.size by show w11.heap.size < (w11.alloc (.cells #[.int .i64 1, .int .i64 0, .int .i64 0, .int .i64 b.next, .int .i64 (b.high + 1), .int .i64 date, .string nm, .int .i64 flags, .slice A9 kl k9, .string text, .string ⟨#[]⟩] 51)).heap.size; simp)
        have R11d := Lib.hid (show (w11.alloc (.cells #[.int .i64 1, .int .i64 0, .int .i64 0, .int .i64 b.next, .int .i64 (b.high + 1), .int .i64 date, .string nm, .int .i64 flags, .slice A9 kl k9, .string text, .string ⟨#[]⟩] 51)).drew.heap[w11.heap.size]? = some (.cells #[.int .i64 1, .int .i64 0, .int .i64 0, .int .i64 b.next, .int .i64 (b.high + 1), .int .i64 date, .string nm, .int .i64 flags, .slice A9 kl k9, .string text, .string ⟨#[]⟩] 51 (0, 0)) from heap_alloc_new w11 (.cells #[.int .i64 1, .int .i64 0, .int .i64 0, .int .i64 b.next, .int .i64 (b.high + 1), .int .i64 date, .string nm, .int .i64 flags, .slice A9 kl k9, .string text, .string ⟨#[]⟩] 51))
        have KWR := Lib.hid kwr
        have R11 := Lib.hid (heap_alloc_new w11 (.cells #[.int .i64 1, .int .i64 0, .int .i64 0, .int .i64 b.next, .int .i64 (b.high + 1), .int .i64 date, .string nm, .int .i64 flags, .slice A9 kl k9, .string text, .string ⟨#[]⟩] 51))
        have M11a := Lib.hid ((heap_alloc_old w11 (.cells #[.int .i64 1, .int .i64 0, .int .i64 0, .int .i64 b.next, .int .i64 (b.high + 1), .int .i64 date, .string nm, .int .i64 flags, .slice A9 kl k9, .string text, .string ⟨#[]⟩] 51) (Array.getElem?_eq_some_iff.1 M11.out).1).trans M11.out)
        obtain ⟨n0, n1, n2, n3, n4, n5, n6⟩ := seven_at M11a.out
        clear kwr
        go_region_held3 (fun wr => wr.cell? { block := Q, off := 0 } = some (.int .i64 b.next) ∧ wr.cell? { block := Q, off := 1 } = some (.int .i64 (b.high + 1)) ∧ wr.cell? { block := Q, off := 2 } = some (.int .i64 date) ∧ wr.cell? { block := Q, off := 3 } = some (.string nm) ∧ wr.cell? { block := Q, off := 4 } = some (.int .i64 flags) ∧ wr.cell? { block := Q, off := 5 } = some (.slice A9 kl k9) ∧ wr.cell? { block := Q, off := 6 } = some (.string text))
          (with_reducible first | exact ⟨m0, m1, m2, m3, m4, m5, m6⟩ | exact ⟨n0, n1, n2, n3, n4, n5, n6⟩ | exact X12.out | exact X12a.out | exact X13.out | go_keep) (first
          | (go_at_call 22
             ((with_reducible refine (KWR.out _ ?d1).mono ?_); rotate_left)
             case d1 => first | exact Below.refl _ _ | exact (Below.refl _ _).drew | exact (Below.refl _ _).alloc (Nat.le_refl _) _ | exact ((Below.refl _ _).alloc (Nat.le_refl _) _).drew
             go_loud (
               rintro e w12 ⟨A12, k12, rfl, hown, hb12, hbel⟩
               have HB12 := Lib.hid hb12
               have M12 := Lib.hid ((HB12.out.block Q (Array.getElem?_eq_some_iff.1 M11.out).1).trans M11.out)
               have M12a := Lib.hid ((heap_alloc_old w12 (.cells #[.int .i64 1, .int .i64 0, .int .i64 0, .int .i64 b.next, .int .i64 (b.high + 1), .int .i64 date, .string nm, .int .i64 flags, .slice A9 kl k9, .string text, .string ⟨#[]⟩] 51) (Array.getElem?_eq_some_iff.1 M12.out).1).trans M12.out)
               have X12 := Lib.hid (seven_at M12.out)
               have X12a := Lib.hid (seven_at M12a.out)
               have HR12 := Lib.hid hown
               have HK12 := Lib.hid (own_block HK11.out fun g e => HB12.out.block g (HK11.out.lt g e).2)
               have OA := Lib.hid (HR12.out.alloc (.cells #[.int .i64 1, .int .i64 0, .int .i64 0, .int .i64 b.next, .int .i64 (b.high + 1), .int .i64 date, .string nm, .int .i64 flags, .slice A9 kl k9, .string text, .string ⟨#[]⟩] 51))
               have SA := Lib.hid (src_cells w12 (t := 51) (rowOnes 0 0 b.next (b.high + 1) date nm flags A9 kl k9 text))
               have HC12 := Lib.hid (Nat.le_trans (Nat.le_of_lt hs11) HB12.out.size)
               have HA12 := Lib.hid (Nat.le_trans HC12.out (Below.size ((Below.refl w12.heap.size w12).alloc (Nat.le_refl _) (.cells #[.int .i64 1, .int .i64 0, .int .i64 0, .int .i64 b.next, .int .i64 (b.high + 1), .int .i64 date, .string nm, .int .i64 flags, .slice A9 kl k9, .string text, .string ⟨#[]⟩] 51))))
               have HBB := Lib.hid (F11.out.bel.trans (HB12.out.mono (Nat.le_of_lt hs11)))
               first
               | (have sb := hbel.block w11.heap.size (by with_reducible first | exact HLT.out | exact HLD.out)
                  have sb2 : w12.heap[w11.heap.size]? = some (.cells #[.int .i64 1, .int .i64 0, .int .i64 0, .int .i64 b.next, .int .i64 (b.high + 1), .int .i64 date, .string nm, .int .i64 flags, .slice A9 kl k9, .string text, .string ⟨#[]⟩] 51 (0, 0)) := by with_reducible first | exact sb.trans R11.out | exact sb.trans R11d.out
                  have SB := Lib.hid (src_block sb2 (rowOnes 0 0 b.next (b.high + 1) date nm flags A9 kl k9 text))
                  clear sb sb2
                  clear hown hbel hb12
                  dsimp only)
               | (have SB := Lib.hid True.intro
                  clear hown hbel hb12
                  dsimp only)))
          | ((with_reducible refine step_rows elR (c := 1) rfl (.tmp 82) (.tmp 85) rfl (by simp [Act.eval]) (by simp [Act.eval]) OA.out SA.out hb1 hb2 HA12.out ?_)
             go_loud (
               intro v13 w13 hown13 hg13 _
               obtain ⟨A13, k13, rfl, hk13⟩ := own_slice hown13
               have M13 := Lib.hid ((hg13.block Q (Array.getElem?_eq_some_iff.1 M12a.out).1 (Ne.symm (own_ne_blk OA.out M12a.out (by decide)))).trans M12a.out)
               have X13 := Lib.hid (seven_at M13.out)
               have HK13 := Lib.hid (own_block (HK12.out.alloc (.cells #[.int .i64 1, .int .i64 0, .int .i64 0, .int .i64 b.next, .int .i64 (b.high + 1), .int .i64 date, .string nm, .int .i64 flags, .slice A9 kl k9, .string text, .string ⟨#[]⟩] 51)) fun g e => hg13.block g ((HK12.out.alloc (.cells #[.int .i64 1, .int .i64 0, .int .i64 0, .int .i64 b.next, .int .i64 (b.high + 1), .int .i64 date, .string nm, .int .i64 flags, .slice A9 kl k9, .string text, .string ⟨#[]⟩] 51)).lt g e).2 fun e2 => own_ne (HK12.out.alloc (.cells #[.int .i64 1, .int .i64 0, .int .i64 0, .int .i64 b.next, .int .i64 (b.high + 1), .int .i64 date, .string nm, .int .i64 flags, .slice A9 kl k9, .string text, .string ⟨#[]⟩] 51)) OA.out e2.symm (by decide) e)
               have HB13 := Lib.hid ((HBB.out.alloc HC12.out (.cells #[.int .i64 1, .int .i64 0, .int .i64 0, .int .i64 b.next, .int .i64 (b.high + 1), .int .i64 date, .string nm, .int .i64 flags, .slice A9 kl k9, .string text, .string ⟨#[]⟩] 51)).grown hg13 HA12.out (fun g e => (HR12.out.lt g e).1))
               have HO13 := Lib.hid hown13
               clear hown13 hg13
               dsimp only))
          | ((with_reducible refine step_rows elR (c := 1) rfl (.tmp 82) (.tmp 85) rfl (by simp [Act.eval]) (by simp [Act.eval]) HR12.out SB.out hb1 hb2 HC12.out ?_)
             go_loud (
               intro v13 w13 hown13 hg13 _
               obtain ⟨A13, k13, rfl, hk13⟩ := own_slice hown13
               have M13 := Lib.hid ((hg13.block Q (Array.getElem?_eq_some_iff.1 M12.out).1 (Ne.symm (own_ne_blk HR12.out M12.out (by decide)))).trans M12.out)
               have X13 := Lib.hid (seven_at M13.out)
               have HK13 := Lib.hid (own_block HK12.out fun g e => hg13.block g (HK12.out.lt g e).2 fun e2 => own_ne HK12.out HR12.out e2.symm (by decide) e)
               have HB13 := Lib.hid (HBB.out.grown hg13 HC12.out (fun g e => (HR12.out.lt g e).1))
               have HO13 := Lib.hid hown13
               clear hown13 hg13
               dsimp only)))
        all_goals
          go_wp2_with fail
          go_ret2
          rw [HRR.out (by first | rfl | trivial)]
          exact add_fin HNM.out HKS.out HKL.out HFL.out HME.out (strs_size HZ.out) HO13.out HK13.out (by omega) hkl6 HB13.out
theorem add_any {w : World} {b : Box} {date flags : Int} {id text : ByteArray} {words : List ByteArray} {WA MA A : Option Addr} {wn wc mn mcp n cp B : Nat} (ht : Tab w) (hx : StrsAt w B WA wn b.words) (hm : MsgsAt w B MA mn b.msgs) (hwc : wn ≤ wc) (hmc : mn ≤ mcp) (hB : B ≤ w.heap.size) (hz : StrsAt w B A n words) (hn : n ≤ cp) (hl : n ≤ 8796093022208) (hfew : n ≤ 100000 ∨ ∃ x ∈ words, 24 < x.size) (zi : id.size ≤ 140737488355328) (zt : text.size ≤ 140737488355328) : Calls Tryd.prog 7 #[.agg #[.string b.id, .int .i64 b.valid, .int .i64 b.next, .int .i64 b.high, .slice WA wn wc, .slice MA mn mcp], .int .i64 date, .string id, .int .i64 flags, .slice A n cp, .string text] w (RowsOut (addP b date id flags words text) (addE b date id flags words text) w) := by
  by_cases h0 : mbE b = 0
  · by_cases hw : wordsB words = true
    · exact add_go ht hx hm hwc hmc hB hz hn hl hfew zi zt h0 hw
    · have hw2 : wordsB words = false := by simpa using hw
      have e : addE b date id flags words text = 1 := by unfold addE; rw [if_pos (.inr hw2)]
      unfold addP
      rw [e, if_neg (by decide)]
      exact add_none ht hx hm hwc hmc hB hz hn hl hfew zi zt h0 hw2
  · have e : addE b date id flags words text = 1 := by unfold addE; rw [if_pos (.inl h0)]
    unfold addP
    rw [e, if_neg (by decide)]
    exact add_bad ht hx hm hwc hmc hB hz hn hl hfew zi zt rfl h0
end Go.Proofs.YtnicijeeocknaaaDoor.RwW15
