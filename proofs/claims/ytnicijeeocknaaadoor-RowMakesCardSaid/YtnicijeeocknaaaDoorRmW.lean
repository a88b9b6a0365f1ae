/-
  RowMakes: the rows that the program makes are those that the document asks: the walk.
-/
import Derived.Test.YtnicijeeocknaaaDoorRmH
import Derived.Test.YtnicijeeocknaaaDoorRmE
import Derived.Test.YtnicijeeocknaaaDoorRmF
import Derived.Test.YtnicijeeocknaaaDoorL7
import Derived.Test.YtnicijeeocknaaaDoorL9
import Derived.Test.YtnicijeeocknaaaDoorRwAw
import Derived.Test.YtnicijeeocknaaaDoorRwW12
import Derived.Test.YtnicijeeocknaaaDoorImS
import Derived.Test.YtnicijeeocknaaaDoorBxH
import Derived.Test.YtnicijeeocknaaaDoorL1
import Derived.Deep.RegionHeld3
import Derived.Deep.DeepCutAuto
set_option linter.unusedVariables false
set_option linter.unusedSimpArgs false
namespace Go.Proofs.YtnicijeeocknaaaDoor.RmW
open Go.RowKit Go.Proofs.YtnicijeeocknaaaDoor.BxD Go.Proofs.YtnicijeeocknaaaDoor.BxKit Go.Proofs.YtnicijeeocknaaaDoor.BxA Go.Proofs.YtnicijeeocknaaaDoor.BxB Go.Proofs.YtnicijeeocknaaaDoor.BxR Go.Proofs.YtnicijeeocknaaaDoor.BxH Go.Proofs.YtnicijeeocknaaaDoor.BxF Go.Proofs.YtnicijeeocknaaaDoor.RwD Go.Proofs.YtnicijeeocknaaaDoor.RwM Go.Proofs.YtnicijeeocknaaaDoor.RwF Go.Proofs.YtnicijeeocknaaaDoor.RwKit Go.Proofs.YtnicijeeocknaaaDoor.RdF Go.Proofs.YtnicijeeocknaaaDoor.RwW15 Go.Proofs.YtnicijeeocknaaaDoor.RwW17 Go.Proofs.YtnicijeeocknaaaDoor.RwW12

/-- The box's block and the message's, which stay. -/
structure St (w wr : World) (bc mc : Array Value) : Prop where
  bel : Below w.heap.size w wr
  bb : wr.heap[w.heap.size]? = some (.cells bc 25 (0, 0))
  mm : wr.heap[w.heap.size + 1]? = some (.cells mc 28 (0, 0))
theorem St.go {w wr w2 : World} {bc mc : Array Value} (h : St w wr bc mc) (hb : Below wr.heap.size wr w2) : St w w2 bc mc :=
  ⟨h.bel.trans (hb.mono h.bel.size), (hb.block _ (Array.getElem?_eq_some_iff.1 h.bb).1).trans h.bb, (hb.block _ (Array.getElem?_eq_some_iff.1 h.mm).1).trans h.mm⟩
theorem St.start (w : World) (bc mc : Array Value) : St w ((w.alloc (.cells bc 25)).alloc (.cells mc 28)) bc mc := by
  have e : (w.alloc (.cells bc 25)).heap.size = w.heap.size + 1 := by simp
  refine ⟨((Below.refl _ _).alloc (Nat.le_refl _) _).alloc (by simp) _, (heap_alloc_old _ _ (by simp)).trans (heap_alloc_new w _), ?_⟩
  have := heap_alloc_new (w.alloc (.cells bc 25)) (.cells mc 28)
  rwa [e] at this
theorem nw {w : World} {o : Obj} {b : Nat} (hb : b = w.heap.size) : (w.alloc o).heap[b]? = some o := by subst hb; exact heap_alloc_new w o
theorem od {w : World} {o : Obj} {b : Nat} {x : Obj} (h : w.heap[b]? = some x) : (w.alloc o).heap[b]? = some x := (heap_alloc_old _ _ (Array.getElem?_eq_some_iff.1 h).1).trans h
theorem dr {w : World} {b : Nat} {x : Obj} (h : w.heap[b]? = some x) : w.drew.heap[b]? = some x := h
theorem seven_at {w : World} {Q : Nat} {c0 c1 c2 c3 c4 c5 c6 : Value} {t : TypeId} (h : w.heap[Q]? = some (.cells #[c0, c1, c2, c3, c4, c5, c6] t (0, 0))) : w.cell? { block := Q, off := 0 } = some c0 ∧ w.cell? { block := Q, off := 1 } = some c1 ∧ w.cell? { block := Q, off := 2 } = some c2 ∧ w.cell? { block := Q, off := 3 } = some c3 ∧ w.cell? { block := Q, off := 4 } = some c4 ∧ w.cell? { block := Q, off := 5 } = some c5 ∧ w.cell? { block := Q, off := 6 } = some c6 := by
  have c := fun o => cell_of_row w Q o _ _ _ h
  exact ⟨(c 0).trans rfl, (c 1).trans rfl, (c 2).trans rfl, (c 3).trans rfl, (c 4).trans rfl, (c 5).trans rfl, (c 6).trans rfl⟩
theorem msg_one {w : World} {X B : Nat} {u md d fl : Int} {id tx : ByteArray} {KA : Option Addr} {kn kc : Nat} {ks : List Int} (h : w.heap[X]? = some (.cells #[.int .i64 u, .int .i64 md, .int .i64 d, .string id, .int .i64 fl, .slice KA kn kc, .string tx] 28 (0, 0))) (hk : IntsAt w B KA kn ks) (hB : B ≤ w.heap.size) (hkc : kn ≤ kc) (z3 : id.size ≤ 140737488355328) (z4 : tx.size ≤ 140737488355328) : MsgsAt w w.heap.size (some ⟨X, 0, none⟩) 1 [⟨u, md, d, id, fl, ks, tx⟩] := by
  have hc : ∀ o, w.cell? { block := X, off := o } = (#[.int .i64 u, .int .i64 md, .int .i64 d, .string id, .int .i64 fl, .slice KA kn kc, .string tx] : Array Value)[o]? := fun o => cell_of_row w X o _ _ _ h
  refine ⟨rfl, by decide, fun _ => ⟨_, rfl, (Array.getElem?_eq_some_iff.1 h).1, fun j x hx => ?_⟩⟩
  match j, hx with
  | 0, hx =>
    obtain rfl : ⟨u, md, d, id, fl, ks, tx⟩ = x := by simpa using hx
    refine ⟨(hc 0).trans rfl, (hc 1).trans rfl, (hc 2).trans rfl, (hc 3).trans rfl, (hc 4).trans rfl, ⟨KA, kc, ?_, ?_, ?_⟩, (hc 6).trans rfl, z3, z4⟩
    · have := (hc 5).trans rfl
      show _ = some (Value.slice KA ks.length kc)
      rw [hk.len]; exact this
    · show ks.length ≤ kc
      rw [hk.len]; exact hkc
    · show IntsAt _ _ KA ks.length ks
      rw [hk.len]
      exact IntsAt.more hk hB
  | j + 1, hx => simp at hx


set_option maxHeartbeats 8000000 in
set_option maxRecDepth 100000 in
theorem walk {b : Box} {u md d fl k how : Int} {id tx : ByteArray} {WA MA KA A IA : Option Addr} {wn wcp mn mcp kn kc n cp un ucp : Nat} {ks us : List Int} {words : List ByteArray} {w : World} (ht : RwW15.Tab w) (h1 : StrsAt w w.heap.size WA wn b.words) (h2 : MsgsAt w w.heap.size MA mn b.msgs) (h3 : IntsAt w w.heap.size KA kn ks) (h4 : StrsAt w w.heap.size A n words) (h5 : IntsAt w w.heap.size IA un us)
    (hwc : wn ≤ wcp) (hmc : mn ≤ mcp) (hkc : kn ≤ kc) (hcp : n ≤ cp) (hucp : un ≤ ucp) (hn : n ≤ 8796093022208) (z1 : b.id.size ≤ 140737488355328) (z2 : id.size ≤ 140737488355328) (z3 : tx.size ≤ 140737488355328) :
    Calls Tryd.prog 3 #[.agg #[.string b.id, .int .i64 b.valid, .int .i64 b.next, .int .i64 b.high, .slice WA wn wcp, .slice MA mn mcp], .agg #[.int .i64 u, .int .i64 md, .int .i64 d, .string id, .int .i64 fl, .slice KA kn kc, .string tx], .slice A n cp, .int .i64 k, .int .i64 how, .slice IA un ucp] w fun e w' => e = .returned (.bool true) ∧ Below w.heap.size w w' := by
  have HS := Lib.hid (St.start w #[.string b.id, .int .i64 b.valid, .int .i64 b.next, .int .i64 b.high, .slice WA wn wcp, .slice MA mn mcp] #[.int .i64 u, .int .i64 md, .int .i64 d, .string id, .int .i64 fl, .slice KA kn kc, .string tx])
  have HX := Lib.hid h1
  have HM := Lib.hid h2
  have HK := Lib.hid h3
  have HZ := Lib.hid h4
  have HU := Lib.hid h5
  have HT := Lib.hid ht
  have HWC := Lib.hid hwc
  have HMC := Lib.hid hmc
  have HAW := Lib.hid (fun (wr : World) (hb : Below w.heap.size w wr) => RwAw.awake (ht.below hb (Nat.le_refl _)))
  have hA := hv_or b.id b.words b.msgs
  have hC := hv_or ⟨#[]⟩ [] [(⟨u, md, d, id, fl, ks, tx⟩ : Msg)]
  obtain ⟨nA, hnA⟩ : ∃ nA, nA = hv b.id b.words b.msgs := ⟨_, rfl⟩
  obtain ⟨nC, hnC⟩ : ∃ nC, nC = hv ⟨#[]⟩ [] [(⟨u, md, d, id, fl, ks, tx⟩ : Msg)] := ⟨_, rfl⟩
  rw [← hnA] at hA
  rw [← hnC] at hC
  have hA1 : nA = 1 ∨ nA = 0 := by rcases hA with h | h; exact .inl h; exact .inr h.1
  have hC1 : nC = 1 ∨ nC = 0 := by rcases hC with h | h; exact .inl h; exact .inr h.1
  have HNA := Lib.hid hnA
  have HNC := Lib.hid hnC
  clear hA hC ht h1 h2 h3 h4 h5 hwc hmc hnA hnC
  go_enter Tryd.func3, Tryd.ntmps3
  go_upto_region 1 with fail
  generalize (World.alloc (World.alloc w _) _) = w0 at HS ⊢
  have CB := Lib.hid (fun (wr : World) (g : Below w0.heap.size w0 wr) => show wr.cell? { block := w.heap.size, off := 0 } = some (.string b.id) ∧ wr.cell? { block := w.heap.size, off := 1 } = some (.int .i64 b.valid) ∧ wr.cell? { block := w.heap.size, off := 2 } = some (.int .i64 b.next) ∧ wr.cell? { block := w.heap.size, off := 3 } = some (.int .i64 b.high) ∧ wr.cell? { block := w.heap.size, off := 4 } = some (.slice WA wn wcp) ∧ wr.cell? { block := w.heap.size, off := 5 } = some (.slice MA mn mcp) ∧ wr.cell? { block := w.heap.size + 1, off := 0 } = some (.int .i64 u) ∧ wr.cell? { block := w.heap.size + 1, off := 1 } = some (.int .i64 md) ∧ wr.cell? { block := w.heap.size + 1, off := 2 } = some (.int .i64 d) ∧ wr.cell? { block := w.heap.size + 1, off := 3 } = some (.string id) ∧ wr.cell? { block := w.heap.size + 1, off := 4 } = some (.int .i64 fl) ∧ wr.cell? { block := w.heap.size + 1, off := 5 } = some (.slice KA kn kc) ∧ wr.cell? { block := w.heap.size + 1, off := 6 } = some (.string tx) from by
    have s := HS.out.go g
    obtain ⟨b0, b1, b2, b3, b4, b5, _⟩ := six_at s.bb
    obtain ⟨m0, m1, m2, m3, m4, m5, m6⟩ := seven_at s.mm
    exact ⟨b0, b1, b2, b3, b4, b5, m0, m1, m2, m3, m4, m5, m6⟩)
  have K1 := Lib.hid (fun (wr : World) (g : Below w0.heap.size w0 wr) => heavy_any (bid := b.id) (bv := b.valid) (bn := b.next) (bh := b.high) (wc := wcp) (mc := mcp) (StrsAt.below HX.out (HS.out.go g).bel (Nat.le_refl _)) (MsgsAt.below HM.out (HS.out.go g).bel (Nat.le_refl _)) (HS.out.go g).bel.size (HS.out.go g).bel.size z1)
  have K2 := Lib.hid (fun (wr : World) (X : Nat) (h : wr.heap[X]? = some (.cells #[.int .i64 u, .int .i64 md, .int .i64 d, .string id, .int .i64 fl, .slice KA kn kc, .string tx] 28 (0, 0))) (g : Below w0.heap.size w0 wr) => heavy_any (bid := ⟨#[]⟩) (bv := 0) (bn := 0) (bh := 0) (wc := 0) (mc := 1) (RowAt.nil strC 1 wr wr.heap.size none) (msg_one h (IntsAt.below HK.out (HS.out.go g).bel (Nat.le_refl _)) (HS.out.go g).bel.size hkc z2 z3) (Nat.le_refl _) (Nat.le_refl _) (by decide))
  have K3 := Lib.hid (fun (wr : World) (g : Below w0.heap.size w0 wr) => few_any (cp := cp) (StrsAt.below HZ.out (HS.out.go g).bel (Nat.le_refl _)) hn)
  simp only [← HNA.out] at K1
  simp only [← HNC.out] at K2
  obtain ⟨b0, b1, b2, b3, b4, b5, m0, m1, m2, m3, m4, m5, m6⟩ := CB.out w0 (Below.refl _ _)
  go_cut [40] (fun s40 wx => ∃ bb : Bool, s40 = .bool bb ∧ (bb = false → un ≤ 100 ∧ Hid (Fw n words)) ∧ Hid (St w wx #[.string b.id, .int .i64 b.valid, .int .i64 b.next, .int .i64 b.high, .slice WA wn wcp, .slice MA mn mcp] #[.int .i64 u, .int .i64 md, .int .i64 d, .string id, .int .i64 fl, .slice KA kn kc, .string tx]))
  case first =>
    refine wp_region_noPanic ?_
    refine wp_region_held_drew (S := fun wr => wr.cell? { block := w.heap.size, off := 0 } = some (.string b.id) ∧ wr.cell? { block := w.heap.size, off := 1 } = some (.int .i64 b.valid) ∧ wr.cell? { block := w.heap.size, off := 2 } = some (.int .i64 b.next) ∧ wr.cell? { block := w.heap.size, off := 3 } = some (.int .i64 b.high) ∧ wr.cell? { block := w.heap.size, off := 4 } = some (.slice WA wn wcp) ∧ wr.cell? { block := w.heap.size, off := 5 } = some (.slice MA mn mcp) ∧ wr.cell? { block := w.heap.size + 1, off := 0 } = some (.int .i64 u) ∧ wr.cell? { block := w.heap.size + 1, off := 1 } = some (.int .i64 md) ∧ wr.cell? { block := w.heap.size + 1, off := 2 } = some (.int .i64 d) ∧ wr.cell? { block := w.heap.size + 1, off := 3 } = some (.string id) ∧ wr.cell? { block := w.heap.size + 1, off := 4 } = some (.int .i64 fl) ∧ wr.cell? { block := w.heap.size + 1, off := 5 } = some (.slice KA kn kc) ∧ wr.cell? { block := w.heap.size + 1, off := 6 } = some (.string tx)) (by kernel_rfl) ?_ (fun hHeld => ?_)
    · exact CB.out _ (Below.refl _ _).drew
    refine wpAnyH_take (i := 0) (v := ?_) rfl (by kernel_rfl) (by kernel_rfl) (by kernel_rfl) (fun _ _ _ h => h) (Or.inl ⟨by rfl, ?_⟩) hHeld ?_
    rotate_left
    · intro wq hSq; (try dsimp only at hSq); go_simp; try with_reducible rfl
    try simp only [Act.put, List.setIfInBounds_toArray, List.set_cons_zero, List.set_cons_succ, List.getElem_toArray, List.getElem_cons_zero, List.getElem_cons_succ]
    refine wpAnyH_take (i := 2) (v := ?_) rfl (by kernel_rfl) (by kernel_rfl) (by kernel_rfl) (fun _ _ _ h => h) (Or.inl ⟨by rfl, ?_⟩) hHeld ?_
    rotate_left
    · intro wq hSq; (try dsimp only at hSq); go_simp; try with_reducible rfl
    try simp only [Act.put, List.setIfInBounds_toArray, List.set_cons_zero, List.set_cons_succ, List.getElem_toArray, List.getElem_cons_zero, List.getElem_cons_succ]
    refine wpAnyH_take (i := 7) (v := ?_) rfl (by kernel_rfl) (by kernel_rfl) (by kernel_rfl) (fun _ _ _ h => h) (Or.inl ⟨by rfl, ?_⟩) hHeld ?_
    rotate_left
    · intro wq hSq; (try dsimp only at hSq); go_simp; try with_reducible rfl
    try simp only [Act.put, List.setIfInBounds_toArray, List.set_cons_zero, List.set_cons_succ, List.getElem_toArray, List.getElem_cons_zero, List.getElem_cons_succ]
    refine wpAnyH_ready (rs := [1, 3]) (by kernel_rfl) (by simp) ?_
    refine AllReadyH.cons rfl (fun K hK => ?_) (AllReadyH.cons rfl (fun K hK => ?_) AllReadyH.nil)
    · go_simp; try with_reducible rfl
      go_at_call 4
      refine (K1.out _ (by (repeat (with_reducible first | exact Below.refl _ _ | refine Below.drew ?_ | refine Below.alloc ?_ (by first | exact Nat.le_refl _ | omega | (simp; done) | (simp; omega)) _)); first | done | fail)).mono ?_
      rintro e w1 ⟨rfl, hb1⟩
      have X1 := Lib.hid (Below.trans (show Below w0.heap.size w0 _ from (by (repeat (with_reducible first | exact Below.refl _ _ | refine Below.drew ?_ | refine Below.alloc ?_ (by first | exact Nat.le_refl _ | omega | (simp; done) | (simp; omega)) _)); first | done | fail)) (hb1.mono (by first | exact Nat.le_refl _ | omega | (simp; done) | (simp; omega))))
      have hzX1 := X1.out.size
      clear hb1
      dsimp only
      refine hK.out _ _ ?_ (fun hHeld => ?_)
      · exact CB.out _ (X1.out)
      clear hK K
      try simp only [Act.put, List.setIfInBounds_toArray, List.set_cons_zero, List.set_cons_succ, List.getElem_toArray, List.getElem_cons_zero, List.getElem_cons_succ]
      refine wpAnyH_ready (rs := [3]) (by kernel_rfl) (by simp) ?_
      refine AllReadyH.cons rfl (fun K hK => ?_) AllReadyH.nil
      go_simp; try with_reducible rfl
      refine hK.out _ _ ?_ (fun hHeld => ?_)
      · exact CB.out _ ((by (repeat (with_reducible first | exact Below.refl _ _ | exact X1.out | refine Below.drew ?_ | refine Below.alloc ?_ (by first | exact Nat.le_refl _ | omega | (simp; done) | (simp; omega)) _)); first | done | fail))
      clear hK K
      try simp only [Act.put, List.setIfInBounds_toArray, List.set_cons_zero, List.set_cons_succ, List.getElem_toArray, List.getElem_cons_zero, List.getElem_cons_succ]
      refine wpAnyH_take (i := 4) (v := ?_) rfl (by kernel_rfl) (by kernel_rfl) (by kernel_rfl) (fun _ _ _ h => h) (Or.inl ⟨by rfl, ?_⟩) hHeld ?_
      rotate_left
      · intro wq hSq; (try dsimp only at hSq); go_simp; try with_reducible rfl
      try simp only [Act.put, List.setIfInBounds_toArray, List.set_cons_zero, List.set_cons_succ, List.getElem_toArray, List.getElem_cons_zero, List.getElem_cons_succ]
      refine wpAnyH_ready (rs := [5]) (by kernel_rfl) (by simp) ?_
      refine AllReadyH.cons rfl (fun K hK => ?_) AllReadyH.nil
      go_simp; try with_reducible rfl
      go_at_call 4
      refine (K2.out _ _ (by (repeat (with_reducible first | exact nw (by first | rfl | (simp; done) | (simp; omega)) | refine dr ?_ | refine od ?_)); first | done | fail) (by (repeat (with_reducible first | exact Below.refl _ _ | exact X1.out | refine Below.drew ?_ | refine Below.alloc ?_ (by first | exact Nat.le_refl _ | omega | (simp; done) | (simp; omega)) _)); first | done | fail)).mono ?_
      rintro e w2 ⟨rfl, hb2⟩
      have X2 := Lib.hid (Below.trans (show Below w0.heap.size w0 _ from (by (repeat (with_reducible first | exact Below.refl _ _ | exact X1.out | refine Below.drew ?_ | refine Below.alloc ?_ (by first | exact Nat.le_refl _ | omega | (simp; done) | (simp; omega)) _)); first | done | fail)) (hb2.mono (by first | exact Nat.le_refl _ | omega | (simp; done) | (simp; omega))))
      have hzX2 := X2.out.size
      clear hb2
      dsimp only
      refine hK.out _ _ ?_ (fun hHeld => ?_)
      · exact CB.out _ (X2.out)
      clear hK K
      try simp only [Act.put, List.setIfInBounds_toArray, List.set_cons_zero, List.set_cons_succ, List.getElem_toArray, List.getElem_cons_zero, List.getElem_cons_succ]
      refine wpAnyH_take (i := 6) (v := ?_) rfl (by kernel_rfl) (by kernel_rfl) (by kernel_rfl) (fun _ _ _ h => h) (Or.inl ⟨by rfl, ?_⟩) hHeld ?_
      rotate_left
      · intro wq hSq; (try dsimp only at hSq); go_simp; try with_reducible rfl
      try simp only [Act.put, List.setIfInBounds_toArray, List.set_cons_zero, List.set_cons_succ, List.getElem_toArray, List.getElem_cons_zero, List.getElem_cons_succ]
      refine wpAnyH_ready (rs := [8]) (by kernel_rfl) (by simp) ?_
      refine AllReadyH.cons rfl (fun K hK => ?_) AllReadyH.nil
      go_simp; try with_reducible rfl
      go_at_call 5
      refine (K3.out _ X2.out).mono ?_
      rintro e w3 ⟨r, rfl, rfl, hr⟩
      refine hK.out _ _ ?_ (fun hHeld => ?_)
      · exact CB.out _ (X2.out)
      clear hK K
      try simp only [Act.put, List.setIfInBounds_toArray, List.set_cons_zero, List.set_cons_succ, List.getElem_toArray, List.getElem_cons_zero, List.getElem_cons_succ]
      refine wpAnyH_take (i := 9) (v := ?_) rfl (by kernel_rfl) (by kernel_rfl) (by kernel_rfl) (fun _ _ _ h => h) (Or.inl ⟨by rfl, ?_⟩) hHeld ?_
      rotate_left
      · intro wq hSq; (try dsimp only at hSq); go_simp; try with_reducible rfl
      try simp only [Act.put, List.setIfInBounds_toArray, List.set_cons_zero, List.set_cons_succ, List.getElem_toArray, List.getElem_cons_zero, List.getElem_cons_succ]
      first | generalize hs2 : IntKind.i64.wrap (IntKind.i64.wrap (nA + nC) + r) = s2 | generalize hs2 : wrap64 (wrap64 (nA + nC) + r) = s2
      have HS2 := Lib.hid (show IntKind.i64.wrap (IntKind.i64.wrap (nA + nC) + r) = s2 from hs2)
      clear hs2
      refine wpAnyH_take (i := 10) (v := ?_) rfl (by kernel_rfl) (by kernel_rfl) (by kernel_rfl) (fun _ _ _ h => h) (Or.inl ⟨by rfl, ?_⟩) hHeld ?_
      rotate_left
      · intro wq hSq; (try dsimp only at hSq); go_simp; try with_reducible rfl
      try simp only [Act.put, List.setIfInBounds_toArray, List.set_cons_zero, List.set_cons_succ, List.getElem_toArray, List.getElem_cons_zero, List.getElem_cons_succ]
      refine wpAnyH_take (i := 11) (v := ?_) rfl (by kernel_rfl) (by kernel_rfl) (by kernel_rfl) (fun _ _ _ h => h) (Or.inl ⟨by rfl, ?_⟩) hHeld ?_
      rotate_left
      · intro wq hSq; (try dsimp only at hSq); go_simp; try with_reducible rfl
      try simp only [Act.put, List.setIfInBounds_toArray, List.set_cons_zero, List.set_cons_succ, List.getElem_toArray, List.getElem_cons_zero, List.getElem_cons_succ]
      by_cases hp : 0 < s2
      · have hp' : decide (0 < s2) = true := decide_eq_true hp
        try simp only [hp']
        refine wpAnyH_take (i := 12) (v := undef) rfl (by kernel_rfl) (by kernel_rfl) (by kernel_rfl) (fun _ _ _ h => h) (Or.inr ⟨by rfl, rfl⟩) hHeld ?_
        try simp only [Act.put, List.setIfInBounds_toArray, List.set_cons_zero, List.set_cons_succ, List.getElem_toArray, List.getElem_cons_zero, List.getElem_cons_succ]
        refine wpAnyH_take (i := 13) (v := undef) rfl (by kernel_rfl) (by kernel_rfl) (by kernel_rfl) (fun _ _ _ h => h) (Or.inr ⟨by rfl, rfl⟩) hHeld ?_
        try simp only [Act.put, List.setIfInBounds_toArray, List.set_cons_zero, List.set_cons_succ, List.getElem_toArray, List.getElem_cons_zero, List.getElem_cons_succ]
        refine wpAnyH_take (i := 14) (v := undef) rfl (by kernel_rfl) (by kernel_rfl) (by kernel_rfl) (fun _ _ _ h => h) (Or.inr ⟨by rfl, rfl⟩) hHeld ?_
        try simp only [Act.put, List.setIfInBounds_toArray, List.set_cons_zero, List.set_cons_succ, List.getElem_toArray, List.getElem_cons_zero, List.getElem_cons_succ]
        refine wpAnyH_take (i := 15) (v := ?_) rfl (by kernel_rfl) (by kernel_rfl) (by kernel_rfl) (fun _ _ _ h => h) (Or.inl ⟨by rfl, ?_⟩) hHeld ?_
        rotate_left
        · intro wq hSq; (try dsimp only at hSq); go_simp; try with_reducible rfl
        try simp only [Act.put, List.setIfInBounds_toArray, List.set_cons_zero, List.set_cons_succ, List.getElem_toArray, List.getElem_cons_zero, List.getElem_cons_succ]
        refine wpAnyH_done (by kernel_rfl) ?_ _
        refine NoPanic.normal ?_
        go_wp2_with fail
        go_meet
        exact ⟨true, rfl, (fun h => by cases h), HS.out.go X2.out⟩
      · have hp' : decide (0 < s2) = false := decide_eq_false hp
        try simp only [hp']
        have HFW := Lib.hid (show Fw n words from hr.resolve_right (fun h => hp (by rw [← HS2.out, show IntKind.i64.wrap (nA + nC) = nA + nC from IntWalk.i64_in _ (by omega), IntWalk.i64_in _ (by omega)]; omega)))
        refine wpAnyH_take (i := 12) (v := ?_) rfl (by kernel_rfl) (by kernel_rfl) (by kernel_rfl) (fun _ _ _ h => h) (Or.inl ⟨by rfl, ?_⟩) hHeld ?_
        rotate_left
        · intro wq hSq; (try dsimp only at hSq); go_simp; try with_reducible rfl
        try simp only [Act.put, List.setIfInBounds_toArray, List.set_cons_zero, List.set_cons_succ, List.getElem_toArray, List.getElem_cons_zero, List.getElem_cons_succ]
        refine wpAnyH_take (i := 13) (v := ?_) rfl (by kernel_rfl) (by kernel_rfl) (by kernel_rfl) (fun _ _ _ h => h) (Or.inl ⟨by rfl, ?_⟩) hHeld ?_
        rotate_left
        · intro wq hSq; (try dsimp only at hSq); go_simp; try with_reducible rfl
        try simp only [Act.put, List.setIfInBounds_toArray, List.set_cons_zero, List.set_cons_succ, List.getElem_toArray, List.getElem_cons_zero, List.getElem_cons_succ]
        refine wpAnyH_take (i := 14) (v := ?_) rfl (by kernel_rfl) (by kernel_rfl) (by kernel_rfl) (fun _ _ _ h => h) (Or.inl ⟨by rfl, ?_⟩) hHeld ?_
        rotate_left
        · intro wq hSq; (try dsimp only at hSq); go_simp; try with_reducible rfl
        try simp only [Act.put, List.setIfInBounds_toArray, List.set_cons_zero, List.set_cons_succ, List.getElem_toArray, List.getElem_cons_zero, List.getElem_cons_succ]
        refine wpAnyH_take (i := 15) (v := ?_) rfl (by kernel_rfl) (by kernel_rfl) (by kernel_rfl) (fun _ _ _ h => h) (Or.inl ⟨by rfl, ?_⟩) hHeld ?_
        rotate_left
        · intro wq hSq; (try dsimp only at hSq); go_simp; try with_reducible rfl
        try simp only [Act.put, List.setIfInBounds_toArray, List.set_cons_zero, List.set_cons_succ, List.getElem_toArray, List.getElem_cons_zero, List.getElem_cons_succ]
        refine wpAnyH_done (by kernel_rfl) ?_ _
        refine NoPanic.normal ?_
        go_wp2_with fail
        go_meet
        exact ⟨_, rfl, (fun h => ⟨by have := of_decide_eq_false h; omega, HFW⟩), HS.out.go X2.out⟩
    · go_simp; try with_reducible rfl
      refine hK.out _ _ ?_ (fun hHeld => ?_)
      · exact CB.out _ ((by (repeat (with_reducible first | exact Below.refl _ _ | refine Below.drew ?_ | refine Below.alloc ?_ (by first | exact Nat.le_refl _ | omega | (simp; done) | (simp; omega)) _)); first | done | fail))
      clear hK K
      try simp only [Act.put, List.setIfInBounds_toArray, List.set_cons_zero, List.set_cons_succ, List.getElem_toArray, List.getElem_cons_zero, List.getElem_cons_succ]
      refine wpAnyH_take (i := 4) (v := ?_) rfl (by kernel_rfl) (by kernel_rfl) (by kernel_rfl) (fun _ _ _ h => h) (Or.inl ⟨by rfl, ?_⟩) hHeld ?_
      rotate_left
      · intro wq hSq; (try dsimp only at hSq); go_simp; try with_reducible rfl
      try simp only [Act.put, List.setIfInBounds_toArray, List.set_cons_zero, List.set_cons_succ, List.getElem_toArray, List.getElem_cons_zero, List.getElem_cons_succ]
      refine wpAnyH_ready (rs := [1]) (by kernel_rfl) (by simp) ?_
      refine AllReadyH.cons rfl (fun K hK => ?_) AllReadyH.nil
      go_simp; try with_reducible rfl
      go_at_call 4
      refine (K1.out _ (by (repeat (with_reducible first | exact Below.refl _ _ | refine Below.drew ?_ | refine Below.alloc ?_ (by first | exact Nat.le_refl _ | omega | (simp; done) | (simp; omega)) _)); first | done | fail)).mono ?_
      rintro e w1 ⟨rfl, hb1⟩
      have hsz := hb1.size
      have HM1 := Lib.hid (show w1.heap[w0.heap.size]? = some (.cells #[.int .i64 u, .int .i64 md, .int .i64 d, .string id, .int .i64 fl, .slice KA kn kc, .string tx] 28 (0, 0)) from (hb1.block w0.heap.size (by first | (simp; done) | (simp; omega))).trans (by (repeat (with_reducible first | exact nw (by first | rfl | (simp; done) | (simp; omega)) | refine dr ?_ | refine od ?_)); first | done | fail))
      have X1 := Lib.hid (Below.trans (show Below w0.heap.size w0 _ from (by (repeat (with_reducible first | exact Below.refl _ _ | refine Below.drew ?_ | refine Below.alloc ?_ (by first | exact Nat.le_refl _ | omega | (simp; done) | (simp; omega)) _)); first | done | fail)) (hb1.mono (by first | exact Nat.le_refl _ | omega | (simp; done) | (simp; omega))))
      have hzX1 := X1.out.size
      clear hb1
      dsimp only
      refine hK.out _ _ ?_ (fun hHeld => ?_)
      · exact CB.out _ (X1.out)
      clear hK K
      try simp only [Act.put, List.setIfInBounds_toArray, List.set_cons_zero, List.set_cons_succ, List.getElem_toArray, List.getElem_cons_zero, List.getElem_cons_succ]
      refine wpAnyH_ready (rs := [5]) (by kernel_rfl) (by simp) ?_
      refine AllReadyH.cons rfl (fun K hK => ?_) AllReadyH.nil
      go_simp; try with_reducible rfl
      go_at_call 4
      refine (K2.out _ _ (by (repeat (with_reducible first | exact HM1.out | exact nw (by first | rfl | (simp; done) | (simp; omega)) | refine dr ?_ | refine od ?_)); first | done | fail) (by (repeat (with_reducible first | exact Below.refl _ _ | exact X1.out | refine Below.drew ?_ | refine Below.alloc ?_ (by first | exact Nat.le_refl _ | omega | (simp; done) | (simp; omega)) _)); first | done | fail)).mono ?_
      rintro e w2 ⟨rfl, hb2⟩
      have X2 := Lib.hid (Below.trans (show Below w0.heap.size w0 _ from (by (repeat (with_reducible first | exact Below.refl _ _ | exact X1.out | refine Below.drew ?_ | refine Below.alloc ?_ (by first | exact Nat.le_refl _ | omega | (simp; done) | (simp; omega)) _)); first | done | fail)) (hb2.mono (by first | exact Nat.le_refl _ | omega | (simp; done) | (simp; omega))))
      have hzX2 := X2.out.size
      clear hb2
      dsimp only
      refine hK.out _ _ ?_ (fun hHeld => ?_)
      · exact CB.out _ (X2.out)
      clear hK K
      try simp only [Act.put, List.setIfInBounds_toArray, List.set_cons_zero, List.set_cons_succ, List.getElem_toArray, List.getElem_cons_zero, List.getElem_cons_succ]
      refine wpAnyH_take (i := 6) (v := ?_) rfl (by kernel_rfl) (by kernel_rfl) (by kernel_rfl) (fun _ _ _ h => h) (Or.inl ⟨by rfl, ?_⟩) hHeld ?_
      rotate_left
      · intro wq hSq; (try dsimp only at hSq); go_simp; try with_reducible rfl
      try simp only [Act.put, List.setIfInBounds_toArray, List.set_cons_zero, List.set_cons_succ, List.getElem_toArray, List.getElem_cons_zero, List.getElem_cons_succ]
      refine wpAnyH_ready (rs := [8]) (by kernel_rfl) (by simp) ?_
      refine AllReadyH.cons rfl (fun K hK => ?_) AllReadyH.nil
      go_simp; try with_reducible rfl
      go_at_call 5
      refine (K3.out _ X2.out).mono ?_
      rintro e w3 ⟨r, rfl, rfl, hr⟩
      refine hK.out _ _ ?_ (fun hHeld => ?_)
      · exact CB.out _ (X2.out)
      clear hK K
      try simp only [Act.put, List.setIfInBounds_toArray, List.set_cons_zero, List.set_cons_succ, List.getElem_toArray, List.getElem_cons_zero, List.getElem_cons_succ]
      refine wpAnyH_take (i := 9) (v := ?_) rfl (by kernel_rfl) (by kernel_rfl) (by kernel_rfl) (fun _ _ _ h => h) (Or.inl ⟨by rfl, ?_⟩) hHeld ?_
      rotate_left
      · intro wq hSq; (try dsimp only at hSq); go_simp; try with_reducible rfl
      try simp only [Act.put, List.setIfInBounds_toArray, List.set_cons_zero, List.set_cons_succ, List.getElem_toArray, List.getElem_cons_zero, List.getElem_cons_succ]
      first | generalize hs2 : IntKind.i64.wrap (IntKind.i64.wrap (nA + nC) + r) = s2 | generalize hs2 : wrap64 (wrap64 (nA + nC) + r) = s2
      have HS2 := Lib.hid (show IntKind.i64.wrap (IntKind.i64.wrap (nA + nC) + r) = s2 from hs2)
      clear hs2
      refine wpAnyH_take (i := 10) (v := ?_) rfl (by kernel_rfl) (by kernel_rfl) (by kernel_rfl) (fun _ _ _ h => h) (Or.inl ⟨by rfl, ?_⟩) hHeld ?_
      rotate_left
      · intro wq hSq; (try dsimp only at hSq); go_simp; try with_reducible rfl
      try simp only [Act.put, List.setIfInBounds_toArray, List.set_cons_zero, List.set_cons_succ, List.getElem_toArray, List.getElem_cons_zero, List.getElem_cons_succ]
      refine wpAnyH_take (i := 11) (v := ?_) rfl (by kernel_rfl) (by kernel_rfl) (by kernel_rfl) (fun _ _ _ h => h) (Or.inl ⟨by rfl, ?_⟩) hHeld ?_
      rotate_left
      · intro wq hSq; (try dsimp only at hSq); go_simp; try with_reducible rfl
      try simp only [Act.put, List.setIfInBounds_toArray, List.set_cons_zero, List.set_cons_succ, List.getElem_toArray, List.getElem_cons_zero, List.getElem_cons_succ]
      by_cases hp : 0 < s2
      · have hp' : decide (0 < s2) = true := decide_eq_true hp
        try simp only [hp']
        refine wpAnyH_take (i := 12) (v := undef) rfl (by kernel_rfl) (by kernel_rfl) (by kernel_rfl) (fun _ _ _ h => h) (Or.inr ⟨by rfl, rfl⟩) hHeld ?_
        try simp only [Act.put, List.setIfInBounds_toArray, List.set_cons_zero, List.set_cons_succ, List.getElem_toArray, List.getElem_cons_zero, List.getElem_cons_succ]
        refine wpAnyH_take (i := 13) (v := undef) rfl (by kernel_rfl) (by kernel_rfl) (by kernel_rfl) (fun _ _ _ h => h) (Or.inr ⟨by rfl, rfl⟩) hHeld ?_
        try simp only [Act.put, List.setIfInBounds_toArray, List.set_cons_zero, List.set_cons_succ, List.getElem_toArray, List.getElem_cons_zero, List.getElem_cons_succ]
        refine wpAnyH_take (i := 14) (v := undef) rfl (by kernel_rfl) (by kernel_rfl) (by kernel_rfl) (fun _ _ _ h => h) (Or.inr ⟨by rfl, rfl⟩) hHeld ?_
        try simp only [Act.put, List.setIfInBounds_toArray, List.set_cons_zero, List.set_cons_succ, List.getElem_toArray, List.getElem_cons_zero, List.getElem_cons_succ]
        refine wpAnyH_take (i := 15) (v := ?_) rfl (by kernel_rfl) (by kernel_rfl) (by kernel_rfl) (fun _ _ _ h => h) (Or.inl ⟨by rfl, ?_⟩) hHeld ?_
        rotate_left
        · intro wq hSq; (try dsimp only at hSq); go_simp; try with_reducible rfl
        try simp only [Act.put, List.setIfInBounds_toArray, List.set_cons_zero, List.set_cons_succ, List.getElem_toArray, List.getElem_cons_zero, List.getElem_cons_succ]
        refine wpAnyH_done (by kernel_rfl) ?_ _
        refine NoPanic.normal ?_
        go_wp2_with fail
        go_meet
        exact ⟨true, rfl, (fun h => by cases h), HS.out.go X2.out⟩
      · have hp' : decide (0 < s2) = false := decide_eq_false hp
        try simp only [hp']
        have HFW := Lib.hid (show Fw n words from hr.resolve_right (fun h => hp (by rw [← HS2.out, show IntKind.i64.wrap (nA + nC) = nA + nC from IntWalk.i64_in _ (by omega), IntWalk.i64_in _ (by omega)]; omega)))
        refine wpAnyH_take (i := 12) (v := ?_) rfl (by kernel_rfl) (by kernel_rfl) (by kernel_rfl) (fun _ _ _ h => h) (Or.inl ⟨by rfl, ?_⟩) hHeld ?_
        rotate_left
        · intro wq hSq; (try dsimp only at hSq); go_simp; try with_reducible rfl
        try simp only [Act.put, List.setIfInBounds_toArray, List.set_cons_zero, List.set_cons_succ, List.getElem_toArray, List.getElem_cons_zero, List.getElem_cons_succ]
        refine wpAnyH_take (i := 13) (v := ?_) rfl (by kernel_rfl) (by kernel_rfl) (by kernel_rfl) (fun _ _ _ h => h) (Or.inl ⟨by rfl, ?_⟩) hHeld ?_
        rotate_left
        · intro wq hSq; (try dsimp only at hSq); go_simp; try with_reducible rfl
        try simp only [Act.put, List.setIfInBounds_toArray, List.set_cons_zero, List.set_cons_succ, List.getElem_toArray, List.getElem_cons_zero, List.getElem_cons_succ]
        refine wpAnyH_take (i := 14) (v := ?_) rfl (by kernel_rfl) (by kernel_rfl) (by kernel_rfl) (fun _ _ _ h => h) (Or.inl ⟨by rfl, ?_⟩) hHeld ?_
        rotate_left
        · intro wq hSq; (try dsimp only at hSq); go_simp; try with_reducible rfl
        try simp only [Act.put, List.setIfInBounds_toArray, List.set_cons_zero, List.set_cons_succ, List.getElem_toArray, List.getElem_cons_zero, List.getElem_cons_succ]
        refine wpAnyH_take (i := 15) (v := ?_) rfl (by kernel_rfl) (by kernel_rfl) (by kernel_rfl) (fun _ _ _ h => h) (Or.inl ⟨by rfl, ?_⟩) hHeld ?_
        rotate_left
        · intro wq hSq; (try dsimp only at hSq); go_simp; try with_reducible rfl
        try simp only [Act.put, List.setIfInBounds_toArray, List.set_cons_zero, List.set_cons_succ, List.getElem_toArray, List.getElem_cons_zero, List.getElem_cons_succ]
        refine wpAnyH_done (by kernel_rfl) ?_ _
        refine NoPanic.normal ?_
        go_wp2_with fail
        go_meet
        exact ⟨_, rfl, (fun h => ⟨by have := of_decide_eq_false h; omega, HFW⟩), HS.out.go X2.out⟩
  case rest =>
    obtain ⟨bb, rfl, hbb, HS1⟩ := hcut
    clear b0 b1 b2 b3 b4 b5 m0 m1 m2 m3 m4 m5 m6
    cases bb with
    | true =>
      have KA := Lib.hid (HAW.out _ HS1.out.bel)
      go_wp2_with (go_at_call 6; go_loud (refine KA.out.mono ?_; rintro e w1 ⟨rfl, hb⟩; have HB := Lib.hid (HS1.out.bel.trans (hb.mono HS1.out.bel.size)); clear hb))
      go_ret
      exact ⟨rfl, HB.out⟩
    | false =>
      obtain ⟨hu, HFW⟩ := hbb rfl
      obtain ⟨eA, heA⟩ : ∃ eA, eA = addE b d id fl words tx := ⟨_, rfl⟩
      obtain ⟨eF, heF⟩ : ∃ eF, eF = flE b k fl words how := ⟨_, rfl⟩
      obtain ⟨eC, heC⟩ : ∃ eC, eC = cutE b us := ⟨_, rfl⟩
      have HEA := Lib.hid heA
      have HEF := Lib.hid heF
      have HEC := Lib.hid heC
      clear heA heF heC hbb
      obtain ⟨b0, b1, b2, b3, b4, b5, _⟩ := six_at HS1.out.bb
      obtain ⟨m0, m1, m2, m3, m4, m5, m6⟩ := seven_at HS1.out.mm
      have KC := Lib.hid (RwW15.add_any (date := d) (flags := fl) (mcp := mcp) (HT.out.below HS1.out.bel (Nat.le_refl _)) (StrsAt.below HX.out HS1.out.bel (Nat.le_refl _)) (MsgsAt.below HM.out HS1.out.bel (Nat.le_refl _)) HWC.out HMC.out HS1.out.bel.size (StrsAt.below HZ.out HS1.out.bel (Nat.le_refl _)) hcp hn HFW.out z2 z3)
      rw [← HEA.out] at KC
      unfold RowsOut at KC
      go_upto_region 4 with (go_at_call 7; go_loud (
         refine KC.out.mono ?_
         rintro e v0 ⟨L0, l0, c0, rfl, hc0, hl0, hb0⟩
         have S0 := Lib.hid (HS1.out.go hb0)
         have R0 := Lib.hid hl0
         have B0 := Lib.hid hb0
         clear hl0 hb0 hc0 b0 b1 b2 b3 b4 b5 m0 m1 m2 m3 m4 m5 m6))
      clear KC
      obtain ⟨b0, b1, b2, b3, b4, b5, _⟩ := six_at S0.out.bb
      obtain ⟨m0, m1, m2, m3, m4, m5, m6⟩ := seven_at S0.out.mm
      have KC := Lib.hid (RmF.refAdd_any (date := d) (flags := fl) (mcp := mcp) (HT.out.below S0.out.bel (Nat.le_refl _)).1 (StrsAt.below HX.out S0.out.bel (Nat.le_refl _)) (MsgsAt.below HM.out S0.out.bel (Nat.le_refl _)) HWC.out S0.out.bel.size (StrsAt.below HZ.out S0.out.bel (Nat.le_refl _)) hcp HFW.out z2 z3)
      rw [← HEA.out] at KC
      unfold RowsOut at KC
      go_upto_region 5 with (go_at_call 8; go_loud (
         refine KC.out.mono ?_
         rintro e v1 ⟨L1, l1, c1, rfl, hc1, hl1, hb1⟩
         have S1 := Lib.hid (S0.out.go hb1)
         have R1 := Lib.hid hl1
         have B1 := Lib.hid hb1
         clear hl1 hb1 hc1 b0 b1 b2 b3 b4 b5 m0 m1 m2 m3 m4 m5 m6))
      clear KC
      obtain ⟨b0, b1, b2, b3, b4, b5, _⟩ := six_at S1.out.bb
      obtain ⟨m0, m1, m2, m3, m4, m5, m6⟩ := seven_at S1.out.mm
      have KC := Lib.hid (RwApi2.flags_any (u := k) (flags := fl) (how := how) (mc := mcp) (HT.out.below S1.out.bel (Nat.le_refl _)) (StrsAt.below HX.out S1.out.bel (Nat.le_refl _)) (MsgsAt.below HM.out S1.out.bel (Nat.le_refl _)) HWC.out HMC.out S1.out.bel.size (StrsAt.below HZ.out S1.out.bel (Nat.le_refl _)) hcp hn HFW.out)
      rw [← HEF.out] at KC
      unfold RowsOut at KC
      go_upto_region 6 with (go_at_call 9; go_loud (
         refine KC.out.mono ?_
         rintro e v2 ⟨L2, l2, c2, rfl, hc2, hl2, hb2⟩
         have S2 := Lib.hid (S1.out.go hb2)
         have R2 := Lib.hid hl2
         have B2 := Lib.hid hb2
         clear hl2 hb2 hc2 b0 b1 b2 b3 b4 b5 m0 m1 m2 m3 m4 m5 m6))
      clear KC
      obtain ⟨b0, b1, b2, b3, b4, b5, _⟩ := six_at S2.out.bb
      obtain ⟨m0, m1, m2, m3, m4, m5, m6⟩ := seven_at S2.out.mm
      have KC := Lib.hid (RmH.refFl_any (u := k) (flags := fl) (how := how) (mcp := mcp) (StrsAt.below HX.out S2.out.bel (Nat.le_refl _)) (MsgsAt.below HM.out S2.out.bel (Nat.le_refl _)) HWC.out S2.out.bel.size (StrsAt.below HZ.out S2.out.bel (Nat.le_refl _)) hcp HFW.out)
      rw [← HEF.out] at KC
      unfold RowsOut at KC
      go_upto_region 7 with (go_at_call 10; go_loud (
         refine KC.out.mono ?_
         rintro e v3 ⟨L3, l3, c3, rfl, hc3, hl3, hb3⟩
         have S3 := Lib.hid (S2.out.go hb3)
         have R3 := Lib.hid hl3
         have B3 := Lib.hid hb3
         clear hl3 hb3 hc3 b0 b1 b2 b3 b4 b5 m0 m1 m2 m3 m4 m5 m6))
      clear KC
      obtain ⟨b0, b1, b2, b3, b4, b5, _⟩ := six_at S3.out.bb
      obtain ⟨m0, m1, m2, m3, m4, m5, m6⟩ := seven_at S3.out.mm
      have KC := Lib.hid (RwW12.cut_any (mcp := mcp) (StrsAt.below HX.out S3.out.bel (Nat.le_refl _)) (MsgsAt.below HM.out S3.out.bel (Nat.le_refl _)) HWC.out HMC.out S3.out.bel.size (IntsAt.below HU.out S3.out.bel (Nat.le_refl _)) hucp)
      rw [← HEC.out] at KC
      unfold RowsOut at KC
      go_upto_region 8 with (go_at_call 11; go_loud (
         refine KC.out.mono ?_
         rintro e v4 ⟨L4, l4, c4, rfl, hc4, hl4, hb4⟩
         have S4 := Lib.hid (S3.out.go hb4)
         have R4 := Lib.hid hl4
         have B4 := Lib.hid hb4
         clear hl4 hb4 hc4 b0 b1 b2 b3 b4 b5 m0 m1 m2 m3 m4 m5 m6))
      clear KC
      obtain ⟨b0, b1, b2, b3, b4, b5, _⟩ := six_at S4.out.bb
      obtain ⟨m0, m1, m2, m3, m4, m5, m6⟩ := seven_at S4.out.mm
      have KC := Lib.hid (RmE.refCut_any (mcp := mcp) (StrsAt.below HX.out S4.out.bel (Nat.le_refl _)) (MsgsAt.below HM.out S4.out.bel (Nat.le_refl _)) HWC.out S4.out.bel.size (IntsAt.below HU.out S4.out.bel (Nat.le_refl _)) hucp (by omega))
      rw [← HEC.out] at KC
      unfold RowsOut at KC
      go_upto_region 9 with (go_at_call 12; go_loud (
         refine KC.out.mono ?_
         rintro e v5 ⟨L5, l5, c5, rfl, hc5, hl5, hb5⟩
         have S5 := Lib.hid (S4.out.go hb5)
         have R5 := Lib.hid hl5
         have B5 := Lib.hid hb5
         clear hl5 hb5 hc5 b0 b1 b2 b3 b4 b5 m0 m1 m2 m3 m4 m5 m6))
      clear KC
      have G4 := Lib.hid B5.out
      have G3 := Lib.hid (B4.out.trans (G4.out.mono B4.out.size))
      have G2 := Lib.hid (B3.out.trans (G3.out.mono B3.out.size))
      have G1 := Lib.hid (B2.out.trans (G2.out.mono B2.out.size))
      have G0 := Lib.hid (B1.out.trans (G1.out.mono B1.out.size))
      have Q1 := Lib.hid (fun (wr : World) (g : Below v5.heap.size v5 wr) => ImS.sameRows_eq (c := c0) (c' := c1) (RowsAt.below (RowsAt.below R0.out G0.out (Nat.le_refl _)) g G0.out.size) (RowsAt.below (RowsAt.below R1.out G1.out (Nat.le_refl _)) g G1.out.size) (Nat.le_trans G0.out.size g.size) (Nat.le_trans G1.out.size g.size))
      have Q2 := Lib.hid (fun (wr : World) (g : Below v5.heap.size v5 wr) => ImS.sameRows_eq (c := c2) (c' := c3) (RowsAt.below (RowsAt.below R2.out G2.out (Nat.le_refl _)) g G2.out.size) (RowsAt.below (RowsAt.below R3.out G3.out (Nat.le_refl _)) g G3.out.size) (Nat.le_trans G2.out.size g.size) (Nat.le_trans G3.out.size g.size))
      have Q3 := Lib.hid (fun (wr : World) (g : Below v5.heap.size v5 wr) => ImS.sameRows_eq (c := c4) (c' := c5) (RowsAt.below (RowsAt.below R4.out G4.out (Nat.le_refl _)) g G4.out.size) (RowsAt.below R5.out g (Nat.le_refl _)) (Nat.le_trans G4.out.size g.size) g.size)
      have QA := Lib.hid (fun (wr : World) (g : Below v5.heap.size v5 wr) => HAW.out wr (S5.out.go g).bel)
      go_wp2_with (first
        | (go_at_call 13; go_loud (refine (Q3.out _ B7.out).mono ?_; rintro e v8 ⟨rfl, hb8⟩; have B8 := Lib.hid (B7.out.trans (hb8.mono B7.out.size)); clear hb8))
        | (go_at_call 13; go_loud (refine (Q2.out _ B6.out).mono ?_; rintro e v7 ⟨rfl, hb7⟩; have B7 := Lib.hid (B6.out.trans (hb7.mono B6.out.size)); clear hb7))
        | (go_at_call 13; go_loud (refine (Q1.out _ (Below.refl _ _)).mono ?_; rintro e v6 ⟨rfl, hb6⟩; have B6 := Lib.hid hb6; clear hb6))
        | (go_at_call 6; go_loud (refine (QA.out _ B8.out).mono ?_; rintro e v9 ⟨rfl, hb9⟩; have B9 := Lib.hid ((S5.out.go (B8.out.trans (hb9.mono B8.out.size))).bel); clear hb9)))
      go_ret
      exact ⟨rfl, B9.out⟩
end Go.Proofs.YtnicijeeocknaaaDoor.RmW
