/-
  Project at the third form: the box.
-/
import Derived.Test.YtdgcihgohkgecaaDoorPtK
import Derived.Test.YtdgcihgohkgecaaDoorF3D
import Derived.Test.YtdgcihgohkgecaaDoorBxCq
import Derived.Test.YtdgcihgohkgecaaDoorBxB
namespace Go.Proofs.YtdgcihgohkgecaaDoor.F3Pj
open Go.RowKit Go.Proofs.YtdgcihgohkgecaaDoor.BxD Go.Proofs.YtdgcihgohkgecaaDoor.BxKit Go.Proofs.YtdgcihgohkgecaaDoor.BxA Go.Proofs.YtdgcihgohkgecaaDoor.BxR Go.Proofs.YtdgcihgohkgecaaDoor.BxC Go.Proofs.YtdgcihgohkgecaaDoor.OlD Go.Proofs.YtdgcihgohkgecaaDoor.PtD Go.Proofs.YtdgcihgohkgecaaDoor.PtK

/-- What the third form knows of a box: all. -/
def pbx (b : Box) : Box := b
/-- What Project tells of a box that may be. -/
def ProjOut (c : Box) (w : World) (e : Ending) (w' : World) : Prop :=
  ∃ A1 k1 A2 k2, e = .returned (.tuple #[.agg #[.string c.id, .int .i64 c.valid, .int .i64 c.next, .int .i64 c.high, .slice A1 c.words.length k1, .slice A2 c.msgs.length k2], .int .i64 0]) ∧ c.words.length ≤ k1 ∧ c.msgs.length ≤ k2 ∧ StrsAt w' w'.heap.size A1 c.words.length c.words ∧ MsgsAt w' w'.heap.size A2 c.msgs.length c.msgs ∧ Below w.heap.size w w'
set_option maxHeartbeats 4000000 in
set_option maxRecDepth 100000 in
theorem project_any {w : World} {b : Box} {WA MA : Option Addr} {wn wc mn mc0 B : Nat} (hx : StrsAt w B WA wn b.words) (hm : MsgsAt w B MA mn b.msgs) (hwc : wn ≤ wc) (hB : B ≤ w.heap.size) (h0 : mbE b = 0) :
    Calls Tryd.prog 23 #[.int .i64 3, .agg #[.string b.id, .int .i64 b.valid, .int .i64 b.next, .int .i64 b.high, .slice WA wn wc, .slice MA mn mc0]] w (ProjOut (pbx b) w) := by
  have G := PtD.good_of h0
  have HG := Lib.hid G
  have P0 := Lib.hid (PI.start b.id b.valid b.next b.high w (.slice WA wn wc) (.slice MA mn mc0))
  have HX := Lib.hid hx
  have HM := Lib.hid hm
  have H0 := Lib.hid h0
  have hwl : wn ≤ 64 := by have := hx.len; have := G.wl; omega
  have hml : mn ≤ 60 := by have := hm.len; have := G.ml; omega
  clear hx hm h0 G
  go_enter Tryd.func23, Tryd.ntmps23
  go_upto_region 1 with fail
  generalize (World.alloc (World.alloc w _) _) = w1 at P0 ⊢
  have hs1 := P0.out.size
  have km := BxB.ref_may (bid := b.id) (bv := b.valid) (bn := b.next) (bh := b.high) (mc := mc0) (StrsAt.below HX.out P0.out.bel hB) (MsgsAt.below HM.out P0.out.bel hB) (by omega) hwc
  rw [show mbE ⟨b.id, b.valid, b.next, b.high, b.words, b.msgs⟩ = 0 from H0.out] at km
  have KM := Lib.hid km
  clear km
  obtain ⟨c0, c1, c2, c3, c4, c5⟩ := P0.out.cells
  go_upto_region 3 with (go_at_call 20; go_loud (
     refine KM.out.mono ?_
     rintro e w2 ⟨rfl, hb2⟩
     have P2 := Lib.hid (P0.out.go hb2)
     clear hb2 c0 c1 c2 c3 c4 c5))
  clear KM P0
  have hs2 := P2.out.size
  have KC := Lib.hid (BxCq.copyBox_any (bid := b.id) (bv := b.valid) (bn := b.next) (bh := b.high) (wc := wc) (mcp := mc0) (StrsAt.below HX.out P2.out.bel hB) (MsgsAt.below HM.out P2.out.bel hB) (by omega) (by omega) (by omega) (fun m hm => by
    have h1 := F3D.keys_len (PtD.mm_parts (HG.out.ms m hm).1).2.2.2.2.2.1
    have := HG.out.wl
    omega))
  obtain ⟨c0, c1, c2, c3, c4, c5⟩ := P2.out.cells
  go_upto_region 4 with (go_at_call 59; go_loud (
     refine KC.out.mono ?_
     rintro e w3 ⟨vw, vm, rs, rfl, hb3, ow, om, rm, ko⟩
     obtain ⟨A1, k1, rfl, hk1⟩ := own_slice ow
     obtain ⟨A2, k2, rfl, hk2⟩ := own_slice om
     have P3 := Lib.hid (P2.out.go hb3)
     have OW := Lib.hid ow
     have OM := Lib.hid om
     have RM := Lib.hid rm
     have KO := Lib.hid ko
     clear hb3 ow om rm ko c0 c1 c2 c3 c4 c5))
  clear KC
  have hba := (Below.refl w3.heap.size w3).alloc (Nat.le_refl _) (.cells #[.string b.id, .int .i64 b.valid, .int .i64 b.next, .int .i64 b.high, .slice A1 wn k1, .slice A2 mn k2] 25)
  have P4 := Lib.hid (P3.out.go hba)
  have OW4 := Lib.hid (OW.out.alloc (.cells #[.string b.id, .int .i64 b.valid, .int .i64 b.next, .int .i64 b.high, .slice A1 wn k1, .slice A2 mn k2] 25))
  have OM4 := Lib.hid (OM.out.alloc (.cells #[.string b.id, .int .i64 b.valid, .int .i64 b.next, .int .i64 b.high, .slice A1 wn k1, .slice A2 mn k2] 25))
  have KO4 := Lib.hid (fun r hr => (KO.out r hr).1.alloc (.cells #[.string b.id, .int .i64 b.valid, .int .i64 b.next, .int .i64 b.high, .slice A1 wn k1, .slice A2 mn k2] 25))
  have X4 := Lib.hid (heap_alloc_new w3 (.cells #[.string b.id, .int .i64 b.valid, .int .i64 b.next, .int .i64 b.high, .slice A1 wn k1, .slice A2 mn k2] 25))
  obtain ⟨O, hO⟩ : ∃ O, O = w3.heap.size := ⟨_, rfl⟩
  rw [← hO] at X4 ⊢
  have hOw : w.heap.size + 1 < O := by have := P3.out.size; omega
  clear hO P3 OW OM KO hba
  generalize (World.alloc w3 _) = w4 at P4 OW4 OM4 KO4 X4 ⊢
  have cX := fun o => cell_of_row w4 O o _ _ _ X4.out
  have d0 := (cX 0).trans (show _ = some (Value.string b.id) from rfl)
  have d1 := (cX 1).trans (show _ = some (Value.int .i64 b.valid) from rfl)
  have d2 := (cX 2).trans (show _ = some (Value.int .i64 b.next) from rfl)
  have d3 := (cX 3).trans (show _ = some (Value.int .i64 b.high) from rfl)
  have d4 := (cX 4).trans (show _ = some (Value.slice A1 wn k1) from rfl)
  have d5 := (cX 5).trans (show _ = some (Value.slice A2 mn k2) from rfl)
  clear cX
  have hres : w4.heap[w.heap.size + 1]? = some (.cells zbox 25 (0, 0)) := P4.out.res
  have HR := Lib.hid hres
  obtain ⟨z0, z1, z2, z3, z4, z5, zf⟩ := zcells6 hres
  have f0 := zf 0
  have f1 := zf 1
  have f2 := zf 2
  have f3 := zf 3
  have f4 := zf 4
  have f5 := zf 5
  clear zf hres
  go_wp2_with fail
  obtain ⟨W, hW, p0, p1, p2, p3, p4, p5, hWg⟩ := ret6 HR.out (.string b.id) (.int .i64 b.valid) (.int .i64 b.next) (.int .i64 b.high) (.slice A1 wn k1) (.slice A2 mn k2)
  rw [← hW]
  refine bodyPost_ret (v := .tuple #[.agg #[.string b.id, .int .i64 b.valid, .int .i64 b.next, .int .i64 b.high, .slice A1 wn k1, .slice A2 mn k2], .int .i64 0]) (by simp [results, Tryd.results23, go_sem, p0, p1, p2, p3, p4, p5]) rfl ?_
  have own : ∀ {ty sz k : Nat} {x : Value} {xs : List Value}, w4.ownsRow w2.heap.size ty sz x k xs → W.ownsRow w2.heap.size ty sz x k xs := fun {_ _ _ _ _} ho =>
    ho.kept hWg (.inr (fun e2 => by have := (ho.lt _ e2).1; omega))
  have hsz : ∀ s ∈ b.words, s.size ≤ 140737488355328 := fun s hs => by have := (atB_size (PtD.wordsB_at HG.out.ws s hs)).2; omega
  have hkeys : KeysOk W W.heap.size rs := fun r hr => by
    have hm : r.m ∈ b.msgs := by rw [← RM.out]; exact List.mem_map_of_mem hr
    obtain ⟨_, _, _, g4, _, g6, g7⟩ := PtD.mm_parts (HG.out.ms r.m hm).1
    have g8 := F3D.keys_len g6
    have g9 := (atB_size g4).2
    have g10 := HG.out.wl
    obtain ⟨A9, c9, e9, h9⟩ := own_slice (KO4.out r hr)
    injection e9 with e1 e2 e3
    exact ⟨intsAt_own (own (KO4.out r hr)) (by omega), by omega, by omega, by omega⟩
  have hm5 := msgsAt_own (own OM4.out) (by omega) hkeys
  rw [RM.out] at hm5
  have e1 : (pbx b).words.length = wn := HX.out.len
  have e2 : (pbx b).msgs.length = mn := HM.out.len
  unfold ProjOut
  rw [e1, e2]
  exact ⟨A1, k1, A2, k2, rfl, hk1, hk2, strsAt_own (own OW4.out) (by omega) hsz, hm5, P4.out.bel.grown hWg P4.out.bel.size (fun k e => by have : w.heap.size + 1 = k := Option.some.inj e; omega)⟩
end Go.Proofs.YtdgcihgohkgecaaDoor.F3Pj
