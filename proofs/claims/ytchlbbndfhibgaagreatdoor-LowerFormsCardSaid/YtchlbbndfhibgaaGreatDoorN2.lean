/-
  BxCp + BxCq
-/
import Derived.Test.YtchlbbndfhibgaaGreatDoorN4
import Derived.Deep.DeepCutAuto
import Derived.Deep.RegionLaw
set_option linter.unusedVariables false
set_option linter.unusedSimpArgs false
namespace Go.Proofs.YtchlbbndfhibgaaGreatDoor.BxCp
open Go.RowKit Go.Proofs.YtchlbbndfhibgaaGreatDoor.BxD Go.Proofs.YtchlbbndfhibgaaGreatDoor.BxKit Go.Proofs.YtchlbbndfhibgaaGreatDoor.BxA Go.Proofs.YtchlbbndfhibgaaGreatDoor.BxR Go.Proofs.YtchlbbndfhibgaaGreatDoor.BxC

theorem below_none {w w' : World} (h : w.grownBy w' none) : Below w.heap.size w w' := ⟨h.os, h.tape, h.output, h.size, fun k hk => h.block k hk (by simp)⟩
set_option maxHeartbeats 4000000 in
set_option maxRecDepth 100000 in
theorem copy_any {bid : ByteArray} {bv bn bh : Int} {WA MA : Option Addr} {wn wc mn mcp B0 : Nat} {ws : List ByteArray} {ms : List Msg} {w : World} (hx : StrsAt w B0 WA wn ws) (hm : MsgsAt w B0 MA mn ms) (hB : B0 ≤ w.heap.size) (hwn : wn ≤ 100) (hmn : mn ≤ 100) (hk : ∀ m ∈ ms, m.keys.length ≤ 60000) :
    Calls Tryz.prog 47 #[.agg #[.string bid, .int .i64 bv, .int .i64 bn, .int .i64 bh, .slice WA wn wc, .slice MA mn mcp]] w (CpPost bid bv bn bh wn mn ws ms w) := by
  have P0 := Lib.hid (PI.start bid bv bn bh w (.slice WA wn wc) (.slice MA mn mcp))
  have HX := Lib.hid (StrsAt.below hx P0.out.bel hB)
  have HM := Lib.hid hm
  have HK := Lib.hid hk
  clear hx hm hk
  go_enter Tryz.func47, Tryz.ntmps47
  go_upto_region 2 with (first
    | (at_builtin
       refine wpList_rows elS rfl _ _ rfl rfl rfl (World.ownsRow_nil _ (w.heap.size + 2) _ _) (strs_src HX.out) (by unfold maxLen; omega) (by omega) P0.out.size ?_
       intro v1 w1 hown hg _
       obtain ⟨A1, k1, rfl, hk1⟩ := own_slice hown
       rw [Nat.zero_add, List.nil_append] at hown
       have P1 := Lib.hid (P0.out.go (below_none hg))
       have HO := Lib.hid hown
       clear hown hg
       obtain ⟨c0, c1, c2, c3, c4, c5⟩ := P1.out.cells
       have c6 := P1.out.free 4))
  have hp := P1.out.set4 (.slice A1 (0 + wn) k1)
  have ho := ownsRow_setCell_below HO.out (a := { block := w.heap.size, off := 4 }) (by show w.heap.size < _; omega) (.slice A1 (0 + wn) k1)
  rw [Nat.zero_add] at hp ho
  have P2 := Lib.hid hp
  have HO2 := Lib.hid ho
  clear hp ho c0 c1 c2 c3 c4 c5 c6 HO P1 P0 HX
  generalize (World.setCell w1 _ _) = w2 at P2 HO2 ⊢
  obtain ⟨rs, hrm, hko, hsr⟩ := msgs_raw (MsgsAt.below HM.out P2.out.bel hB)
  have HR := Lib.hid hrm
  have HKO := Lib.hid hko
  have HSR := Lib.hid hsr
  clear hrm hko hsr
  obtain ⟨c0, c1, c2, c3, c4, c5⟩ := P2.out.cells
  go_upto_region 3 with (first
    | (at_builtin
       refine wpList_rows elM rfl _ _ rfl rfl rfl (World.ownsRow_nil _ (w.heap.size + 2) _ _) HSR.out (by unfold maxLen; omega) (by omega) P2.out.size ?_
       intro v3 w3 hown hg _
       obtain ⟨A2, k2, rfl, hk2⟩ := own_slice hown
       rw [Nat.zero_add, List.nil_append] at hown
       have P3 := Lib.hid (P2.out.go (below_none hg))
       have HB3 := Lib.hid (below_none hg)
       have HO3 := Lib.hid hown
       clear hown hg c0 c1 c2 c3 c4 c5
       obtain ⟨c0, c1, c2, c3, c4, c5⟩ := P3.out.cells
       have c6 := P3.out.free 5))
  have hI := CI.first P2.out HO2.out HR.out HKO.out hB HB3.out HO3.out
  have HI := Lib.hid hI
  clear hI c0 c1 c2 c3 c4 c5 c6 P2 HO2 P3 HO3 HB3 HR HKO HSR HM
  generalize hW : (World.setCell w3 _ _) = w4 at HI ⊢
  clear hW
  obtain ⟨c0, c1, c2, c3, c4, c5⟩ := HI.out.pi.cells
  go_wp2_with fail
  go_loopw [15] (fun s15 wr => ∃ (k : Nat) (rs' : List Raw), k ≤ mn ∧ s15 = .int .i64 k ∧ Hid (CI bid bv bn bh w wr B0 k (.slice A1 wn k1) (.slice A2 mn k2) wn mn ws ms rs')) (fun s15 _ => mn - (intOf s15).toNat)
  case atStart => exact ⟨0, rs, Nat.zero_le _, rfl, HI⟩
  case round =>
    clear HI c0 c1 c2 c3 c4 c5
    obtain ⟨k, rs', hk, rfl, HI⟩ := hrel
    by_cases hlt : k < mn
    · obtain ⟨c0, c1, c2, c3, c4, c5⟩ := HI.out.pi.cells
      have hlen := HI.out.len
      obtain ⟨g, cap, hA, _, _⟩ := own_form HI.out.om (by omega)
      injection hA with hA1 hA2 hA3
      subst hA1 hA3
      have hg : k < rs'.length := by omega
      have hr := List.getElem?_eq_getElem hg
      generalize rs'[k] = r at hr
      have hco : wr.cell? { block := g, off := k * 7 + 5 } = some (.slice r.K r.m.keys.length r.c) := own_cell HI.out.om rfl ((mc_get rs' k 5 r hr (by decide)).trans rfl)
      have hfr : wr.frozen? { block := g, off := k * 7 + 5 } = false := own_free HI.out.om rfl _
      have h6 : r.m.keys.length ≤ 60000 := HK.out r.m (by rw [← HI.out.rm]; exact List.mem_map_of_mem (List.mem_of_getElem? hr))
      have HS := Lib.hid (ints_src (HI.out.old k r (Nat.le_refl _) hr))
      have HD := Lib.hid (Below.drew (Below.refl wr.heap.size wr))
      have HRR := Lib.hid hr
      clear hr hlen
      generalize hks : r.m.keys.length = kl at hco h6 HS
      go_upto_region 6 with fail
      go_region_law (first
        | (refine step_rows elI rfl _ _ rfl rfl rfl (World.ownsRow_nil _ wr.heap.size _ _) HS.out (by unfold maxLen; omega) (by omega) (Nat.le_refl _) ?_
           intro v5 w5 hown hg5 _
           have hb5 : Below wr.heap.size wr w5 := HD.out.trans (below_none hg5)
           obtain ⟨A5, k5, rfl, hk5⟩ := own_slice hown
           rw [Nat.zero_add, List.nil_append] at hown
           have HO5 := Lib.hid hown
           have HB5 := Lib.hid hb5
           have H5 := Lib.hid (HI.out.go hB hb5)
           obtain ⟨_, _, _, _, _, e5⟩ := H5.out.pi.cells
           have eco : w5.cell? { block := g, off := k * 7 + 5 } = some (.slice r.K kl r.c) := (hb5.cell (p := ⟨g, k * 7 + 5, none⟩) (HI.out.om.lt g rfl).2).trans hco
           have efr : w5.frozen? { block := g, off := k * 7 + 5 } = false := own_free H5.out.om rfl _
           have es5 : ∀ u, (w5.setCell { block := g, off := k * 7 + 5 } u).cell? { block := w.heap.size, off := 5 } = some (.slice (some { block := g, off := 0 }) mn k2) := fun u => (World.cell?_of_block (w := w5) (a := { block := w.heap.size, off := 5 }) (Below.heap_setCell _ _ _ _ (by have := (HI.out.om.lt g rfl).1; show w.heap.size ≠ g; omega))).trans e5
           clear hown hb5 hg5))
      all_goals
        have hN := HI.out.step (c' := k5) (K' := A5) hB rfl HRR.out HB5.out (by rw [hks]; exact HO5.out)
        rw [hks] at hN
        have HN := Lib.hid hN
        clear hN c0 c1 c2 c3 c4 c5 e5 eco efr es5 hco hfr HO5 HB5 H5 HI
        go_wp2_with fail
        go_roundw
        case rel => exact ⟨k + 1, _, by omega, by go_num, HN⟩
        case measure => simp [intOf]; omega
    · obtain rfl : mn = k := by omega
      obtain ⟨c0, c1, c2, c3, c4, c5⟩ := HI.out.pi.cells
      obtain ⟨d0, d1, d2, d3, d4, d5, f0, f1, f2, f3, f4, f5⟩ := HI.out.pi.room
      go_wp2_with fail
      obtain ⟨W, hW, q0, q1, q2, q3, q4, q5, hWb, hWo⟩ := HI.out.pi.ret
      rw [← hW]
      refine bodyPost_ret (v := .agg #[.string bid, .int .i64 bv, .int .i64 bn, .int .i64 bh, .slice A1 wn k1, .slice A2 mn k2]) (by simp [results, Tryz.results47, go_sem, q0, q1, q2, q3, q4, q5]) rfl ?_
      exact HI.out.post (Nat.le_refl _) hWb hWo
end Go.Proofs.YtchlbbndfhibgaaGreatDoor.BxCp

namespace Go.Proofs.YtchlbbndfhibgaaGreatDoor.BxCq
open Go.RowKit Go.Proofs.YtchlbbndfhibgaaGreatDoor.BxD Go.Proofs.YtchlbbndfhibgaaGreatDoor.BxKit Go.Proofs.YtchlbbndfhibgaaGreatDoor.BxA Go.Proofs.YtchlbbndfhibgaaGreatDoor.BxR Go.Proofs.YtchlbbndfhibgaaGreatDoor.BxC

theorem below_none {w w' : World} (h : w.grownBy w' none) : Below w.heap.size w w' := ⟨h.os, h.tape, h.output, h.size, fun k hk => h.block k hk (by simp)⟩
/-- Words and the first k messages in rows of the call's own, their keys too. -/
structure DI (bid : ByteArray) (bv bn bh : Int) (w wr : World) (k : Nat) (vw vm : Value) (wn : Nat) (ws : List ByteArray) (ms : List Msg) (rs : List Raw) : Prop where
  pi : PI bid bv bn bh w wr vw vm
  ow : wr.ownsRow (w.heap.size + 2) 9 1 vw wn (ws.map Value.string)
  om : wr.ownsRow (w.heap.size + 2) 28 7 vm k (mc rs)
  rm : rs.map Raw.m = ms.take k
  ko : ∀ r ∈ rs, KO1 wr (w.heap.size + 2) none r
section
variable {bid : ByteArray} {bv bn bh : Int} {w wr w3 : World} {k wn : Nat} {vw vm : Value} {wsl : List ByteArray} {msl : List Msg} {rs : List Raw}
theorem DI.go (h : DI bid bv bn bh w wr k vw vm wn wsl msl rs) (hb : Below wr.heap.size wr w3) : DI bid bv bn bh w w3 k vw vm wn wsl msl rs :=
  ⟨h.pi.go hb, own_block h.ow fun g e => hb.block _ (h.ow.lt g e).2, own_block h.om fun g e => hb.block _ (h.om.lt g e).2, h.rm, fun r hr => ⟨own_block (h.ko r hr).1 fun g e => hb.block _ ((h.ko r hr).1.lt g e).2, (h.ko r hr).2⟩⟩
theorem DI.pi3 (h : DI bid bv bn bh w wr k vw vm wn wsl msl rs) (hg : wr.grownBy w3 vm.ownBlock) : PI bid bv bn bh w w3 vw vm := by
  have hs := h.pi.size
  have hv := fun g e => h.om.lt g e
  have hlow : ∀ b, b < w.heap.size + 2 → w3.heap[b]? = wr.heap[b]? := fun b hb => hg.block _ (by omega) (fun e => by have := (hv _ e.symm).1; omega)
  exact ⟨h.pi.bel.grown hg (by omega) (fun g e => by have := (hv g e).1; omega), (hlow _ (by omega)).trans h.pi.blk, (hlow _ (by omega)).trans h.pi.res⟩
theorem DI.step {r : Raw} {vm' : Value} (h : DI bid bv bn bh w wr k vw vm wn wsl msl rs) (hr : msl[k]? = some r.m) (hk : KO1 wr (w.heap.size + 2) none r) (hown : w3.ownsRow (w.heap.size + 2) 28 7 vm' (k + 1) (mc rs ++ cell7 r)) (hg : wr.grownBy w3 vm.ownBlock) :
    DI bid bv bn bh w (w3.setCell { block := w.heap.size, off := 5 } vm') (k + 1) vw vm' wn wsl msl (rs ++ [r]) := by
  have hs := h.pi.size
  have hp := h.pi3 hg
  have ko3 : ∀ x, KO1 wr (w.heap.size + 2) none x → KO1 (w3.setCell { block := w.heap.size, off := 5 } vm') (w.heap.size + 2) none x := fun x hx =>
    ⟨ownsRow_setCell_below (own_block hx.1 fun g e => hg.block _ (hx.1.lt g e).2 (fun e2 => own_ne hx.1 h.om e2.symm (by decide) e)) (by show w.heap.size < _; omega) _, hx.2⟩
  refine ⟨hp.set5 vm', ownsRow_setCell_below (own_block h.ow fun g e => hg.block _ (h.ow.lt g e).2 (fun e2 => own_ne h.ow h.om e2.symm (by decide) e)) (by show w.heap.size < _; omega) _, ?_, ?_, fun x hx => ?_⟩
  · rw [mc_append]
    have : mc [r] = cell7 r := by unfold mc; simp
    rw [this]
    exact ownsRow_setCell_below hown (by show w.heap.size < _; omega) _
  · rw [List.map_append, h.rm, List.take_add_one, hr]; rfl
  · rcases List.mem_append.1 hx with hx | hx
    · exact ko3 x (h.ko x hx)
    · obtain rfl : x = r := by simpa using hx
      exact ko3 x hk
theorem DI.post {w4 : World} (h : DI bid bv bn bh w wr k vw vm wn wsl msl rs) (hk : msl.length = k) (hb : Below w.heap.size w w4) (hw : ∀ b, w.heap.size + 2 ≤ b → w4.heap[b]? = wr.heap[b]?) :
    CqPost bid bv bn bh wn k wsl msl w (.returned (.agg #[.string bid, .int .i64 bv, .int .i64 bn, .int .i64 bh, vw, vm])) w4 := by
  refine ⟨vw, vm, rs, rfl, hb, own_base (own_block h.ow fun g e => hw g (h.ow.lt g e).1) (by omega), own_base (own_block h.om fun g e => hw g (h.om.lt g e).1) (by omega), ?_, fun r hr => ?_⟩
  · rw [h.rm, List.take_of_length_le (by omega)]
  · have := h.ko r hr
    exact ⟨own_base (own_block this.1 fun g e => hw g (this.1.lt g e).1) (by omega), this.2⟩
end
/-- The message's own block. -/
structure MI (w2 : World) (P : Nat) (u md d : Int) (id : ByteArray) (fl : Int) (vk : Value) (tx : ByteArray) : Prop where
  lt : P < w2.heap.size
  c0 : w2.cell? { block := P, off := 0 } = some (.int .i64 u)
  c1 : w2.cell? { block := P, off := 1 } = some (.int .i64 md)
  c2 : w2.cell? { block := P, off := 2 } = some (.int .i64 d)
  c3 : w2.cell? { block := P, off := 3 } = some (.string id)
  c4 : w2.cell? { block := P, off := 4 } = some (.int .i64 fl)
  c5 : w2.cell? { block := P, off := 5 } = some vk
  c6 : w2.cell? { block := P, off := 6 } = some (.string tx)
  fr : w2.frozen? { block := P, off := 5 } = false
theorem mi_new {w w2 : World} {u md d fl : Int} {id tx : ByteArray} {vk : Value} {t : TypeId} (hb : Below (w.heap.size + 1) (w.alloc (.cells #[.int .i64 u, .int .i64 md, .int .i64 d, .string id, .int .i64 fl, vk, .string tx] t)) w2) : MI w2 w.heap.size u md d id fl vk tx := by
  have hg := (hb.block w.heap.size (by omega)).trans (heap_alloc_new w _)
  have c := fun o => cell_of_row w2 w.heap.size o _ _ _ hg
  exact ⟨(Array.getElem?_eq_some_iff.1 hg).1, (c 0).trans rfl, (c 1).trans rfl, (c 2).trans rfl, (c 3).trans rfl, (c 4).trans rfl, (c 5).trans rfl, (c 6).trans rfl, by simp [World.frozen?, hg]⟩
theorem mi_set {w2 : World} {P : Nat} {u md d fl : Int} {id tx : ByteArray} {vk : Value} {t : TypeId} (hg : w2.heap[P]? = some (.cells #[.int .i64 u, .int .i64 md, .int .i64 d, .string id, .int .i64 fl, vk, .string tx] t (0, 0))) (v : Value) : MI (w2.setCell { block := P, off := 5 } v) P u md d id fl v tx := by
  have hg2 : (w2.setCell { block := P, off := 5 } v).heap[P]? = some (.cells #[.int .i64 u, .int .i64 md, .int .i64 d, .string id, .int .i64 fl, v, .string tx] t (0, 0)) := by simp [World.setCell, Array.getElem?_modify, hg]
  have c := fun o => cell_of_row _ P o _ _ _ hg2
  exact ⟨(Array.getElem?_eq_some_iff.1 hg2).1, (c 0).trans rfl, (c 1).trans rfl, (c 2).trans rfl, (c 3).trans rfl, (c 4).trans rfl, (c 5).trans rfl, (c 6).trans rfl, by simp [World.frozen?, hg2]⟩

set_option maxHeartbeats 4000000 in
set_option maxRecDepth 100000 in
theorem copyBox_any {bid : ByteArray} {bv bn bh : Int} {WA MA : Option Addr} {wn wc mn mcp B0 : Nat} {ws : List ByteArray} {ms : List Msg} {w : World} (hx : StrsAt w B0 WA wn ws) (hm : MsgsAt w B0 MA mn ms) (hB : B0 ≤ w.heap.size) (hwn : wn ≤ 100) (hmn : mn ≤ 100) (hk : ∀ m ∈ ms, m.keys.length ≤ 60000) :
    Calls Tryz.prog 61 #[.agg #[.string bid, .int .i64 bv, .int .i64 bn, .int .i64 bh, .slice WA wn wc, .slice MA mn mcp]] w (CqPost bid bv bn bh wn mn ws ms w) := by
  have P0 := Lib.hid (PI.start bid bv bn bh w (.slice WA wn wc) (.slice MA mn mcp))
  have HX := Lib.hid (StrsAt.below hx P0.out.bel hB)
  have HM := Lib.hid hm
  have HK := Lib.hid hk
  have hml := hm.len
  have HML := Lib.hid hml
  clear hx hm hk hml
  go_enter Tryz.func61, Tryz.ntmps61
  go_upto_region 2 with (first
    | (at_builtin
       refine wpList_rows elS rfl _ _ rfl rfl rfl (World.ownsRow_nil _ (w.heap.size + 2) _ _) (strs_src HX.out) (by unfold maxLen; omega) (by omega) P0.out.size ?_
       intro v1 w1 hown hg _
       obtain ⟨A1, k1, rfl, hk1⟩ := own_slice hown
       rw [Nat.zero_add, List.nil_append] at hown
       have P1 := Lib.hid (P0.out.go (below_none hg))
       have HO := Lib.hid hown
       clear hown hg
       obtain ⟨c0, c1, c2, c3, c4, c5⟩ := P1.out.cells
       have c6 := P1.out.free 4))
  have hp := P1.out.set4 (.slice A1 (0 + wn) k1)
  have ho := ownsRow_setCell_below HO.out (a := { block := w.heap.size, off := 4 }) (by show w.heap.size < _; omega) (.slice A1 (0 + wn) k1)
  rw [Nat.zero_add] at hp ho
  have P2 := Lib.hid hp
  have HO2 := Lib.hid ho
  clear hp ho c0 c1 c2 c3 c4 c5 c6 HO P1 P0 HX
  generalize (World.setCell w1 _ _) = w2 at P2 HO2 ⊢
  obtain ⟨c0, c1, c2, c3, c4, c5⟩ := P2.out.cells
  have c6 := P2.out.free 5
  go_upto_region 4 with fail
  have H0 := Lib.hid (show DI bid bv bn bh w (w2.setCell { block := w.heap.size, off := 5 } (.slice none 0 0)) 0 (.slice A1 wn k1) (.slice none 0 0) wn ws ms [] from
    ⟨P2.out.set5 _, ownsRow_setCell_below HO2.out (by show w.heap.size < _; omega) _, World.ownsRow_nil _ _ _ _, by simp, fun r hr => by simp at hr⟩)
  clear c0 c1 c2 c3 c4 c5 c6 P2 HO2
  generalize (World.setCell w2 _ _) = w4 at H0 ⊢
  go_wp2_with fail
  go_loopw [15] (fun s15 wr => ∃ (k : Nat) (vm : Value) (rs : List Raw), k ≤ mn ∧ s15 = .int .i64 k ∧ Hid (DI bid bv bn bh w wr k (.slice A1 wn k1) vm wn ws ms rs)) (fun s15 _ => mn - (intOf s15).toNat)
  case atStart => exact ⟨0, _, [], Nat.zero_le _, rfl, H0⟩
  case round =>
    clear H0
    obtain ⟨k, vm, rs, hk, rfl, HI⟩ := hrel
    have hpi := HI.out.pi.size
    by_cases hlt : k < mn
    · obtain ⟨ad, u, md, d, id, fl, ks, tx, K, kn, kc, rfl, hab, e1, c0, c1, c2, c3, c4, c5, c6, hkc, hks, z1, z2⟩ := MsgsAt.sp HM.out HI.out.pi.bel hB hlt
      have hks6 : kn ≤ 60000 := by
        have := HK.out _ (List.mem_of_getElem? e1)
        have h2 := hks.len
        simp only at this
        omega
      have hl := hks.len
      subst hl
      have HKS := Lib.hid (ints_src (IntsAt.below hks ((Below.refl wr.heap.size wr).alloc (Nat.le_refl _) (.cells #[.int .i64 u, .int .i64 md, .int .i64 d, .string id, .int .i64 fl, .slice K ks.length kc, .string tx] 28)) (by omega)))
      have HE1 := Lib.hid e1
      clear hks e1
      go_upto_region 8 with (first
        | (at_builtin
           refine wpList_rows elI rfl _ _ rfl rfl rfl (World.ownsRow_nil _ (wr.heap.size + 1) _ _) HKS.out (by unfold maxLen; omega) (by omega) (by simp) ?_
           intro v5 w5 hown hg _
           obtain ⟨A5, k5, rfl, hk5⟩ := own_slice hown
           rw [Nat.zero_add, List.nil_append] at hown
           have hb5 := (below_none hg).mono (show wr.heap.size + 1 ≤ _ by simp)
           have HG5 := Lib.hid hb5
           have HO5 := Lib.hid hown
           have HM5 := Lib.hid (mi_new hb5)
           clear hown hg hb5 c0 c1 c2 c3 c4 c5 c6
           obtain ⟨lt5, c0, c1, c2, c3, c4, c5, c6, c7⟩ := HM5.out))
      have hbw : Below wr.heap.size wr (w5.setCell { block := wr.heap.size, off := 5 } (.slice A5 (0 + ks.length) k5)) := (((Below.refl wr.heap.size wr).alloc (Nat.le_refl _) _).trans (HG5.out.mono (by omega))).setCell (Nat.le_refl _) _
      have hmi := mi_set ((HG5.out.block wr.heap.size (by omega)).trans (heap_alloc_new wr _)) (.slice A5 (0 + ks.length) k5)
      have hok : KO1 (w5.setCell { block := wr.heap.size, off := 5 } (.slice A5 (0 + ks.length) k5)) (w.heap.size + 2) none ⟨⟨u, md, d, id, fl, ks, tx⟩, A5, k5⟩ :=
        ⟨own_base (ownsRow_setCell_below HO5.out (by show wr.heap.size < _; omega) _) (by omega), by cases A5 <;> simp [Value.ownBlock]⟩
      rw [Nat.zero_add] at hbw hmi hok
      have H2 := Lib.hid (HI.out.go hbw)
      have HMI := Lib.hid hmi
      have HOK := Lib.hid hok
      clear hbw hmi hok HG5 HO5 HM5 lt5 c0 c1 c2 c3 c4 c5 c6 c7 HKS HI
      generalize (World.setCell w5 _ _) = w6 at H2 HMI HOK ⊢
      obtain ⟨lt5, c0, c1, c2, c3, c4, c5, c6, c7⟩ := HMI.out
      obtain ⟨b0, b1, b2, b3, b4, b5⟩ := H2.out.pi.cells
      have hpn := H2.out.pi.size
      have HSR := Lib.hid (src_new w6 #[.int .i64 u, .int .i64 md, .int .i64 d, .string id, .int .i64 fl, .slice A5 ks.length k5, .string tx] 28 (m := 1) (sz := 7) rfl rfl (fun x hx => by simp at hx; rcases hx with rfl | rfl | rfl | rfl | rfl | rfl | rfl <;> rfl))
      have H3 := Lib.hid (H2.out.go ((Below.refl w6.heap.size w6).alloc (Nat.le_refl _) (.cells #[.int .i64 u, .int .i64 md, .int .i64 d, .string id, .int .i64 fl, .slice A5 ks.length k5, .string tx] 28)))
      have HK3 := Lib.hid (show KO1 (w6.alloc (.cells #[.int .i64 u, .int .i64 md, .int .i64 d, .string id, .int .i64 fl, .slice A5 ks.length k5, .string tx] 28)) (w.heap.size + 2) none ⟨⟨u, md, d, id, fl, ks, tx⟩, A5, k5⟩ from ⟨HOK.out.1.alloc _, HOK.out.2⟩)
      go_wp2_with (at_builtin
                   refine wpList_rows elM rfl _ _ rfl rfl rfl H3.out.om HSR.out (by unfold maxLen; omega) (by omega) (by simp; omega) ?_
                   intro v7 w7 hown hg _
                   obtain ⟨A7, k7, rfl, hk7⟩ := own_slice hown
                   have HD := Lib.hid (H3.out.step HE1.out HK3.out hown hg)
                   have HP7 := Lib.hid (H3.out.pi3 hg)
                   clear hown hg b0 b1 b2 b3 b4 b5 c0 c1 c2 c3 c4 c5 c6 c7
                   obtain ⟨b0, b1, b2, b3, b4, b5⟩ := HP7.out.cells
                   have b6 := HP7.out.free 5)
      clear b0 b1 b2 b3 b4 b5 b6
      go_roundw
      case rel => exact ⟨k + 1, _, _, by omega, by go_num, HD⟩
      case measure => simp [intOf]; omega
    · obtain rfl : mn = k := by omega
      obtain ⟨c0, c1, c2, c3, c4, c5⟩ := HI.out.pi.cells
      obtain ⟨d0, d1, d2, d3, d4, d5, f0, f1, f2, f3, f4, f5⟩ := HI.out.pi.room
      obtain ⟨A2, k2, rfl, _⟩ := own_slice HI.out.om
      go_wp2_with fail
      obtain ⟨W, hW, q0, q1, q2, q3, q4, q5, hWb, hWo⟩ := HI.out.pi.ret
      rw [← hW]
      refine bodyPost_ret (v := .agg #[.string bid, .int .i64 bv, .int .i64 bn, .int .i64 bh, .slice A1 wn k1, .slice A2 mn k2]) (by simp [results, Tryz.results61, go_sem, q0, q1, q2, q3, q4, q5]) rfl ?_
      exact HI.out.post HML.out hWb hWo
end Go.Proofs.YtchlbbndfhibgaaGreatDoor.BxCq
