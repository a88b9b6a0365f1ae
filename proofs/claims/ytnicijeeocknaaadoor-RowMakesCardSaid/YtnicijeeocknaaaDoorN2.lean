/-
  BxCp
-/
import Derived.Test.YtnicijeeocknaaaDoorN4
import Derived.Deep.DeepCutAuto
import Derived.Deep.RegionLaw
set_option linter.unusedVariables false
set_option linter.unusedSimpArgs false
namespace Go.Proofs.YtnicijeeocknaaaDoor.BxCp
open Go.RowKit Go.Proofs.YtnicijeeocknaaaDoor.BxD Go.Proofs.YtnicijeeocknaaaDoor.BxKit Go.Proofs.YtnicijeeocknaaaDoor.BxA Go.Proofs.YtnicijeeocknaaaDoor.BxR Go.Proofs.YtnicijeeocknaaaDoor.BxC

theorem below_none {w w' : World} (h : w.grownBy w' none) : Below w.heap.size w w' := ⟨h.os, h.tape, h.output, h.size, fun k hk => h.block k hk (by simp)⟩
set_option maxHeartbeats 4000000 in
set_option maxRecDepth 100000 in
theorem copy_any {bid : ByteArray} {bv bn bh : Int} {WA MA : Option Addr} {wn wc mn mcp B0 : Nat} {ws : List ByteArray} {ms : List Msg} {w : World} (hx : StrsAt w B0 WA wn ws) (hm : MsgsAt w B0 MA mn ms) (hB : B0 ≤ w.heap.size) (hwn : wn ≤ 100) (hmn : mn ≤ 100) (hk : ∀ m ∈ ms, m.keys.length ≤ 60000) :
    Calls Tryd.prog 38 #[.agg #[.string bid, .int .i64 bv, .int .i64 bn, .int .i64 bh, .slice WA wn wc, .slice MA mn mcp]] w (CpPost bid bv bn bh wn mn ws ms w) := by
  have P0 := Lib.hid (PI.start bid bv bn bh w (.slice WA wn wc) (.slice MA mn mcp))
  have HX := Lib.hid (StrsAt.below hx P0.out.bel hB)
  have HM := Lib.hid hm
  have HK := Lib.hid hk
  clear hx hm hk
  go_enter Tryd.func38, Tryd.ntmps38
  go_upto_region 2 with (first
    | (at_builtin
       refine wpList_rows elS rfl _ _ rfl rfl rfl (World.ownsRow_nil _ (w.heap.size + 2) _ _) (strs_src HX.out) (by unfold maxLen; omega) (by omega) P0.out.size ?_
       intro v1 w1 hown hg _
       obtain ⟨A1, k1, rfl, hk1⟩ := own_slice hown
       rw [Nat.zero_add, List.nil_append] at hown
       have P1 := Lib.hid (P0.out.go (below_none hg))
       have HO := Lib.hid hown
       clear hown hg
       obtain ⟨c0, c1, c2, c3, c4, c5⟩ := P1.out.cells
       have c6 := P1.out.free 4))
  have hp := P1.out.set4 (.slice A1 (0 + wn) k1)
  have ho := ownsRow_setCell_below HO.out (a := { block := w.heap.size, off := 4 }) (by show w.heap.size < _; omega) (.slice A1 (0 + wn) k1)
  rw [Nat.zero_add] at hp ho
  have P2 := Lib.hid hp
  have HO2 := Lib.hid ho
  clear hp ho c0 c1 c2 c3 c4 c5 c6 HO P1 P0 HX
  generalize (World.setCell w1 _ _) = w2 at P2 HO2 ⊢
  obtain ⟨rs, hrm, hko, hsr⟩ := msgs_raw (MsgsAt.below HM.out P2.out.bel hB)
  have HR := Lib.hid hrm
  have HKO := Lib.hid hko
  have HSR := Lib.hid hsr
  clear hrm hko hsr
  obtain ⟨c0, c1, c2, c3, c4, c5⟩ := P2.out.cells
  go_upto_region 3 with (first
    | (at_builtin
       refine wpList_rows elM rfl _ _ rfl rfl rfl (World.ownsRow_nil _ (w.heap.size + 2) _ _) HSR.out (by unfold maxLen; omega) (by omega) P2.out.size ?_
       intro v3 w3 hown hg _
       obtain ⟨A2, k2, rfl, hk2⟩ := own_slice hown
       rw [Nat.zero_add, List.nil_append] at hown
       have P3 := Lib.hid (P2.out.go (below_none hg))
       have HB3 := Lib.hid (below_none hg)
       have HO3 := Lib.hid hown
       clear hown hg c0 c1 c2 c3 c4 c5
       obtain ⟨c0, c1, c2, c3, c4, c5⟩ := P3.out.cells
       have c6 := P3.out.free 5))
  have hI := CI.first P2.out HO2.out HR.out HKO.out hB HB3.out HO3.out
  have HI := Lib.hid hI
  clear hI c0 c1 c2 c3 c4 c5 c6 P2 HO2 P3 HO3 HB3 HR HKO HSR HM
  generalize hW : (World.setCell w3 _ _) = w4 at HI ⊢
  clear hW
  obtain ⟨c0, c1, c2, c3, c4, c5⟩ := HI.out.pi.cells
  go_wp2_with fail
  go_loopw [15] (fun s15 wr => ∃ (k : Nat) (rs' : List Raw), k ≤ mn ∧ s15 = .int .i64 k ∧ Hid (CI bid bv bn bh w wr B0 k (.slice A1 wn k1) (.slice A2 mn k2) wn mn ws ms rs')) (fun s15 _ => mn - (intOf s15).toNat)
  case atStart => exact ⟨0, rs, Nat.zero_le _, rfl, HI⟩
  case round =>
    clear HI c0 c1 c2 c3 c4 c5
    obtain ⟨k, rs', hk, rfl, HI⟩ := hrel
    by_cases hlt : k < mn
    · obtain ⟨c0, c1, c2, c3, c4, c5⟩ := HI.out.pi.cells
      have hlen := HI.out.len
      obtain ⟨g, cap, hA, _, _⟩ := own_form HI.out.om (by omega)
      injection hA with hA1 hA2 hA3
      subst hA1 hA3
      have hg : k < rs'.length := by omega
      have hr := List.getElem?_eq_getElem hg
      generalize rs'[k] = r at hr
      have hco : wr.cell? { block := g, off := k * 7 + 5 } = some (.slice r.K r.m.keys.length r.c) := own_cell HI.out.om rfl ((mc_get rs' k 5 r hr (by decide)).trans rfl)
      have hfr : wr.frozen? { block := g, off := k * 7 + 5 } = false := own_free HI.out.om rfl _
      have h6 : r.m.keys.length ≤ 60000 := HK.out r.m (by rw [← HI.out.rm]; exact List.mem_map_of_mem (List.mem_of_getElem? hr))
      have HS := Lib.hid (ints_src (HI.out.old k r (Nat.le_refl _) hr))
      have HD := Lib.hid (Below.drew (Below.refl wr.heap.size wr))
      have HRR := Lib.hid hr
      clear hr hlen
      generalize hks : r.m.keys.length = kl at hco h6 HS
      go_upto_region 6 with fail
      go_region_law (first
        | (refine step_rows elI rfl _ _ rfl rfl rfl (World.ownsRow_nil _ wr.heap.size _ _) HS.out (by unfold maxLen; omega) (by omega) (Nat.le_refl _) ?_
           intro v5 w5 hown hg5 _
           have hb5 : Below wr.heap.size wr w5 := HD.out.trans (below_none hg5)
           obtain ⟨A5, k5, rfl, hk5⟩ := own_slice hown
           rw [Nat.zero_add, List.nil_append] at hown
           have HO5 := Lib.hid hown
           have HB5 := Lib.hid hb5
           have H5 := Lib.hid (HI.out.go hB hb5)
           obtain ⟨_, _, _, _, _, e5⟩ := H5.out.pi.cells
           have eco : w5.cell? { block := g, off := k * 7 + 5 } = some (.slice r.K kl r.c) := (hb5.cell (p := ⟨g, k * 7 + 5, none⟩) (HI.out.om.lt g rfl).2).trans hco
           have efr : w5.frozen? { block := g, off := k * 7 + 5 } = false := own_free H5.out.om rfl _
           have es5 : ∀ u, (w5.setCell { block := g, off := k * 7 + 5 } u).cell? { block := w.heap.size, off := 5 } = some (.slice (some { block := g, off := 0 }) mn k2) := fun u => (World.cell?_of_block (w := w5) (a := { block := w.heap.size, off := 5 }) (Below.heap_setCell _ _ _ _ (by have := (HI.out.om.lt g rfl).1; show w.heap.size ≠ g; omega))).trans e5
           clear hown hb5 hg5))
      all_goals
        have hN := HI.out.step (c' := k5) (K' := A5) hB rfl HRR.out HB5.out (by rw [hks]; exact HO5.out)
        rw [hks] at hN
        have HN := Lib.hid hN
        clear hN c0 c1 c2 c3 c4 c5 e5 eco efr es5 hco hfr HO5 HB5 H5 HI
        go_wp2_with fail
        go_roundw
        case rel => exact ⟨k + 1, _, by omega, by go_num, HN⟩
        case measure => simp [intOf]; omega
    · obtain rfl : mn = k := by omega
      obtain ⟨c0, c1, c2, c3, c4, c5⟩ := HI.out.pi.cells
      obtain ⟨d0, d1, d2, d3, d4, d5, f0, f1, f2, f3, f4, f5⟩ := HI.out.pi.room
      go_wp2_with fail
      obtain ⟨W, hW, q0, q1, q2, q3, q4, q5, hWb, hWo⟩ := HI.out.pi.ret
      rw [← hW]
      refine bodyPost_ret (v := .agg #[.string bid, .int .i64 bv, .int .i64 bn, .int .i64 bh, .slice A1 wn k1, .slice A2 mn k2]) (by simp [results, Tryd.results38, go_sem, q0, q1, q2, q3, q4, q5]) rfl ?_
      exact HI.out.post (Nat.le_refl _) hWb hWo
end Go.Proofs.YtnicijeeocknaaaDoor.BxCp
