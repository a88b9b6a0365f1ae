/-
  Msg: bytes and a message of the third form behind them.
-/
import Derived.Test.YtdgcihgohkgecaaDoorF3A
namespace Go.Proofs.YtdgcihgohkgecaaDoor.F3B
open Go.RowKit Go.Proofs.YtdgcihgohkgecaaDoor.BxD Go.Proofs.YtdgcihgohkgecaaDoor.PkKit Go.Proofs.YtdgcihgohkgecaaDoor.PkA Go.Proofs.YtdgcihgohkgecaaDoor.PkB Go.Proofs.YtdgcihgohkgecaaDoor.PkC Go.Proofs.YtdgcihgohkgecaaDoor.PkR Go.Proofs.YtdgcihgohkgecaaDoor.OlD Go.Proofs.YtdgcihgohkgecaaDoor.OlOm Go.Proofs.YtdgcihgohkgecaaDoor.PtD Go.Proofs.YtdgcihgohkgecaaDoor.PtK Go.Proofs.YtdgcihgohkgecaaDoor.PtA Go.Proofs.YtdgcihgohkgecaaDoor.F3D Go.Proofs.YtdgcihgohkgecaaDoor.F3A
open Go.Proofs.YtdgcihgohkgecaaDoor.BxKit (RowAt IntsAt StrsAt MsgsAt)

set_option maxHeartbeats 4000000 in
set_option maxRecDepth 100000 in
theorem msg_any {m cp B : Nat} {w : World} {A : Option Addr} {lb : List UInt8} {u md d fl last : Int} {id tx' : ByteArray} {K : Option Addr} {kn kc : Nat} {ks : List Int} (hb : BytesAt w B A m lb) (hz : IntsAt w B K kn ks) (hB : B ≤ w.heap.size) (hkn : kn ≤ 1000000) (hks : ∀ k ∈ ks, -1 ≤ k ∧ k ≤ 1000000) (hu : -1 ≤ u ∧ u ≤ 1000000) (hl : -1 ≤ last ∧ last ≤ 1000000) (hid : id.size ≤ 300) (htx : tx'.size ≤ 300) (hn : m ≤ 1099000000000) :
    Calls Tryd.prog 55 #[.slice A m cp, .agg #[.int .i64 u, .int .i64 md, .int .i64 d, .string id, .int .i64 fl, .slice K kn kc, .string tx'], .int .i64 last] w fun e w' => ∃ v', e = .returned v' ∧ OO w.heap.size w w' (m + (m3 last ⟨u, md, d, id, fl, ks, tx'⟩).length) v' (lb ++ m3 last ⟨u, md, d, id, fl, ks, tx'⟩) := by
  have hb1 := (Below.refl w.heap.size w).alloc (Nat.le_refl _) (.cells #[.int .i64 u, .int .i64 md, .int .i64 d, .string id, .int .i64 fl, .slice K kn kc, .string tx'] 28)
  have B1 := Lib.hid hb1
  have M0 := Lib.hid (show MBk (w.alloc (.cells #[.int .i64 u, .int .i64 md, .int .i64 d, .string id, .int .i64 fl, .slice K kn kc, .string tx'] 28)) w.heap.size u md d id fl K kn kc tx' from heap_alloc_new w _)
  have HB := Lib.hid (hb.below hb1.drew hB)
  have HZ := Lib.hid hz
  have HKS := Lib.hid hks
  have hs0 : w.heap.size + 1 ≤ (w.alloc (.cells #[.int .i64 u, .int .i64 md, .int .i64 d, .string id, .int .i64 fl, .slice K kn kc, .string tx'] 28)).heap.size := by simp
  clear hb hz hks hb1
  go_enter Tryd.func55, Tryd.ntmps55
  go_upto_region 1 with fail
  generalize (World.alloc w _) = w1 at M0 B1 HB hs0 ⊢
  obtain ⟨m0, m1, m2, m3', m4, m5, m6⟩ := M0.out.cells
  have O1 := Lib.hid (show OO w1.heap.size w1.drew w1.drew 0 (.slice none 0 0) [] from ⟨.inl (World.ownsRow_nil _ _ _ _), Below.refl _ _, Nat.le_refl _⟩)
  have HM := Lib.hid (fun (wr : World) (g : w1.drew.grownBy wr none) => (M0.out.keep (w' := wr) (g.block w.heap.size hs0 (by simp))).cells)
  go_region_held3 (fun wr => wr.cell? { block := w.heap.size, off := 0 } = some (.int .i64 u) ∧ wr.cell? { block := w.heap.size, off := 1 } = some (.int .i64 md) ∧ wr.cell? { block := w.heap.size, off := 2 } = some (.int .i64 d) ∧ wr.cell? { block := w.heap.size, off := 3 } = some (.string id) ∧ wr.cell? { block := w.heap.size, off := 4 } = some (.int .i64 fl) ∧ wr.cell? { block := w.heap.size, off := 5 } = some (.slice K kn kc) ∧ wr.cell? { block := w.heap.size, off := 6 } = some (.string tx')) (first | exact ⟨m0, m1, m2, m3', m4, m5, m6⟩ | exact HM.out _ HG.out | exact hS3 | go_keep) (first
    | (go_at_call 58
       go_loud (
       refine KA.out.mono ?_
       rintro e w3 ⟨v3, rfl, g3⟩
       have hS3 := (M0.out.keep (w' := w3) ((g3.fr.block w.heap.size (Nat.lt_of_lt_of_le (show w.heap.size < w1.drew.heap.size from hs0) HG.out.size) (fun e2 => by have := (O2.out.own.lt _ e2.symm).1; omega)).trans (HG.out.block w.heap.size hs0 (by simp)))).cells
       have O3 := Lib.hid (O2.out.om g3)
       clear g3
       dsimp only))
    | (
       refine step_by rfl (.const (.slice none 0 0)) (.tmp 7) rfl rfl rfl (World.ownsRow_nil _ _ _ _) HB.out (by omega) (show w1.heap.size ≤ w1.drew.heap.size from Nat.le_refl _) ?_
       intro v2 w2 hown2 hg2 _
       have O2 := Lib.hid (O1.out.app (show Ow w2 w1.heap.size v2 m (by_ lb) from by rw [Nat.zero_add] at hown2; exact .inl hown2) hg2)
       have HG := Lib.hid (show w1.drew.grownBy w2 none from hg2)
       have KA := Lib.hid (appendMsg_om (u := u) (md := md) (d := d) (fl := fl) (last := last) (id := id) (tx' := tx') (kc := kc) O2.out.own (IntsAt.below (IntsAt.below HZ.out B1.out.drew hB) O2.out.bel (by omega)) (show B ≤ w1.heap.size by omega) O2.out.bel.size hkn HKS.out hu hl hid htx (by omega))
       clear hown2 hg2
       dsimp only))
  rename_i hHeld
  clear hHeld m0 m1 m2 m3' m4 m5 m6
  go_wp2_with fail
  go_ret
  have hs1 := O3.out.bel.size
  exact ⟨v3, rfl, O3.out.own.down.up (fun k hk => by have h1 := (O3.out.own.lt k hk).1; have h2 : w.heap.size + 1 ≤ w1.heap.size := hs0; omega), B1.out.drew.trans (O3.out.bel.mono (by omega)), Nat.le_refl _⟩
end Go.Proofs.YtdgcihgohkgecaaDoor.F3B
