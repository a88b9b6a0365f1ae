/-
  A message that the third form's reader reads.
-/
import Derived.Test.YtdgcihgohkgecaaF3R
namespace Go.Proofs.Ytdgcihgohkgecaa.F3M
open Go.RowKit Go.Proofs.Ytdgcihgohkgecaa.BxD Go.Proofs.Ytdgcihgohkgecaa.PkKit Go.Proofs.Ytdgcihgohkgecaa.PkF Go.Proofs.Ytdgcihgohkgecaa.OlD Go.Proofs.Ytdgcihgohkgecaa.PtD Go.Proofs.Ytdgcihgohkgecaa.PtK Go.Proofs.Ytdgcihgohkgecaa.PtR Go.Proofs.Ytdgcihgohkgecaa.F3D Go.Proofs.Ytdgcihgohkgecaa.F3R

/-- A message being read. -/
structure NS (w wr : World) (R T : Nat) (s : St) (u md d : Int) (id : ByteArray) (fl : Int) (K : Option Addr) (kn kc : Nat) (tx : ByteArray) : Prop where
  fr : Fr2 R T w wr
  rd : PRd wr R T s
  rb : RBk wr w.heap.size R
  res : wr.heap[w.heap.size + 1]? = some (.cells zmsg 39 (0, 0))
  blk : MBk wr (w.heap.size + 2) u md d id fl K kn kc tx
  hR : R < w.heap.size
  hT : T < w.heap.size
section
variable {w wr w2 : World} {R T : Nat} {s s' : St} {u md d fl : Int} {id tx : ByteArray} {K : Option Addr} {kn kc : Nat}
theorem NS.size (h : NS w wr R T s u md d id fl K kn kc tx) : w.heap.size + 3 ≤ wr.heap.size := (Array.getElem?_eq_some_iff.1 h.blk).1
theorem NS.keep (h : NS w wr R T s u md d id fl K kn kc tx) (hg : Fr2 R T wr w2) (hr : PRd w2 R T s') : NS w w2 R T s' u md d id fl K kn kc tx := by
  have h1 := h.size
  have h2 := h.hR
  have h3 := h.hT
  exact ⟨h.fr.trans hg, hr, (hg.block _ (by omega) (by omega) (by omega)).trans h.rb, (hg.block _ (by omega) (by omega) (by omega)).trans h.res, (hg.block _ (by omega) (by omega) (by omega)).trans h.blk, h2, h3⟩
theorem NS.free (h : NS w wr R T s u md d id fl K kn kc tx) (i : Nat) : wr.frozen? { block := w.heap.size + 2, off := i } = false := by have := h.blk; unfold MBk at this; simp [World.frozen?, this]
theorem NS.set (h : NS w wr R T s u md d id fl K kn kc tx) (i : Nat) (v : Value) {u' md' d' fl' : Int} {id' tx' : ByteArray} {K' : Option Addr} {kn' kc' : Nat}
    (hv : (#[.int .i64 u, .int .i64 md, .int .i64 d, .string id, .int .i64 fl, .slice K kn kc, .string tx] : Array Value).setIfInBounds i v = #[.int .i64 u', .int .i64 md', .int .i64 d', .string id', .int .i64 fl', .slice K' kn' kc', .string tx']) :
    NS w (wr.setCell { block := w.heap.size + 2, off := i } v) R T s u' md' d' id' fl' K' kn' kc' tx' := by
  have h2 := h.hR
  have h3 := h.hT
  refine ⟨h.fr.set (by omega) _, h.rd.set (by omega) (by omega) _, (Below.heap_setCell _ _ _ _ (by show w.heap.size ≠ w.heap.size + 2; omega)).trans h.rb, (Below.heap_setCell _ _ _ _ (by show w.heap.size + 1 ≠ w.heap.size + 2; omega)).trans h.res, ?_, h2, h3⟩
  have := h.blk
  unfold MBk at this ⊢
  rw [← hv]
  simp [World.setCell, Array.getElem?_modify, this]
theorem NS.start (h : PRd w R T s) : NS w (((w.alloc (.cells #[ptr R] 54)).alloc (.cells zmsg 39)).alloc (.cells #[.int .i64 0, .int .i64 0, .int .i64 0, .string ⟨#[]⟩, .int .i64 0, .slice none 0 0, .string ⟨#[]⟩] 39)) R T s 0 0 0 ⟨#[]⟩ 0 none 0 0 ⟨#[]⟩ := by
  have e1 : (w.alloc (.cells #[ptr R] 54)).heap.size = w.heap.size + 1 := by simp
  have e2 : ((w.alloc (.cells #[ptr R] 54)).alloc (.cells zmsg 39)).heap.size = w.heap.size + 2 := by simp
  refine ⟨(((Fr2.refl R T w).alloc _).alloc _).alloc _, ((h.alloc _).alloc _).alloc _, ((heap_alloc_old _ _ (by rw [e2]; omega)).trans (heap_alloc_old _ _ (by rw [e1]; omega))).trans (heap_alloc_new w _), (heap_alloc_old _ _ (by rw [e2]; omega)).trans ?_, ?_, h.lt, h.rd.lt⟩
  · have := heap_alloc_new (w.alloc (.cells #[ptr R] 54)) (.cells zmsg 39)
    rw [e1] at this
    exact this
  · have := heap_alloc_new ((w.alloc (.cells #[ptr R] 54)).alloc (.cells zmsg 39)) (.cells #[.int .i64 0, .int .i64 0, .int .i64 0, .string ⟨#[]⟩, .int .i64 0, .slice none 0 0, .string ⟨#[]⟩] 39)
    rw [e2] at this
    exact this
end
/-- A message that was read: its keys in a row of the call's own. -/
def MsOut (m : Msg) (s : St) (w : World) (R T : Nat) (e : Ending) (w' : World) : Prop :=
  ∃ K c, e = .returned (.agg #[.int .i64 m.uid, .int .i64 m.mod, .int .i64 m.date, .string m.id, .int .i64 m.flags, .slice K m.keys.length c, .string m.text]) ∧ w'.ownsRow w.heap.size 3 1 (.slice K m.keys.length c) m.keys.length (m.keys.map (Value.int .i64)) ∧ PRd w' R T s ∧ Fr2 R T w w'
set_option maxHeartbeats 4000000 in
set_option maxRecDepth 100000 in
theorem msg_r {w : World} {R T : Nat} {s : St} {last : Int} (h : PRd w R T s) (hl : -1 ≤ last ∧ last ≤ 1000000000) : Calls Try.prog 41 #[.agg #[ptr R], .int .i64 last] w (MsOut (msg3S last s).1 (msg3S last s).2 w R T) := by
  have m0 := NS.start h
  unfold zmsg at m0
  have M0 := Lib.hid m0
  obtain ⟨s1, hs1⟩ : ∃ s1, s1 = (ntS 1000000 s).2 := ⟨_, rfl⟩
  obtain ⟨u, hu⟩ : ∃ u, u = (ntS 1000000 s).1 := ⟨_, rfl⟩
  obtain ⟨s2, hs2⟩ : ∃ s2, s2 = (ntS 1000000 s1).2 := ⟨_, rfl⟩
  obtain ⟨md, hmd⟩ : ∃ md, md = (ntS 1000000 s1).1 := ⟨_, rfl⟩
  obtain ⟨s3, hs3⟩ : ∃ s3, s3 = (ntS 1000000 s2).2 := ⟨_, rfl⟩
  obtain ⟨d, hd⟩ : ∃ d, d = (ntS 1000000 s2).1 := ⟨_, rfl⟩
  obtain ⟨s4, hs4⟩ : ∃ s4, s4 = (ntS 1000000 s3).2 := ⟨_, rfl⟩
  obtain ⟨fl, hfl⟩ : ∃ fl, fl = (ntS 1000000 s3).1 := ⟨_, rfl⟩
  obtain ⟨s5, hs5⟩ : ∃ s5, s5 = (kyS3 s4).2 := ⟨_, rfl⟩
  obtain ⟨ks, hks⟩ : ∃ ks, ks = (kyS3 s4).1 := ⟨_, rfl⟩
  obtain ⟨s6, hs6⟩ : ∃ s6, s6 = (txtS 24 s5).2 := ⟨_, rfl⟩
  obtain ⟨id, hid⟩ : ∃ id, id = (txtS 24 s5).1 := ⟨_, rfl⟩
  obtain ⟨s7, hs7⟩ : ∃ s7, s7 = (txtS 300 s6).2 := ⟨_, rfl⟩
  obtain ⟨tx, htx⟩ : ∃ tx, tx = (txtS 300 s6).1 := ⟨_, rfl⟩
  have hms : msg3S last s = (⟨last + (u : Nat), (md : Nat), (d : Nat), id, (fl : Nat), ks, tx⟩, s7) := by
    unfold msg3S
    simp only [← hs1, ← hu, ← hs2, ← hmd, ← hs3, ← hd, ← hs4, ← hfl, ← hs5, ← hks, ← hs6, ← hid, ← hs7, ← htx]
  rw [hms]
  have hu6 : u ≤ 1000000 := by rw [hu]; exact nt_le _ _
  have K0 := Lib.hid (fun (wr : World) (g : PRd wr R T s) => show Calls Try.prog 38 #[.agg #[ptr R]] wr (Pq wr R T (.int .i64 (u : Nat)) s1) from by rw [hu, hs1]; exact number_r g)
  have K1 := Lib.hid (fun (wr : World) (g : PRd wr R T s1) => show Calls Try.prog 38 #[.agg #[ptr R]] wr (Pq wr R T (.int .i64 (md : Nat)) s2) from by rw [hmd, hs2]; exact number_r g)
  have K2 := Lib.hid (fun (wr : World) (g : PRd wr R T s2) => show Calls Try.prog 38 #[.agg #[ptr R]] wr (Pq wr R T (.int .i64 (d : Nat)) s3) from by rw [hd, hs3]; exact number_r g)
  have K3 := Lib.hid (fun (wr : World) (g : PRd wr R T s3) => show Calls Try.prog 38 #[.agg #[ptr R]] wr (Pq wr R T (.int .i64 (fl : Nat)) s4) from by rw [hfl, hs4]; exact number_r g)
  have K4 := Lib.hid (fun (wr : World) (g : PRd wr R T s4) => show Calls Try.prog 55 #[.agg #[ptr R]] wr (KysOut ks s5 wr R T) from by rw [hks, hs5]; exact keys_r g)
  have K5 := Lib.hid (fun (wr : World) (g : PRd wr R T s5) => show Calls Try.prog 39 #[ptr T, .int .i64 24] wr (Pq wr R T (.string id) s6) from by rw [hid, hs6]; exact text_p g 24)
  have K6 := Lib.hid (fun (wr : World) (g : PRd wr R T s6) => show Calls Try.prog 39 #[ptr T, .int .i64 300] wr (Pq wr R T (.string tx) s7) from by rw [htx, hs7]; exact text_p g 300)
  have hwa : IntKind.i64.wrap (last + (u : Int)) = last + (u : Int) := by rw [IntKind.wrap_i64]; omega
  clear h m0 hms hs1 hu hs2 hmd hs3 hd hs4 hfl hs5 hks hs6 hid hs7 htx
  go_enter Try.func41, Try.ntmps41
  go_upto_region 2 with fail
  generalize (World.alloc (World.alloc (World.alloc w _) _) _) = wa0 at M0 ⊢
  have KK := Lib.hid (K0.out wa0 M0.out.rd)
  have b0 := M0.out.rb.cell
  go_upto_region 3 with (go_at_call 38; go_loud (
     refine KK.out.mono ?_
     rintro e wb0 ⟨rfl, hr, hf⟩
     have N0 := Lib.hid (M0.out.keep hf hr)
     have q0 := N0.out.blk.cells.1
     have q1 := N0.out.free 0
     clear hr hf b0))
  have M1 := Lib.hid (N0.out.set (u' := last + (u : Int)) 0 (.int .i64 (last + (u : Int))) rfl)
  clear M0 N0 KK q0 q1
  generalize (World.setCell wb0 _ _) = wa1 at M1 ⊢
  have KK := Lib.hid (K1.out wa1 M1.out.rd)
  have b0 := M1.out.rb.cell
  go_upto_region 4 with (go_at_call 38; go_loud (
     refine KK.out.mono ?_
     rintro e wb1 ⟨rfl, hr, hf⟩
     have N1 := Lib.hid (M1.out.keep hf hr)
     have q0 := N1.out.blk.cells.2.1
     have q1 := N1.out.free 1
     clear hr hf b0))
  have M2 := Lib.hid (N1.out.set (md' := md) 1 (.int .i64 (md : Nat)) rfl)
  clear M1 N1 KK q0 q1
  generalize (World.setCell wb1 _ _) = wa2 at M2 ⊢
  have KK := Lib.hid (K2.out wa2 M2.out.rd)
  have b0 := M2.out.rb.cell
  go_upto_region 5 with (go_at_call 38; go_loud (
     refine KK.out.mono ?_
     rintro e wb2 ⟨rfl, hr, hf⟩
     have N2 := Lib.hid (M2.out.keep hf hr)
     have q0 := N2.out.blk.cells.2.2.1
     have q1 := N2.out.free 2
     clear hr hf b0))
  have M3 := Lib.hid (N2.out.set (d' := d) 2 (.int .i64 (d : Nat)) rfl)
  clear M2 N2 KK q0 q1
  generalize (World.setCell wb2 _ _) = wa3 at M3 ⊢
  have KK := Lib.hid (K3.out wa3 M3.out.rd)
  have b0 := M3.out.rb.cell
  go_upto_region 6 with (go_at_call 38; go_loud (
     refine KK.out.mono ?_
     rintro e wb3 ⟨rfl, hr, hf⟩
     have N3 := Lib.hid (M3.out.keep hf hr)
     have q0 := N3.out.blk.cells.2.2.2.2.1
     have q1 := N3.out.free 4
     clear hr hf b0))
  have M4 := Lib.hid (N3.out.set (fl' := fl) 4 (.int .i64 (fl : Nat)) rfl)
  clear M3 N3 KK q0 q1
  generalize (World.setCell wb3 _ _) = wa4 at M4 ⊢
  have KK := Lib.hid (K4.out wa4 M4.out.rd)
  have b0 := M4.out.rb.cell
  go_upto_region 7 with (go_at_call 55; go_loud (
     refine KK.out.mono ?_
     rintro e wb4 ⟨K, c, rfl, hk64, hown, hr, hf⟩
     have HO := Lib.hid hown
     have N4 := Lib.hid (M4.out.keep hf hr)
     have q0 := N4.out.blk.cells.2.2.2.2.2.1
     have q1 := N4.out.free 5
     clear hr hf b0 hown))
  obtain ⟨kl, hkl⟩ : ∃ kl, kl = ks.length := ⟨_, rfl⟩
  have HKL := Lib.hid hkl
  have hsz := M4.out.size
  have M5 := Lib.hid (N4.out.set (K' := K) (kn' := ks.length) (kc' := c) 5 (.slice K ks.length c) rfl)
  have HO2 := Lib.hid (ownsRow_setCell_below (BxC.own_base HO.out hsz) (a := { block := w.heap.size + 2, off := 5 }) (by show w.heap.size + 2 < w.heap.size + 3; omega) (.slice K ks.length c))
  rw [← hkl] at M5 HO2 ⊢
  clear M4 N4 KK HO hkl q0 q1
  generalize (World.setCell wb4 _ _) = wa5 at M5 HO2 ⊢
  have KK := Lib.hid (K5.out wa5 M5.out.rd)
  have b0 := M5.out.rb.cell
  have b1 := M5.out.rd.cells.1
  go_upto_region 8 with (go_at_call 39; go_loud (
     refine KK.out.mono ?_
     rintro e wb5 ⟨rfl, hr, hf⟩
     have N5 := Lib.hid (M5.out.keep hf hr)
     have HOb := Lib.hid (Fr2.own hf HO2.out (by have := M5.out.hR; omega) (by have := M5.out.hT; omega))
     have q0 := N5.out.blk.cells.2.2.2.1
     have q1 := N5.out.free 3
     clear hr hf b0 b1))
  have M6 := Lib.hid (N5.out.set (id' := id) 3 (.string id) rfl)
  have HO5 := Lib.hid (ownsRow_setCell_below HOb.out (a := { block := w.heap.size + 2, off := 3 }) (by show w.heap.size + 2 < w.heap.size + 3; omega) (.string id))
  clear M5 N5 KK q0 q1 HO2 HOb
  generalize (World.setCell wb5 _ _) = wa6 at M6 HO5 ⊢
  have KK := Lib.hid (K6.out wa6 M6.out.rd)
  have b0 := M6.out.rb.cell
  have b1 := M6.out.rd.cells.1
  go_upto_region 9 with (go_at_call 39; go_loud (
     refine KK.out.mono ?_
     rintro e wb6 ⟨rfl, hr, hf⟩
     have N6 := Lib.hid (M6.out.keep hf hr)
     have HOb := Lib.hid (Fr2.own hf HO5.out (by have := M6.out.hR; omega) (by have := M6.out.hT; omega))
     have q0 := N6.out.blk.cells.2.2.2.2.2.2
     have q1 := N6.out.free 6
     clear hr hf b0 b1))
  have M7 := Lib.hid (N6.out.set (tx' := tx) 6 (.string tx) rfl)
  have HO6 := Lib.hid (ownsRow_setCell_below HOb.out (a := { block := w.heap.size + 2, off := 6 }) (by show w.heap.size + 2 < w.heap.size + 3; omega) (.string tx))
  clear M6 N6 KK q0 q1 HO5 HOb
  generalize (World.setCell wb6 _ _) = wa7 at M7 HO6 ⊢
  obtain ⟨q0, q1, q2, q3, q4, q5, q6⟩ := M7.out.blk.cells
  obtain ⟨z0, z1, z2, z3, z4, z5, z6, zf⟩ := zcells M7.out.res
  have f0 := zf 0
  have f1 := zf 1
  have f2 := zf 2
  have f3 := zf 3
  have f4 := zf 4
  have f5 := zf 5
  have f6 := zf 6
  clear zf
  go_wp2_with fail
  obtain ⟨W, hW, p0, p1, p2, p3, p4, p5, p6, hWg⟩ := ret7 M7.out.res (.int .i64 (last + (u : Int))) (.int .i64 (md : Nat)) (.int .i64 (d : Nat)) (.string id) (.int .i64 (fl : Nat)) (.slice K kl c) (.string tx)
  rw [← hW]
  refine bodyPost_ret (v := .agg #[.int .i64 (last + (u : Int)), .int .i64 (md : Nat), .int .i64 (d : Nat), .string id, .int .i64 (fl : Nat), .slice K kl c, .string tx]) (by simp [results, Try.results41, go_sem, p0, p1, p2, p3, p4, p5, p6]) rfl ?_
  obtain rfl := HKL.out
  have hR2 := M7.out.hR
  have hT2 := M7.out.hT
  have hsw := M7.out.size
  refine ⟨K, c, rfl, ?_, ?_, ?_⟩
  · exact BxC.own_base (HO6.out.kept hWg (.inr (fun e => by have := (HO6.out.lt _ e).1; omega))) (by omega)
  · exact ⟨(hWg.block R (by omega) (fun e => by have : R = w.heap.size + 1 := Option.some.inj e; omega)).trans M7.out.rd.blk, M7.out.rd.rd.below (B := T + 1) ⟨hWg.os, hWg.tape, hWg.output, hWg.size, fun k hk => hWg.block k (by omega) (fun e => by have : k = w.heap.size + 1 := Option.some.inj e; omega)⟩ (Nat.lt_succ_self _), M7.out.rd.ne⟩
  · exact ⟨hWg.os.trans M7.out.fr.os, hWg.tape.trans M7.out.fr.tape, hWg.output.trans M7.out.fr.output, Nat.le_trans M7.out.fr.size hWg.size, fun k hk h1 h2 => (hWg.block k (by omega) (fun e => by have : k = w.heap.size + 1 := Option.some.inj e; omega)).trans (M7.out.fr.block k hk h1 h2)⟩
end Go.Proofs.Ytdgcihgohkgecaa.F3M
