/-
  A message read.
-/
import Derived.Test.YthbilcadifbaeaaDoorOlS
import Derived.Test.YthbilcadifbaeaaDoorOlC
import Derived.Test.YthbilcadifbaeaaDoorBxO
import Derived.Laws.ResultCell
namespace Go.Proofs.YthbilcadifbaeaaDoor.OlT
open Go.RowKit Go.Proofs.YthbilcadifbaeaaDoor.BxD Go.Proofs.YthbilcadifbaeaaDoor.PkKit Go.Proofs.YthbilcadifbaeaaDoor.PkC Go.Proofs.YthbilcadifbaeaaDoor.PkD Go.Proofs.YthbilcadifbaeaaDoor.PkF Go.Proofs.YthbilcadifbaeaaDoor.PkG Go.Proofs.YthbilcadifbaeaaDoor.OlD Go.Proofs.YthbilcadifbaeaaDoor.OlR Go.Proofs.YthbilcadifbaeaaDoor.OlS
open Go.Proofs.YthbilcadifbaeaaDoor.OlC (MBk MBk.cells)

/-- The table of the digits stays, whatever the readers do. -/
def TabF (w : World) (R T : Nat) : Prop := ∀ wr, Fr2 R T w wr → BxO.Tab wr
theorem TabF.go {w w' : World} {R T : Nat} (h : TabF w R T) (hf : Fr2 R T w w') : TabF w' R T := fun wr g => h wr (hf.trans g)
def zmsg : Array Value := #[.int .i64 0, .int .i64 0, .int .i64 0, .string ⟨#[]⟩, .int .i64 0, .slice none 0 0, .string ⟨#[]⟩]
/-- A message being read: the readers, the answer's block, the message's. -/
structure MS (cg : Bool) (w wr : World) (R T : Nat) (s : St) (u md d : Int) (id : ByteArray) (fl : Int) (K : Option Addr) (kn kc : Nat) (tx : ByteArray) : Prop where
  fr : Fr2 R T w wr
  rd : FRd cg wr R T s
  res : wr.heap[w.heap.size]? = some (.cells zmsg 28 (0, 0))
  blk : MBk wr (w.heap.size + 1) u md d id fl K kn kc tx
  hR : R < w.heap.size
  hT : T < w.heap.size
section
variable {cg : Bool} {w wr w2 : World} {R T : Nat} {s s' : St} {u md d fl : Int} {id tx : ByteArray} {K : Option Addr} {kn kc : Nat}
theorem MS.size (h : MS cg w wr R T s u md d id fl K kn kc tx) : w.heap.size + 2 ≤ wr.heap.size := (Array.getElem?_eq_some_iff.1 h.blk).1
theorem MS.keep (h : MS cg w wr R T s u md d id fl K kn kc tx) (hg : Fr2 R T wr w2) (hr : FRd cg w2 R T s') : MS cg w w2 R T s' u md d id fl K kn kc tx := by
  have h1 := h.size
  have h2 := h.hR
  have h3 := h.hT
  exact ⟨h.fr.trans hg, hr, (hg.block _ (by omega) (by omega) (by omega)).trans h.res, (hg.block _ (by omega) (by omega) (by omega)).trans h.blk, h2, h3⟩
theorem MS.read (h : MS cg w wr R T s u md d id fl K kn kc tx) (hr : RD w2 T s'.1 s'.2.1) (hg : wr.grownBy w2 (some T)) (ho : s'.2.2 = s.2.2) : MS cg w w2 R T s' u md d id fl K kn kc tx := h.keep (Fr2.grown hg R) (h.rd.step hr hg ho)
theorem MS.go (h : MS cg w wr R T s u md d id fl K kn kc tx) (hb : Below wr.heap.size wr w2) : MS cg w w2 R T s u md d id fl K kn kc tx := h.keep (Fr2.below hb R T) (h.rd.go hb)
theorem MS.cells (h : MS cg w wr R T s u md d id fl K kn kc tx) : wr.cell? { block := R, off := 0 } = some (ptr T) := h.rd.cells.1
theorem MS.free (h : MS cg w wr R T s u md d id fl K kn kc tx) (i : Nat) : wr.frozen? { block := w.heap.size + 1, off := i } = false := by have := h.blk; unfold MBk at this; simp [World.frozen?, this]
/-- A field of the message is stored. -/
theorem MS.set (h : MS cg w wr R T s u md d id fl K kn kc tx) (i : Nat) (v : Value) {u' md' d' fl' : Int} {id' tx' : ByteArray} {K' : Option Addr} {kn' kc' : Nat}
    (hv : (#[.int .i64 u, .int .i64 md, .int .i64 d, .string id, .int .i64 fl, .slice K kn kc, .string tx] : Array Value).setIfInBounds i v = #[.int .i64 u', .int .i64 md', .int .i64 d', .string id', .int .i64 fl', .slice K' kn' kc', .string tx']) :
    MS cg w (wr.setCell { block := w.heap.size + 1, off := i } v) R T s u' md' d' id' fl' K' kn' kc' tx' := by
  have h2 := h.hR
  have h3 := h.hT
  refine ⟨h.fr.set (by omega) _, h.rd.set (by omega) (by omega) _, (Below.heap_setCell _ _ _ _ (by show w.heap.size ≠ w.heap.size + 1; omega)).trans h.res, ?_, h2, h3⟩
  have := h.blk
  unfold MBk at this ⊢
  rw [← hv]
  simp [World.setCell, Array.getElem?_modify, this]
theorem MS.start (h : FRd cg w R T s) : MS cg w ((w.alloc (.cells zmsg 28)).alloc (.cells #[.int .i64 0, .int .i64 0, .int .i64 0, .string ⟨#[]⟩, .int .i64 0, .slice none 0 0, .string ⟨#[]⟩] 28)) R T s 0 0 0 ⟨#[]⟩ 0 none 0 0 ⟨#[]⟩ := by
  refine ⟨((Fr2.refl R T w).alloc _).alloc _, (h.alloc _).alloc _, (heap_alloc_old _ _ (by simp)).trans (heap_alloc_new w _), ?_, h.lt, h.rd.lt⟩
  have := heap_alloc_new (w.alloc (.cells zmsg 28)) (.cells #[.int .i64 0, .int .i64 0, .int .i64 0, .string ⟨#[]⟩, .int .i64 0, .slice none 0 0, .string ⟨#[]⟩] 28)
  rw [show (w.alloc (.cells zmsg 28)).heap.size = w.heap.size + 1 by simp] at this
  exact this
end
/-- The seven cells of an answer laid. -/
theorem ret7 {wr : World} {P : Nat} (h : wr.heap[P]? = some (.cells zmsg 28 (0, 0))) (c0 c1 c2 c3 c4 c5 c6 : Value) :
    ∃ W, W = ((((((wr.setCell { block := P, off := 0 } c0).setCell { block := P, off := 1 } c1).setCell { block := P, off := 2 } c2).setCell { block := P, off := 3 } c3).setCell { block := P, off := 4 } c4).setCell { block := P, off := 5 } c5).setCell { block := P, off := 6 } c6 ∧
      W.cell? { block := P, off := 0 } = some c0 ∧ W.cell? { block := P, off := 1 } = some c1 ∧ W.cell? { block := P, off := 2 } = some c2 ∧ W.cell? { block := P, off := 3 } = some c3 ∧ W.cell? { block := P, off := 4 } = some c4 ∧ W.cell? { block := P, off := 5 } = some c5 ∧ W.cell? { block := P, off := 6 } = some c6 ∧
      wr.grownBy W (some P) := by
  refine ⟨_, rfl, ?_⟩
  have hb : (((((((wr.setCell { block := P, off := 0 } c0).setCell { block := P, off := 1 } c1).setCell { block := P, off := 2 } c2).setCell { block := P, off := 3 } c3).setCell { block := P, off := 4 } c4).setCell { block := P, off := 5 } c5).setCell { block := P, off := 6 } c6).heap[P]? = some (.cells #[c0, c1, c2, c3, c4, c5, c6] 28 (0, 0)) := by
    simp [World.setCell, Array.getElem?_modify, h, zmsg]
  have c := fun o => cell_of_row _ P o _ _ _ hb
  exact ⟨(c 0).trans rfl, (c 1).trans rfl, (c 2).trans rfl, (c 3).trans rfl, (c 4).trans rfl, (c 5).trans rfl, (c 6).trans rfl, grown_trans (grown_trans (grown_trans (grown_trans (grown_trans (grown_trans (grown_set c0) (grown_set c1)) (grown_set c2)) (grown_set c3)) (grown_set c4)) (grown_set c5)) (grown_set c6)⟩
theorem zcells {wr : World} {P : Nat} (h : wr.heap[P]? = some (.cells zmsg 28 (0, 0))) :
    wr.cell? { block := P, off := 0 } = some (.int .i64 0) ∧ wr.cell? { block := P, off := 1 } = some (.int .i64 0) ∧ wr.cell? { block := P, off := 2 } = some (.int .i64 0) ∧ wr.cell? { block := P, off := 3 } = some (.string ⟨#[]⟩) ∧ wr.cell? { block := P, off := 4 } = some (.int .i64 0) ∧ wr.cell? { block := P, off := 5 } = some (.slice none 0 0) ∧ wr.cell? { block := P, off := 6 } = some (.string ⟨#[]⟩) ∧ ∀ i, wr.frozen? { block := P, off := i } = false := by
  have c := fun o => cell_of_row _ P o _ _ _ h
  exact ⟨(c 0).trans rfl, (c 1).trans rfl, (c 2).trans rfl, (c 3).trans rfl, (c 4).trans rfl, (c 5).trans rfl, (c 6).trans rfl, fun i => by simp [World.frozen?, h]⟩
/-- A message that was read: its keys in a row of the call's own. -/
def MsgOut (cg : Bool) (m : Msg) (s : St) (w : World) (R T : Nat) (e : Ending) (w' : World) : Prop :=
  ∃ K c, e = .returned (.agg #[.int .i64 m.uid, .int .i64 m.mod, .int .i64 m.date, .string m.id, .int .i64 m.flags, .slice K m.keys.length c, .string m.text]) ∧ w'.ownsRow w.heap.size 3 1 (.slice K m.keys.length c) m.keys.length (m.keys.map (Value.int .i64)) ∧ FRd cg w' R T s ∧ Fr2 R T w w'
set_option maxHeartbeats 4000000 in
set_option maxRecDepth 100000 in
theorem msg_any {cg : Bool} {w : World} {R T : Nat} {s : St} {id : ByteArray} (h : FRd cg w R T s) (ht : TabF w R T) (hid : id.size ≤ 200) : Calls Tryd.prog 142 #[ptr R, .string id] w (MsgOut cg (msgS cg id s).1 (msgS cg id s).2 w R T) := by
  have m0 := MS.start h
  unfold zmsg at m0
  have M0 := Lib.hid m0
  have HT := Lib.hid ht
  obtain ⟨s1, hs1⟩ : ∃ s1, s1 = (fixS s).2 := ⟨_, rfl⟩
  obtain ⟨sc, hsc⟩ : ∃ sc, sc = (chS cg s1).2 := ⟨_, rfl⟩
  obtain ⟨o, ho⟩ : ∃ o, o = (chS cg s1).1 := ⟨_, rfl⟩
  obtain ⟨s2, hs2⟩ : ∃ s2, s2 = (fixS sc).2 := ⟨_, rfl⟩
  obtain ⟨s3, hs3⟩ : ∃ s3, s3 = (byteS s2).2 := ⟨_, rfl⟩
  obtain ⟨s4, hs4⟩ : ∃ s4, s4 = (fixS s3).2 := ⟨_, rfl⟩
  obtain ⟨u, hu⟩ : ∃ u, u = (fixS s).1 := ⟨_, rfl⟩
  obtain ⟨d, hd⟩ : ∃ d, d = (fixS sc).1 := ⟨_, rfl⟩
  obtain ⟨f, hf⟩ : ∃ f, f = (byteS s2).1 := ⟨_, rfl⟩
  obtain ⟨k, hk⟩ : ∃ k, k = (fixS s3).1 := ⟨_, rfl⟩
  have hmsg : msgS cg id s = (⟨u, o, d, ownT id u, f, keysN k, (strS s4).1⟩, (strS s4).2) := by
    unfold msgS
    simp only [← hs1, ← hsc, ← ho, ← hs2, ← hs3, ← hs4, ← hu, ← hd, ← hf, ← hk]
  rw [hmsg]
  have hul : u < 4294967296 := by rw [hu]; exact fix_lt _
  have hkl : k < 4294967296 := by rw [hk]; exact fix_lt _
  have K1 := Lib.hid (fun (wr : World) (g : FRd cg wr R T s) => show Calls Tryd.prog 138 #[ptr T] wr (Rd1 wr T (.int .i64 (u : Nat)) s1) from by rw [hu, hs1]; exact fixed_all g.rd)
  have K2 := Lib.hid (fun (wr : World) (g : FRd cg wr R T sc) => show Calls Tryd.prog 138 #[ptr T] wr (Rd1 wr T (.int .i64 (d : Nat)) s2) from by rw [hd, hs2]; exact fixed_all g.rd)
  have KH := Lib.hid (fun (wr : World) (g : FRd cg wr R T s1) => show Calls Tryd.prog 139 #[ptr R] wr (Rd2 cg wr R T (.int .i64 (o : Nat)) sc) from by rw [ho, hsc]; exact change_any g)
  have K3 := Lib.hid (fun (wr : World) (g : FRd cg wr R T s2) => show Calls Tryd.prog 158 #[ptr T] wr (Rd1 wr T (.int .i64 (f : Nat)) s3) from by rw [hf, hs3]; exact byte_all g.rd)
  have K4 := Lib.hid (fun (wr : World) (g : FRd cg wr R T s3) => show Calls Tryd.prog 138 #[ptr T] wr (Rd1 wr T (.int .i64 (k : Nat)) s4) from by rw [hk, hs4]; exact fixed_all g.rd)
  have V1 := Lib.hid (show s1.2.2 = s.2.2 by rw [hs1, fix_ov])
  have V2 := Lib.hid (show s2.2.2 = sc.2.2 by rw [hs2, fix_ov])
  have V3 := Lib.hid (show s3.2.2 = s2.2.2 by rw [hs3, byte_ov])
  have V4 := Lib.hid (show s4.2.2 = s3.2.2 by rw [hs4, fix_ov])
  clear h ht m0 hs1 hsc ho hs2 hs3 hs4 hu hd hf hk hmsg
  go_enter Tryd.func142, Tryd.ntmps142
  go_upto_region 2 with fail
  generalize (World.alloc (World.alloc w _) _) = w1 at M0 ⊢
  have KK := Lib.hid (K1.out w1 M0.out.rd)
  have c0 := M0.out.cells
  go_upto_region 3 with (go_at_call 138; go_loud (
     refine KK.out.mono ?_
     rintro e w2 ⟨rfl, hr, hg⟩
     have M1 := Lib.hid (M0.out.read hr hg V1.out)
     have q0 := M1.out.blk.cells.1
     have q1 := M1.out.free 0
     clear hr hg c0))
  have M2 := Lib.hid (M1.out.set (u' := u) 0 (.int .i64 (u : Nat)) rfl)
  clear M0 M1 KK q0 q1
  generalize (World.setCell w2 _ _) = w3 at M2 ⊢
  have KC := Lib.hid (KH.out w3 M2.out.rd)
  go_upto_region 4 with (go_at_call 139; go_loud (
     refine KC.out.mono ?_
     rintro e wx ⟨rfl, hr, hf⟩
     have MX := Lib.hid (M2.out.keep hf hr)
     have q0 := MX.out.blk.cells.2.1
     have q1 := MX.out.free 1
     clear hr hf))
  have M2 := Lib.hid (MX.out.set (md' := o) 1 (.int .i64 (o : Nat)) rfl)
  clear MX KC q0 q1
  generalize (World.setCell wx _ _) = w3 at M2 ⊢
  have KK := Lib.hid (K2.out w3 M2.out.rd)
  have c0 := M2.out.cells
  go_upto_region 5 with (go_at_call 138; go_loud (
     refine KK.out.mono ?_
     rintro e w4 ⟨rfl, hr, hg⟩
     have M3 := Lib.hid (M2.out.read hr hg V2.out)
     have q0 := M3.out.blk.cells.2.2.1
     have q1 := M3.out.free 2
     clear hr hg c0))
  have M4 := Lib.hid (M3.out.set (d' := d) 2 (.int .i64 (d : Nat)) rfl)
  clear M2 M3 KK q0 q1
  generalize (World.setCell w4 _ _) = w5 at M4 ⊢
  have KO := Lib.hid (BxO.own_any (id := id) (u := (u : Int)) (HT.out w5 M4.out.fr) (by omega) hid)
  have q0 := M4.out.blk.cells.1
  go_upto_region 6 with (go_at_call 41; go_loud (
     refine KO.out.mono ?_
     rintro e w6 ⟨rfl, hb⟩
     have M5 := Lib.hid (M4.out.go hb)
     clear q0 hb
     have q0 := M5.out.blk.cells.2.2.2.1
     have q1 := M5.out.free 3))
  have M6 := Lib.hid (M5.out.set (id' := ownT id u) 3 (.string (ownT id u)) rfl)
  clear M4 M5 KO q0 q1
  generalize (World.setCell w6 _ _) = w7 at M6 ⊢
  have KK := Lib.hid (K3.out w7 M6.out.rd)
  have c0 := M6.out.cells
  go_upto_region 7 with (go_at_call 158; go_loud (
     refine KK.out.mono ?_
     rintro e w8 ⟨rfl, hr, hg⟩
     have M7 := Lib.hid (M6.out.read hr hg V3.out)
     have q0 := M7.out.blk.cells.2.2.2.2.1
     have q1 := M7.out.free 4
     clear hr hg c0))
  have M8 := Lib.hid (M7.out.set (fl' := f) 4 (.int .i64 (f : Nat)) rfl)
  clear M6 M7 KK q0 q1
  generalize (World.setCell w8 _ _) = w9 at M8 ⊢
  have KK := Lib.hid (K4.out w9 M8.out.rd)
  have c0 := M8.out.cells
  have KB := Lib.hid (fun (wr : World) => OlB.keysOf_any (w := wr) hkl)
  go_upto_region 8 with (first
    | (go_at_call 138; go_loud (
       refine KK.out.mono ?_
       rintro e wa ⟨rfl, hr, hg⟩
       have M9 := Lib.hid (M8.out.read hr hg V4.out)
       clear hr hg c0))
    | (go_at_call 159; go_loud (
       refine (KB.out _).mono ?_
       rintro e wb ⟨vk, rfl, hown, hb⟩
       obtain ⟨A1, k1, rfl, hk1⟩ := BxR.own_slice hown
       have MA := Lib.hid (M9.out.go hb)
       have HO := Lib.hid hown
       have q0 := MA.out.blk.cells.2.2.2.2.2.1
       have q1 := MA.out.free 5
       clear hown hb)))
  obtain ⟨kl, hkl2⟩ : ∃ kl, kl = (keysN k).length := ⟨_, rfl⟩
  have HKL := Lib.hid hkl2
  have MB2 := Lib.hid (MA.out.set (K' := A1) (kn' := (keysN k).length) (kc' := k1) 5 (.slice A1 (keysN k).length k1) rfl)
  have hsz := M9.out.size
  have HO2 := Lib.hid (ownsRow_setCell_below (BxC.own_base HO.out hsz) (a := { block := w.heap.size + 1, off := 5 }) (by show w.heap.size + 1 < w.heap.size + 2; omega) (.slice A1 (keysN k).length k1))
  rw [← hkl2] at MB2 HO2 ⊢
  clear hkl2 M8 M9 MA HO KK KB q0 q1
  generalize (World.setCell wb _ _) = wc at MB2 HO2 ⊢
  have KS := Lib.hid (str_any MB2.out.rd)
  obtain ⟨tt, htt⟩ : ∃ tt, tt = (strS s4).1 := ⟨_, rfl⟩
  obtain ⟨s5, hs5⟩ : ∃ s5, s5 = (strS s4).2 := ⟨_, rfl⟩
  rw [← htt, ← hs5] at KS
  have HTT := Lib.hid htt
  have HS5 := Lib.hid hs5
  clear htt hs5
  have hRl := MB2.out.hR
  have hTl := MB2.out.hT
  go_upto_region 9 with (go_at_call 160; go_loud (
     refine KS.out.mono ?_
     rintro e wd ⟨rfl, hr, hf⟩
     have MC := Lib.hid (MB2.out.keep hf hr)
     have HO3 := Lib.hid (BxC.own_block HO2.out (w' := wd) fun g e => hf.block g (HO2.out.lt g e).2 (by have := (HO2.out.lt g e).1; omega) (by have := (HO2.out.lt g e).1; omega))
     have q0 := MC.out.blk.cells.2.2.2.2.2.2
     have q1 := MC.out.free 6
     clear hr hf))
  have MD := Lib.hid (MC.out.set (tx' := tt) 6 (.string tt) rfl)
  have HO4 := Lib.hid (ownsRow_setCell_below HO3.out (a := { block := w.heap.size + 1, off := 6 }) (by show w.heap.size + 1 < w.heap.size + 2; omega) (.string tt))
  clear MB2 MC HO2 HO3 KS q0 q1
  generalize (World.setCell wd _ _) = we at MD HO4 ⊢
  obtain ⟨q0, q1, q2, q3, q4, q5, q6⟩ := MD.out.blk.cells
  obtain ⟨z0, z1, z2, z3, z4, z5, z6, zf⟩ := zcells MD.out.res
  have f0 := zf 0
  have f1 := zf 1
  have f2 := zf 2
  have f3 := zf 3
  have f4 := zf 4
  have f5 := zf 5
  have f6 := zf 6
  clear zf
  go_wp2_with fail
  obtain ⟨W, hW, p0, p1, p2, p3, p4, p5, p6, hWg⟩ := ret7 MD.out.res (.int .i64 (u : Nat)) (.int .i64 (o : Nat)) (.int .i64 (d : Nat)) (.string (ownT id u)) (.int .i64 (f : Nat)) (.slice A1 kl k1) (.string tt)
  rw [← hW]
  refine bodyPost_ret (v := .agg #[.int .i64 (u : Nat), .int .i64 (o : Nat), .int .i64 (d : Nat), .string (ownT id u), .int .i64 (f : Nat), .slice A1 kl k1, .string tt]) (by simp [results, Tryd.results142, go_sem, p0, p1, p2, p3, p4, p5, p6]) rfl ?_
  obtain rfl := HTT.out
  obtain rfl := HS5.out
  obtain rfl := HKL.out
  have hR2 := MD.out.hR
  have hT2 := MD.out.hT
  have hsw := MD.out.size
  refine ⟨A1, k1, rfl, ?_, ?_, ?_⟩
  · exact BxC.own_base (HO4.out.kept hWg (.inr (fun e => by have := (HO4.out.lt _ e).1; omega))) (by omega)
  · exact ⟨(hWg.block R (by omega) (fun e => by have : R = w.heap.size := Option.some.inj e; omega)).trans MD.out.rd.blk, MD.out.rd.rd.below (B := T + 1) ⟨hWg.os, hWg.tape, hWg.output, hWg.size, fun k hk => hWg.block k (by omega) (fun e => by have : k = w.heap.size := Option.some.inj e; omega)⟩ (Nat.lt_succ_self _), MD.out.rd.ne⟩
  · exact ⟨hWg.os.trans MD.out.fr.os, hWg.tape.trans MD.out.fr.tape, hWg.output.trans MD.out.fr.output, Nat.le_trans MD.out.fr.size hWg.size, fun k hk h1 h2 => (hWg.block k (by omega) (fun e => by have : k = w.heap.size := Option.some.inj e; omega)).trans (MD.out.fr.block k hk h1 h2)⟩
end Go.Proofs.YthbilcadifbaeaaDoor.OlT
