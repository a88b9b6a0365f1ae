/-
  Arguments opened: a row, a slice of rows.
-/
import Derived.Test.YtfhdoecackdflaaGreatDoorBxLaw
import Derived.Test.YtfhdoecackdflaaGreatDoorL3
set_option linter.unusedVariables false
set_option linter.unusedSimpArgs false
namespace Go.Proofs.YtfhdoecackdflaaGreatDoor.RwLaw
open Go.ChangeShapes Go.WideShapes Go.ChangeAt Go.WideMaps Go.WideElems Go.RowKit Go.Deep Go.Proofs.YtfhdoecackdflaaGreatDoor.BxD Go.Proofs.YtfhdoecackdflaaGreatDoor.BxKit Go.Proofs.YtfhdoecackdflaaGreatDoor.BxO Go.Proofs.YtfhdoecackdflaaGreatDoor.RwD Go.Proofs.YtfhdoecackdflaaGreatDoor.RwKit
open Go.Proofs.YtfhdoecackdflaaGreatDoor.BxLaw hiding door_met
section
variable {H : Type} {enc : TypeId × Value → H} {W : World}
set_option maxRecDepth 100000 in
/-- A struct's fields, each with the cells that are its. -/
theorem parts_of {t : TypeId} {fs : Array Field} {fuel : Nat} {cs : List Value} {x : DataW H × List MemPlace} (ht : Tryz.prog.underlying t = some (.struct fs)) (h : Rd enc W fuel t cs x) (hs : Small t x.1) :
    cs.length = Tryz.prog.cellsOf t ∧ ∃ n : Nat, ∀ (j : Nat) (f : Field), fs[j]? = some f → ∃ y : DataW H × List MemPlace, Rd enc W n f.type ((cs.drop f.offset).take (Tryz.prog.cellsOf f.type)) y ∧ Small f.type y.1 := by
  obtain ⟨ys, n', _, hy, hlen, hyl, hf⟩ := DataW.trod_struct ht h
  refine ⟨hlen, n', fun j f hj => ?_⟩
  have hjl : j < fs.size := (Array.getElem?_eq_some_iff.1 hj).1
  have hys : ys[j]? = some (ys[j]'(by omega)) := List.getElem?_eq_getElem (by omega)
  refine ⟨_, (hf j f hj).trans hys, fun k hk => ?_⟩
  refine hs k ?_
  rw [hy]
  show k ∈ DataW.weights Tryz.prog t (.agg _)
  unfold DataW.weights
  rw [ht]
  refine DataW.weights_mem_each (j := j) (by rw [List.getElem?_map, Array.getElem?_toList, hj]; rfl) (by rw [List.getElem?_map, hys]; rfl) k hk
instance row_inh : Inhabited Row := ⟨⟨0, 0, 0, ⟨0, 0, 0, ⟨#[]⟩, 0, [], ⟨#[]⟩⟩, ⟨#[]⟩⟩⟩
set_option maxRecDepth 100000 in
/-- The cells of a row that came in. -/
theorem rd_row {n : Nat} {cs : List Value} {x : DataW H × List MemPlace} (h : Rd enc W n 46 cs x) (hs : Small 46 x.1) :
    ∃ kd ru rm u md d fl id tx t K kn kc ks, cs = [.int .i64 kd, .int .i64 ru, .int .i64 rm, .int .i64 u, .int .i64 md, .int .i64 d, .string id, .int .i64 fl, .slice K kn kc, .string tx, .string t] ∧ kn ≤ kc ∧ IntsAt W W.heap.size K kn ks ∧ id.size ≤ 140737488355328 ∧ tx.size ≤ 140737488355328 ∧ t.size ≤ 140737488355328 := by
  obtain ⟨hl, n', hf⟩ := parts_of Tryz.underlying46 h hs
  have c1 : Tryz.prog.cellsOf 3 = 1 := by kernel_rfl
  have cS : Tryz.prog.cellsOf 9 = 1 := by kernel_rfl
  have c7 : Tryz.prog.cellsOf 44 = 7 := by kernel_rfl
  rw [show Tryz.prog.cellsOf 46 = 11 by kernel_rfl] at hl
  clear h hs
  match cs, hl, hf with
  | [a0, a1, a2, a3, a4, a5, a6, a7, a8, a9, a10], _, hf =>
    obtain ⟨y0, r0, s0⟩ := hf 0 _ rfl
    obtain ⟨y1, r1, s1⟩ := hf 1 _ rfl
    obtain ⟨y2, r2, s2⟩ := hf 2 _ rfl
    obtain ⟨y3, r3, s3⟩ := hf 3 _ rfl
    obtain ⟨y4, r4, s4⟩ := hf 4 _ rfl
    replace r0 : Rd enc W n' 3 (([a0, a1, a2, a3, a4, a5, a6, a7, a8, a9, a10].drop 0).take (Tryz.prog.cellsOf 3)) y0 := r0
    rw [c1] at r0
    replace s0 : Small 3 y0.1 := s0
    replace r1 : Rd enc W n' 3 (([a0, a1, a2, a3, a4, a5, a6, a7, a8, a9, a10].drop 1).take (Tryz.prog.cellsOf 3)) y1 := r1
    rw [c1] at r1
    replace s1 : Small 3 y1.1 := s1
    replace r2 : Rd enc W n' 3 (([a0, a1, a2, a3, a4, a5, a6, a7, a8, a9, a10].drop 2).take (Tryz.prog.cellsOf 3)) y2 := r2
    rw [c1] at r2
    replace s2 : Small 3 y2.1 := s2
    replace r3 : Rd enc W n' 44 (([a0, a1, a2, a3, a4, a5, a6, a7, a8, a9, a10].drop 3).take (Tryz.prog.cellsOf 44)) y3 := r3
    rw [c7] at r3
    replace s3 : Small 44 y3.1 := s3
    replace r4 : Rd enc W n' 9 (([a0, a1, a2, a3, a4, a5, a6, a7, a8, a9, a10].drop 10).take (Tryz.prog.cellsOf 9)) y4 := r4
    rw [cS] at r4
    replace s4 : Small 9 y4.1 := s4
    obtain ⟨kd, rfl⟩ := rd_int (v := a0) r0
    obtain ⟨ru, rfl⟩ := rd_int (v := a1) r1
    obtain ⟨rm, rfl⟩ := rd_int (v := a2) r2
    obtain ⟨u, md, d, fl, id, tx, K, kn, kc, ks, e, hkc, hks, hid, htx⟩ := rd_msg (cs := [a3, a4, a5, a6, a7, a8, a9]) r3 s3
    obtain ⟨t, rfl, ht⟩ := rd_str (v := a10) r4 s4
    simp only [List.cons.injEq, and_true] at e
    obtain ⟨rfl, rfl, rfl, rfl, rfl, rfl, rfl⟩ := e
    exact ⟨kd, ru, rm, u, md, d, fl, id, tx, t, K, kn, kc, ks, rfl, hkc, hks, hid, htx, ht⟩
set_option maxRecDepth 100000 in
theorem rd_rows {n : Nat} {v : Value} {y : DataW H × List MemPlace} (h : Rd enc W n 32 [v] y) (hs : Small 32 y.1) : ∃ A m c l, v = .slice A m c ∧ m ≤ c ∧ RowsAt W W.heap.size A m l := by
  obtain ⟨A, m, c, l, e, h1, h2⟩ := BxLaw.open_row (C := rowC) (sz := 11) Tryz.underlying32 (by kernel_rfl) (by decide) (by rw [show Tryz.prog.bytesOf 46 = 128 by kernel_rfl]; decide)
    (fun n cs x p hl hc hr hs => by
      obtain ⟨kd, ru, rm, u, md, d, fl, id, tx, t, K, kn, kc, ks, rfl, hkc, hks, hid, htx, ht⟩ := rd_row hr hs
      refine ⟨⟨kd, ru, rm, ⟨u, md, d, id, fl, ks, tx⟩, t⟩, ?_, ?_, ?_, ?_, ?_, ?_, ?_, ?_, ⟨K, kc, ?_, ?_, ?_⟩, ?_, ?_, hid, htx, ht⟩
      · have := hc 0 (by decide); exact this
      · have := hc 1 (by decide); exact this
      · have := hc 2 (by decide); exact this
      · have := hc 3 (by decide); exact this
      · have := hc 4 (by decide); exact this
      · have := hc 5 (by decide); exact this
      · have := hc 6 (by decide); exact this
      · have := hc 7 (by decide); exact this
      · have := hc 8 (by decide); rw [hks.len]; exact this
      · rw [hks.len]; exact hkc
      · rw [hks.len]; exact hks
      · have := hc 9 (by decide); exact this
      · have := hc 10 (by decide); exact this) h hs
  exact ⟨A, m, c, l, by simpa using e, h1, h2⟩
set_option maxRecDepth 100000 in
theorem open_rows {r : Reach} {b0 : Nat} {v : Value} {d : DataW H} {p : List MemPlace} (hv : Value.okWide Tryz.prog W r b0 32 v) (h : DataW.Trod enc Tryz.prog W 0 (fun _ => true) true 32 v d p) (hs : Small 32 d) :
    ∃ A n c l, v = .slice A n c ∧ n ≤ c ∧ RowsAt W W.heap.size A n l := by
  obtain ⟨a, n, c, rfl⟩ := okWide_slice Tryz.underlying32 hv
  obtain ⟨fuel, hf⟩ := h
  obtain ⟨A, m, c', l, e, h1, h2⟩ := rd_rows (v := .slice a n c) hf hs
  exact ⟨A, m, c', l, e, h1, h2⟩
end
end Go.Proofs.YtfhdoecackdflaaGreatDoor.RwLaw
