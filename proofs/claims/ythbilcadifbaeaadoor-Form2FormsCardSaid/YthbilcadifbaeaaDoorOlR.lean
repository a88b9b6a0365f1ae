/-
  The form's reader: numbers, bytes, texts, whatever the bytes are; counts; a message's text.
-/
import Derived.Test.YthbilcadifbaeaaDoorOlB
import Derived.Test.YthbilcadifbaeaaDoorBxC
import Derived.Laws.OwnMore
import Derived.Deep.DeepCutAuto
namespace Go.Proofs.YthbilcadifbaeaaDoor.OlR
open Go.RowKit Go.Proofs.YthbilcadifbaeaaDoor.BxD Go.Proofs.YthbilcadifbaeaaDoor.PkKit Go.Proofs.YthbilcadifbaeaaDoor.PkC Go.Proofs.YthbilcadifbaeaaDoor.PkD Go.Proofs.YthbilcadifbaeaaDoor.PkF Go.Proofs.YthbilcadifbaeaaDoor.PkG Go.Proofs.YthbilcadifbaeaaDoor.OlD

def numS (k : Nat) (s : St) : Nat × St := if s.2.1 ≠ 0 then (0, s) else if s.1.length < k then (0, (s.1, 2, s.2.2)) else (be (s.1.take k), (s.1.drop k, 0, s.2.2))
/-- What reading leaves: the value, the reader, all else as it was. -/
def Rd1 (w : World) (T : Nat) (x : Value) (s : St) (e : Ending) (w' : World) : Prop := e = .returned x ∧ RD w' T s.1 s.2.1 ∧ w.grownBy w' (some T)
theorem numk_all {w : World} {T k : Nat} {s : St} (h : RD w T s.1 s.2.1) (hk4 : k ≤ 4) : Calls Tryd.prog 155 #[ptr T, .int .i64 (k : Nat)] w (Rd1 w T (.int .i64 ((numS k s).1 : Nat)) (numS k s).2) := by
  obtain ⟨l, er, ov⟩ := s
  unfold numS
  by_cases h0 : er = 0
  · subst h0
    rw [if_neg (by simp)]
    by_cases hl : l.length < k
    · rw [if_pos hl]
      refine (numk_short h hl).mono ?_
      rintro e w' ⟨rfl, h1, h2⟩
      exact ⟨rfl, h1, h2⟩
    · rw [if_neg hl]
      refine (numk_any h (Nat.le_of_not_lt hl) hk4).mono ?_
      rintro e w' ⟨rfl, h1, h2⟩
      exact ⟨rfl, h1, h2⟩
  · rw [if_pos h0]
    refine (numk_bad h h0 _).mono ?_
    rintro e w' ⟨rfl, rfl⟩
    exact ⟨rfl, h, World.grownBy.refl _ _⟩
set_option maxRecDepth 100000 in
theorem fixed_all {w : World} {T : Nat} {s : St} (h : RD w T s.1 s.2.1) : Calls Tryd.prog 138 #[ptr T] w (Rd1 w T (.int .i64 ((fixS s).1 : Nat)) (fixS s).2) := by
  have HT := Lib.hid (numk_all (k := 4) h (Nat.le_refl _))
  clear h
  go_enter Tryd.func138, Tryd.ntmps138
  go_wp2_with fail
  refine HT.out.mono ?_
  rintro e w1 ⟨rfl, hr⟩
  go_wp2_with fail
  go_ret
  exact ⟨rfl, hr⟩
set_option maxRecDepth 100000 in
theorem byte_all {w : World} {T : Nat} {s : St} (h : RD w T s.1 s.2.1) : Calls Tryd.prog 158 #[ptr T] w (Rd1 w T (.int .i64 ((byteS s).1 : Nat)) (byteS s).2) := by
  have HT := Lib.hid (numk_all (k := 1) h (by decide))
  clear h
  go_enter Tryd.func158, Tryd.ntmps158
  go_wp2_with fail
  refine HT.out.mono ?_
  rintro e w1 ⟨rfl, hr⟩
  go_wp2_with fail
  go_ret
  exact ⟨rfl, hr⟩
theorem text_all {w : World} {T : Nat} {s : St} (h : RD w T s.1 s.2.1) (m : Int) : Calls Tryd.prog 141 #[ptr T, .int .i64 m] w (Rd1 w T (.string (txtS m s).1) (txtS m s).2) := by
  obtain ⟨l, er, ov⟩ := s
  unfold txtS
  by_cases h0 : er = 0
  · subst h0
    rw [if_neg (by simp)]
    refine (text_any h m).mono ?_
    rintro e w' ⟨rfl, h1, h2⟩
    exact ⟨rfl, h1, h2⟩
  · rw [if_pos h0]
    refine (text_bad h h0 m).mono ?_
    rintro e w' ⟨rfl, rfl⟩
    exact ⟨rfl, h, World.grownBy.refl _ _⟩
theorem fix_lt (s : St) : (fixS s).1 < 4294967296 := by
  unfold fixS
  split
  · show 0 < _; decide
  · split
    · show 0 < _; decide
    · rename_i h1 h2
      have := be_lt 4 (s.1.take 4) (by rw [List.length_take]; omega)
      simpa using this
theorem byte_lt (s : St) : (byteS s).1 < 256 := by
  unfold byteS
  split
  · show 0 < _; decide
  · split
    · show 0 < _; decide
    · rename_i h1 h2
      have := be_lt 1 (s.1.take 1) (by rw [List.length_take]; omega)
      simpa using this
theorem fix_ov (s : St) : (fixS s).2.2.2 = s.2.2 := by unfold fixS; split; · rfl
                                                       · split <;> rfl
theorem byte_ov (s : St) : (byteS s).2.2.2 = s.2.2 := by unfold byteS; split; · rfl
                                                         · split <;> rfl
theorem txt_ov (m : Int) (s : St) : (txtS m s).2.2.2 = s.2.2 := by unfold txtS; split <;> rfl
theorem cnt_le (m : Nat) (s : St) : (cntS m s).1 ≤ m := by
  unfold cntS
  split
  · exact Nat.zero_le _
  · omega

/-- Nothing but two blocks has turned, and what is new. -/
structure Fr2 (R T : Nat) (w w' : World) : Prop where
  os : w'.os = w.os
  tape : w'.tape = w.tape
  output : w'.output = w.output
  size : w.heap.size ≤ w'.heap.size
  block : ∀ k, k < w.heap.size → k ≠ R → k ≠ T → w'.heap[k]? = w.heap[k]?
section
variable {R T : Nat} {w w' w2 : World}
theorem Fr2.refl (R T : Nat) (w : World) : Fr2 R T w w := ⟨rfl, rfl, rfl, Nat.le_refl _, fun _ _ _ _ => rfl⟩
theorem Fr2.trans (h : Fr2 R T w w') (k : Fr2 R T w' w2) : Fr2 R T w w2 :=
  ⟨k.os.trans h.os, k.tape.trans h.tape, k.output.trans h.output, Nat.le_trans h.size k.size, fun i hi h1 h2 => (k.block i (Nat.lt_of_lt_of_le hi h.size) h1 h2).trans (h.block i hi h1 h2)⟩
theorem Fr2.grown (h : w.grownBy w' (some T)) (R : Nat) : Fr2 R T w w' := ⟨h.os, h.tape, h.output, h.size, fun k hk _ h2 => h.block k hk (fun e => h2 (Option.some.inj e))⟩
theorem Fr2.below (h : Below w.heap.size w w') (R T : Nat) : Fr2 R T w w' := ⟨h.os, h.tape, h.output, h.size, fun k hk _ _ => h.block k hk⟩
theorem Fr2.alloc (h : Fr2 R T w w') (o : Obj) : Fr2 R T w (w'.alloc o) := h.trans (Fr2.below ((Below.refl _ _).alloc (Nat.le_refl _) o) R T)
theorem Fr2.drew (h : Fr2 R T w w') : Fr2 R T w w'.drew := h.trans (Fr2.below ((Below.refl _ _).drew) R T)
/-- A store into a new block. -/
theorem Fr2.set (h : Fr2 R T w w') {P i : Nat} (hP : w.heap.size ≤ P) (v : Value) : Fr2 R T w (w'.setCell ⟨P, i, none⟩ v) :=
  ⟨h.os, h.tape, h.output, by have := h.size; simpa [World.setCell] using this, fun k hk h1 h2 => (Below.heap_setCell _ _ _ _ (by show k ≠ P; omega)).trans (h.block k hk h1 h2)⟩
theorem Fr2.setR (h : Fr2 R T w w') (i : Nat) (v : Value) : Fr2 R T w (w'.setCell ⟨R, i, none⟩ v) :=
  ⟨h.os, h.tape, h.output, by have := h.size; simpa [World.setCell] using this, fun k hk h1 h2 => (Below.heap_setCell _ _ _ _ (by show k ≠ R; exact h1)).trans (h.block k hk h1 h2)⟩
theorem Fr2.to (h : Fr2 R T w w') {base : Nat} (hb : base ≤ w.heap.size) (hR : base ≤ R) (hT : base ≤ T) : Below base w w' := ⟨h.os, h.tape, h.output, h.size, fun k hk => h.block k (by omega) (by omega) (by omega)⟩
end
/-- The mark as a text. -/
def mkB (cg : Bool) : ByteArray := ⟨(mk cg).toArray⟩
/-- The form's reader in its block, the bytes' reader in another. -/
structure FRd (cg : Bool) (w : World) (R T : Nat) (s : St) : Prop where
  blk : w.heap[R]? = some (.cells #[ptr T, .string (mkB cg), .bool cg, .bool s.2.2] 122 (0, 0))
  rd : RD w T s.1 s.2.1
  ne : R ≠ T
section
variable {cg : Bool}
section
variable {R T : Nat} {w w' w2 : World} {s s' : St}
theorem FRd.lt (h : FRd cg w R T s) : R < w.heap.size := (Array.getElem?_eq_some_iff.1 h.blk).1
theorem FRd.cells (h : FRd cg w R T s) : w.cell? { block := R, off := 0 } = some (ptr T) ∧ w.cell? { block := R, off := 3 } = some (.bool s.2.2) ∧ w.frozen? { block := R, off := 3 } = false := by
  refine ⟨?_, ?_, ?_⟩
  · rw [cell_of_row w R 0 _ _ _ h.blk]; rfl
  · rw [cell_of_row w R 3 _ _ _ h.blk]; rfl
  · simp [World.frozen?, h.blk]
theorem FRd.says (h : FRd cg w R T s) : w.cell? { block := R, off := 2 } = some (.bool cg) := by
  rw [cell_of_row w R 2 _ _ _ h.blk]; rfl
theorem FRd.go (h : FRd cg w R T s) (hb : Below w.heap.size w w') : FRd cg w' R T s := ⟨(hb.block R h.lt).trans h.blk, h.rd.below hb h.rd.lt, h.ne⟩
theorem FRd.alloc (h : FRd cg w R T s) (o : Obj) : FRd cg (w.alloc o) R T s := h.go ((Below.refl _ _).alloc (Nat.le_refl _) o)
theorem FRd.drew (h : FRd cg w R T s) : FRd cg w.drew R T s := h.go ((Below.refl _ _).drew)
/-- A call of the bytes' reader. -/
theorem FRd.step (h : FRd cg w R T s) (hr : RD w' T s'.1 s'.2.1) (hg : w.grownBy w' (some T)) (ho : s'.2.2 = s.2.2) : FRd cg w' R T s' :=
  ⟨by rw [ho]; exact (hg.block R h.lt (fun e => h.ne (Option.some.inj e))).trans h.blk, hr, h.ne⟩
/-- A store elsewhere. -/
theorem FRd.set (h : FRd cg w R T s) {P i : Nat} (h1 : P ≠ R) (h2 : T < P) (v : Value) : FRd cg (w.setCell ⟨P, i, none⟩ v) R T s := by
  refine ⟨(Below.heap_setCell _ _ _ _ (by show R ≠ P; exact h1.symm)).trans h.blk, ?_, h.ne⟩
  exact h.rd.below (B := T + 1) ((Below.refl _ _).setCell (by show T + 1 ≤ P; omega) _) (Nat.lt_succ_self _)
end
/-- The reader's bytes do not lie in a block whose cells are no bytes. -/
theorem rd_stay {w w' : World} {R T er : Nat} {l : List UInt8} {cur : Array Value} {ty : TypeId} {fz : Nat × Nat} (h : RD w T l er) (hb : w.heap[R]? = some (.cells cur ty fz)) (hnb : ∀ (k : Nat) (c : Int), cur[k]? ≠ some (.int .u8 c)) (hne : R ≠ T) (hk : ∀ k, k ≠ R → w'.heap[k]? = w.heap[k]?) : RD w' T l er := by
  obtain ⟨A, n, cp, hh, hz, hc, hn⟩ := h
  refine ⟨A, n, cp, (hk T (fun e => hne e.symm)).trans hh, ⟨hz.1, fun h0 => ?_⟩, hc, hn⟩
  obtain ⟨ad, e, hlt, hcell⟩ := hz.2 h0
  have hadR : ad.block ≠ R := fun e2 => by
    have hl0 : 0 < l.length := by rw [hz.1]; exact h0
    have h1 := hcell 0 _ (List.getElem?_eq_getElem hl0)
    have hbk : (ad.add 0).block = R := by rw [add_block]; exact e2
    unfold World.cell? at h1
    rw [hbk, hb] at h1
    simp only at h1
    split at h1
    · cases h1
    · exact hnb _ _ h1
  refine ⟨ad, e, hlt, fun j c hj => (World.cell?_of_block ?_).trans (hcell j c hj)⟩
  exact hk _ (by rw [add_block]; exact hadR)
theorem no_bytes {p : Option Addr} {M : ByteArray} {c o : Bool} (k : Nat) (x : Int) : (#[.pointer p, .string M, .bool c, .bool o] : Array Value)[k]? ≠ some (.int .u8 x) := by
  match k with
  | 0 => simp
  | 1 => simp
  | 2 => simp
  | 3 => simp
  | k + 4 => simp
theorem rd_around {w : World} {R T er : Nat} {l : List UInt8} {M : ByteArray} {c o : Bool} (h : RD w T l er) (hb : w.heap[R]? = some (.cells #[ptr T, .string M, .bool c, .bool o] 122 (0, 0))) (hne : R ≠ T) (v : Value) : RD (w.setCell ⟨R, 3, none⟩ v) T l er :=
  rd_stay h hb no_bytes hne fun k hk => Below.heap_setCell _ _ _ _ hk
theorem over_set {w : World} {R T : Nat} {l : List UInt8} {er : Nat} {ov : Bool} (h : FRd cg w R T (l, er, ov)) : FRd cg (w.setCell ⟨R, 3, none⟩ (.bool true)) R T (l, er, true) := by
  refine ⟨?_, rd_around h.rd h.blk h.ne _, h.ne⟩
  have := h.blk
  simp [World.setCell, Array.getElem?_modify, this]
/-- What a call of the form's reader leaves. -/
def Rd2 (cg : Bool) (w : World) (R T : Nat) (x : Value) (s : St) (e : Ending) (w' : World) : Prop := e = .returned x ∧ FRd cg w' R T s ∧ Fr2 R T w w'
set_option maxHeartbeats 1000000 in
set_option maxRecDepth 100000 in
theorem count_any {w : World} {R T : Nat} {s : St} (h : FRd cg w R T s) (m : Nat) : Calls Tryd.prog 140 #[ptr R, .int .i64 (m : Nat)] w (Rd2 cg w R T (.int .i64 ((cntS m s).1 : Nat)) (cntS m s).2) := by
  obtain ⟨c0, c1, f1⟩ := h.cells
  have KF := Lib.hid (fixed_all h.rd)
  obtain ⟨x, hx⟩ : ∃ x, x = (fixS s).1 := ⟨_, rfl⟩
  rw [← hx] at KF
  have H := Lib.hid h
  have HX := Lib.hid hx
  clear h hx
  by_cases hlt : m < x
  · have hc : cntS m s = (0, ((fixS s).2.1, (fixS s).2.2.1, true)) := by unfold cntS; rw [if_pos (by rw [← HX.out]; exact hlt)]
    rw [hc]
    go_enter Tryd.func140, Tryd.ntmps140
    go_upto_region 2 with (go_at_call 138; go_loud (
       refine KF.out.mono ?_
       rintro e w1 ⟨rfl, hr, hg⟩
       have H1 := Lib.hid (H.out.step hr hg (fix_ov s))
       have HG := Lib.hid hg
       clear hr hg c0 c1 f1))
    obtain ⟨c0, c1, f1⟩ := H1.out.cells
    go_wp2_with fail
    go_ret
    exact ⟨rfl, over_set H1.out, (Fr2.grown HG.out R).setR 3 _⟩
  · have hc : cntS m s = fixS s := by unfold cntS; rw [if_neg (by rw [← HX.out]; exact hlt)]
    rw [hc]
    go_enter Tryd.func140, Tryd.ntmps140
    go_upto_region 2 with (go_at_call 138; go_loud (
       refine KF.out.mono ?_
       rintro e w1 ⟨rfl, hr, hg⟩
       have H1 := Lib.hid (H.out.step hr hg (fix_ov s))
       have HG := Lib.hid hg
       clear hr hg c0 c1 f1))
    obtain ⟨c0, c1, f1⟩ := H1.out.cells
    go_wp2_with fail
    go_ret
    exact ⟨congrArg (fun n : Nat => Ending.returned (.int .i64 (n : Int))) HX.out, H1.out, Fr2.grown HG.out R⟩
theorem ch_ov (cg : Bool) (s : St) : (chS cg s).2.2.2 = s.2.2 := by
  cases cg
  · rfl
  · exact fix_ov s
theorem ch_lt (cg : Bool) (s : St) : (chS cg s).1 < 4294967296 := by
  cases cg
  · show 1 < 4294967296; decide
  · exact fix_lt s
set_option maxHeartbeats 1000000 in
set_option maxRecDepth 100000 in
theorem change_any {w : World} {R T : Nat} {s : St} (h : FRd cg w R T s) : Calls Tryd.prog 139 #[ptr R] w (Rd2 cg w R T (.int .i64 ((chS cg s).1 : Nat)) (chS cg s).2) := by
  obtain ⟨c0, c1, f1⟩ := h.cells
  have c2 := h.says
  have KF := Lib.hid (fixed_all h.rd)
  have H := Lib.hid h
  clear h
  cases cg with
  | false =>
    go_enter Tryd.func139, Tryd.ntmps139
    go_wp2_with fail
    go_ret
    exact ⟨rfl, H.out, Fr2.refl _ _ _⟩
  | true =>
    show Calls _ _ _ _ (Rd2 true w R T (.int .i64 ((fixS s).1 : Nat)) (fixS s).2)
    obtain ⟨x, hx⟩ : ∃ x, x = (fixS s).1 := ⟨_, rfl⟩
    rw [← hx] at KF ⊢
    clear hx
    go_enter Tryd.func139, Tryd.ntmps139
    go_wp2_with (go_at_call 138; go_loud (
       refine KF.out.mono ?_
       rintro e w1 ⟨rfl, hr, hg⟩
       have H1 := Lib.hid (H.out.step hr hg (fix_ov s))
       have HG := Lib.hid hg
       clear hr hg c0 c1 f1 c2))
    go_ret
    exact ⟨rfl, H1.out, Fr2.grown HG.out R⟩
end
end Go.Proofs.YthbilcadifbaeaaDoor.OlR
