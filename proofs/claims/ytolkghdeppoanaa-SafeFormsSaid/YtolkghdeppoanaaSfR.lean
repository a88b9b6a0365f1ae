/-
  The reader of package parts: numbers and texts, whatever the bytes are; what is too great is refused.
-/
import Derived.Test.YtolkghdeppoanaaSfA
import Derived.Test.YtolkghdeppoanaaJ1
set_option linter.unusedVariables false
set_option linter.unusedSimpArgs false
namespace Go.Proofs.Ytolkghdeppoanaa.SfR
open Go.RowKit Go.Proofs.Ytolkghdeppoanaa.BxD Go.Proofs.Ytolkghdeppoanaa.PkKit Go.Proofs.Ytolkghdeppoanaa.PkD Go.Proofs.Ytolkghdeppoanaa.PkF Go.Proofs.Ytolkghdeppoanaa.SfB Go.Proofs.Ytolkghdeppoanaa.SfA

/-- What reading leaves: the value, the reader, all else as it was. -/
def Rd1 (w : World) (T : Nat) (x : Value) (s : Sr) (e : Ending) (w' : World) : Prop := e = .returned x ∧ RD w' T s.1 s.2.1 ∧ w.grownBy w' (some T)
theorem text_all {w : World} {T : Nat} {s : Sr} (h : RD w T s.1 s.2.1) (m : Int) : Calls Try.prog 55 #[ptr T, .int .i64 m] w (Rd1 w T (.string (txtS m s).1) (txtS m s).2) := by
  obtain ⟨l, er, ov⟩ := s
  unfold txtS
  by_cases h0 : er = 0
  · subst h0
    rw [if_neg (by simp)]
    refine (text_any h m).mono ?_
    rintro e w' ⟨rfl, h1, h2⟩
    exact ⟨rfl, h1, h2⟩
  · rw [if_pos h0]
    refine (text_bad h h0 m).mono ?_
    rintro e w' ⟨rfl, rfl⟩
    exact ⟨rfl, h, World.grownBy.refl _ _⟩
theorem txt_ov (m : Int) (s : Sr) : (txtS m s).2.2.2 = s.2.2 := by unfold txtS; split <;> rfl
/-- Nothing but two blocks has turned, and what is new. -/
structure Fr2 (R T : Nat) (w w' : World) : Prop where
  os : w'.os = w.os
  tape : w'.tape = w.tape
  output : w'.output = w.output
  size : w.heap.size ≤ w'.heap.size
  block : ∀ k, k < w.heap.size → k ≠ R → k ≠ T → w'.heap[k]? = w.heap[k]?
section
variable {R T : Nat} {w w' w2 : World}
theorem Fr2.refl (R T : Nat) (w : World) : Fr2 R T w w := ⟨rfl, rfl, rfl, Nat.le_refl _, fun _ _ _ _ => rfl⟩
theorem Fr2.trans (h : Fr2 R T w w') (k : Fr2 R T w' w2) : Fr2 R T w w2 :=
  ⟨k.os.trans h.os, k.tape.trans h.tape, k.output.trans h.output, Nat.le_trans h.size k.size, fun i hi h1 h2 => (k.block i (Nat.lt_of_lt_of_le hi h.size) h1 h2).trans (h.block i hi h1 h2)⟩
theorem Fr2.grown (h : w.grownBy w' (some T)) (R : Nat) : Fr2 R T w w' := ⟨h.os, h.tape, h.output, h.size, fun k hk _ h2 => h.block k hk (fun e => h2 (Option.some.inj e))⟩
theorem Fr2.below (h : Below w.heap.size w w') (R T : Nat) : Fr2 R T w w' := ⟨h.os, h.tape, h.output, h.size, fun k hk _ _ => h.block k hk⟩
theorem Fr2.alloc (h : Fr2 R T w w') (o : Obj) : Fr2 R T w (w'.alloc o) := h.trans (Fr2.below ((Below.refl _ _).alloc (Nat.le_refl _) o) R T)
theorem Fr2.drew (h : Fr2 R T w w') : Fr2 R T w w'.drew := h.trans (Fr2.below ((Below.refl _ _).drew) R T)
/-- A store into a new block. -/
theorem Fr2.set (h : Fr2 R T w w') {P i : Nat} (hP : w.heap.size ≤ P) (v : Value) : Fr2 R T w (w'.setCell ⟨P, i, none⟩ v) :=
  ⟨h.os, h.tape, h.output, by have := h.size; simpa [World.setCell] using this, fun k hk h1 h2 => (Below.heap_setCell _ _ _ _ (by show k ≠ P; omega)).trans (h.block k hk h1 h2)⟩
theorem Fr2.setR (h : Fr2 R T w w') (i : Nat) (v : Value) : Fr2 R T w (w'.setCell ⟨R, i, none⟩ v) :=
  ⟨h.os, h.tape, h.output, by have := h.size; simpa [World.setCell] using this, fun k hk h1 h2 => (Below.heap_setCell _ _ _ _ (by show k ≠ R; exact h1)).trans (h.block k hk h1 h2)⟩
theorem Fr2.to (h : Fr2 R T w w') {base : Nat} (hb : base ≤ w.heap.size) (hR : base ≤ R) (hT : base ≤ T) : Below base w w' := ⟨h.os, h.tape, h.output, h.size, fun k hk => h.block k (by omega) (by omega) (by omega)⟩
end
/-- The reader's bytes do not lie in a block whose cells are no bytes. -/
theorem rd_stay {w w' : World} {R T er : Nat} {l : List UInt8} {cur : Array Value} {ty : TypeId} {fz : Nat × Nat} (h : RD w T l er) (hb : w.heap[R]? = some (.cells cur ty fz)) (hnb : ∀ (k : Nat) (c : Int), cur[k]? ≠ some (.int .u8 c)) (hne : R ≠ T) (hk : ∀ k, k ≠ R → w'.heap[k]? = w.heap[k]?) : RD w' T l er := by
  obtain ⟨A, n, cp, hh, hz, hc, hn⟩ := h
  refine ⟨A, n, cp, (hk T (fun e => hne e.symm)).trans hh, ⟨hz.1, fun h0 => ?_⟩, hc, hn⟩
  obtain ⟨ad, e, hlt, hcell⟩ := hz.2 h0
  have hadR : ad.block ≠ R := fun e2 => by
    have hl0 : 0 < l.length := by rw [hz.1]; exact h0
    have h1 := hcell 0 _ (List.getElem?_eq_getElem hl0)
    have hbk : (ad.add 0).block = R := by rw [add_block]; exact e2
    unfold World.cell? at h1
    rw [hbk, hb] at h1
    simp only at h1
    split at h1
    · cases h1
    · exact hnb _ _ h1
  refine ⟨ad, e, hlt, fun j c hj => (World.cell?_of_block ?_).trans (hcell j c hj)⟩
  exact hk _ (by rw [add_block]; exact hadR)
/-- The reader in its block, the bytes' reader in another. -/
structure PRd (w : World) (R T : Nat) (s : Sr) : Prop where
  blk : w.heap[R]? = some (.cells #[ptr T, .bool s.2.2] 63 (0, 0))
  rd : RD w T s.1 s.2.1
  ne : R ≠ T
theorem no_bytes {p : Option Addr} {o : Bool} (k : Nat) (x : Int) : (#[.pointer p, .bool o] : Array Value)[k]? ≠ some (.int .u8 x) := by
  match k with
  | 0 => simp
  | 1 => simp
  | k + 2 => simp
section
variable {R T : Nat} {w w' w2 : World} {s s' : Sr}
theorem PRd.lt (h : PRd w R T s) : R < w.heap.size := (Array.getElem?_eq_some_iff.1 h.blk).1
theorem PRd.cells (h : PRd w R T s) : w.cell? { block := R, off := 0 } = some (ptr T) ∧ w.cell? { block := R, off := 1 } = some (.bool s.2.2) ∧ w.frozen? { block := R, off := 1 } = false := by
  refine ⟨?_, ?_, ?_⟩
  · rw [cell_of_row w R 0 _ _ _ h.blk]; rfl
  · rw [cell_of_row w R 1 _ _ _ h.blk]; rfl
  · simp [World.frozen?, h.blk]
theorem PRd.go (h : PRd w R T s) (hb : Below w.heap.size w w') : PRd w' R T s := ⟨(hb.block R h.lt).trans h.blk, h.rd.below hb h.rd.lt, h.ne⟩
theorem PRd.alloc (h : PRd w R T s) (o : Obj) : PRd (w.alloc o) R T s := h.go ((Below.refl _ _).alloc (Nat.le_refl _) o)
theorem PRd.drew (h : PRd w R T s) : PRd w.drew R T s := h.go ((Below.refl _ _).drew)
/-- A call of the bytes' reader. -/
theorem PRd.step (h : PRd w R T s) (hr : RD w' T s'.1 s'.2.1) (hg : w.grownBy w' (some T)) (ho : s'.2.2 = s.2.2) : PRd w' R T s' :=
  ⟨by rw [ho]; exact (hg.block R h.lt (fun e => h.ne (Option.some.inj e))).trans h.blk, hr, h.ne⟩
/-- A store elsewhere. -/
theorem PRd.set (h : PRd w R T s) {P i : Nat} (h1 : P ≠ R) (h2 : T < P) (v : Value) : PRd (w.setCell ⟨P, i, none⟩ v) R T s := by
  refine ⟨(Below.heap_setCell _ _ _ _ (by show R ≠ P; exact h1.symm)).trans h.blk, ?_, h.ne⟩
  exact h.rd.below (B := T + 1) ((Below.refl _ _).setCell (by show T + 1 ≤ P; omega) _) (Nat.lt_succ_self _)
/-- Refused. -/
theorem PRd.over {l : List UInt8} {er : Nat} {ov : Bool} (h : PRd w R T (l, er, ov)) : PRd (w.setCell ⟨R, 1, none⟩ (.bool true)) R T (l, er, true) := by
  refine ⟨?_, rd_stay h.rd h.blk no_bytes h.ne fun k hk => Below.heap_setCell _ _ _ _ hk, h.ne⟩
  have := h.blk
  simp [World.setCell, Array.getElem?_modify, this]

end
/-- What a call of the reader leaves. -/
def Pq (w : World) (R T : Nat) (x : Value) (s : Sr) (e : Ending) (w' : World) : Prop := e = .returned x ∧ PRd w' R T s ∧ Fr2 R T w w'
set_option maxHeartbeats 1000000 in
set_option maxRecDepth 100000 in
theorem err_p {w : World} {R T : Nat} {s : Sr} (h : PRd w R T s) : Calls Try.prog 32 #[ptr R] w fun e w' => e = .returned (.int .i64 (firstS s : Nat)) ∧ w = w' := by
  obtain ⟨l, er, ov⟩ := s
  obtain ⟨c0, c1, f1⟩ := h.cells
  have K := Lib.hid (err_any h.rd)
  clear h
  cases ov with
  | true =>
    go_enter Try.func32, Try.ntmps32
    go_wp2_with fail
    go_ret
    exact ⟨rfl, rfl⟩
  | false =>
    go_enter Try.func32, Try.ntmps32
    go_wp2_with (go_at_call 56; go_loud (
       refine K.out.mono ?_
       rintro e w1 ⟨rfl, rfl⟩))
    go_ret
    exact ⟨rfl, rfl⟩
def rfS (s : Sr) : Sr := if firstS s = 0 then (s.1, s.2.1, true) else s
set_option maxHeartbeats 1000000 in
set_option maxRecDepth 100000 in
theorem refuse_p {w : World} {R T : Nat} {s : Sr} (h : PRd w R T s) : Calls Try.prog 86 #[ptr R] w (Pq w R T (.tuple #[]) (rfS s)) := by
  obtain ⟨c0, c1, f1⟩ := h.cells
  have K := Lib.hid (err_p h)
  have H := Lib.hid h
  unfold rfS
  clear h
  obtain ⟨fs, hfs⟩ : ∃ fs, fs = firstS s := ⟨_, rfl⟩
  rw [← hfs] at K ⊢
  clear hfs
  by_cases h0 : fs = 0
  · subst h0
    rw [if_pos rfl]
    go_enter Try.func86, Try.ntmps86
    go_wp2_with (go_at_call 32; go_loud (
       refine K.out.mono ?_
       rintro e w1 ⟨rfl, rfl⟩))
    go_end0
    exact ⟨rfl, PRd.over H.out, (Fr2.refl _ _ _).setR 1 _⟩
  · rw [if_neg h0]
    have h1 := ne_int h0
    have h2 : ((fs : Int) == 0) = false := by simpa using h0
    go_enter Try.func86, Try.ntmps86
    go_wp2_with (go_at_call 32; go_loud (
       refine K.out.mono ?_
       rintro e w1 ⟨rfl, rfl⟩))
    go_end0
    exact ⟨rfl, H.out, Fr2.refl _ _ _⟩
theorem rf_true {s : Sr} (h : s.2.1 = 0) : rfS s = (s.1, s.2.1, true) := by
  obtain ⟨l, er, ov⟩ := s
  simp only at h
  subst h
  unfold rfS firstS
  cases ov <;> simp
set_option maxHeartbeats 1000000 in
set_option maxRecDepth 100000 in
theorem upto_p {w : World} {R T m n : Nat} {s : Sr} (h : PRd w R T s) (he : s.2.1 = 0 ∨ n ≤ m) : Calls Try.prog 73 #[ptr R, .int .i64 (m : Nat), .int .i64 (n : Nat)] w (Pq w R T (.int .i64 ((if m < n then 0 else n : Nat) : Int)) (if m < n then (s.1, s.2.1, true) else s)) := by
  have K := Lib.hid (refuse_p h)
  have H := Lib.hid h
  clear h
  by_cases hmn : m < n
  · have K2 := K.out
    rw [rf_true (by omega)] at K2
    have K2 := Lib.hid K2
    have hmn2 : (m : Int) < (n : Int) := by omega
    rw [if_pos hmn, if_pos hmn]
    clear K
    go_enter Try.func73, Try.ntmps73
    go_wp2_with (go_at_call 86; go_loud (
       refine K2.out.mono ?_
       rintro e w1 ⟨rfl, h1, f1⟩
       have H1 := Lib.hid h1
       have F1 := Lib.hid f1
       clear h1 f1))
    go_ret
    exact ⟨rfl, H1.out, F1.out⟩
  · have hmn2 : ¬ (m : Int) < (n : Int) := by omega
    rw [if_neg hmn, if_neg hmn]
    clear K
    go_enter Try.func73, Try.ntmps73
    go_wp2_with fail
    go_ret
    exact ⟨rfl, H.out, Fr2.refl _ _ _⟩
theorem numv_all {w : World} {T : Nat} {s : Sr} (h : RD w T s.1 s.2.1) : Calls Try.prog 74 #[ptr T] w (Rd1 w T (.int .i64 ((numV s).1 : Nat)) (numV s).2) := by
  obtain ⟨l, er, ov⟩ := s
  unfold numV
  by_cases h0 : er = 0
  · subst h0
    rw [if_neg (by simp)]
    refine (num_any h).mono ?_
    rintro e w' ⟨rfl, h1, h2⟩
    exact ⟨rfl, h1, h2⟩
  · rw [if_pos h0]
    refine (num_bad h h0).mono ?_
    rintro e w' ⟨rfl, rfl⟩
    exact ⟨rfl, h, World.grownBy.refl _ _⟩
theorem numv_ov (s : Sr) : (numV s).2.2.2 = s.2.2 := by unfold numV; split <;> rfl
theorem numv_er (s : Sr) : (numV s).2.2.1 = 0 ∨ (numV s).1 = 0 := by
  unfold numV
  split
  · exact .inr rfl
  · by_cases hp : (ps s.1).2.2 = 0
    · exact .inl hp
    · rcases ps_err hp with e | e <;> exact .inr (by rw [e])
theorem nt_eq (m : Nat) (s : Sr) : ntS m s = (if m < (numV s).1 then 0 else (numV s).1, if m < (numV s).1 then ((numV s).2.1, (numV s).2.2.1, true) else (numV s).2) := by
  unfold ntS
  split <;> rfl
set_option maxHeartbeats 1000000 in
set_option maxRecDepth 100000 in
theorem number_p {w : World} {R T : Nat} {s : Sr} (h : PRd w R T s) (m : Nat) : Calls Try.prog 54 #[ptr R, .int .i64 (m : Nat)] w (Pq w R T (.int .i64 ((ntS m s).1 : Nat)) (ntS m s).2) := by
  obtain ⟨c0, c1, f1⟩ := h.cells
  have KF := Lib.hid (numv_all h.rd)
  have H := Lib.hid h
  have hov := numv_ov s
  have her := numv_er s
  rw [nt_eq]
  obtain ⟨x, hx⟩ : ∃ x, x = (numV s).1 := ⟨_, rfl⟩
  obtain ⟨s', hs'⟩ : ∃ s', s' = (numV s).2 := ⟨_, rfl⟩
  rw [← hx, ← hs'] at KF
  rw [← hs'] at hov
  rw [← hx, ← hs'] at her
  rw [← hx, ← hs']
  have HOV := Lib.hid hov
  have HER := Lib.hid (show s'.2.1 = 0 ∨ x ≤ m by omega)
  obtain ⟨y, hy⟩ : ∃ y, y = if m < x then 0 else x := ⟨_, rfl⟩
  obtain ⟨s2, hs2⟩ : ∃ s2, s2 = if m < x then (s'.1, s'.2.1, true) else s' := ⟨_, rfl⟩
  rw [← hy, ← hs2]
  have HY := Lib.hid hy
  have HS := Lib.hid hs2
  clear h hx hs' hov her hy hs2
  go_enter Try.func54, Try.ntmps54
  go_wp2_with (first
    | (go_at_call 74; go_loud (
       refine KF.out.mono ?_
       rintro e w1 ⟨rfl, hr, hg⟩
       have H1 := Lib.hid (H.out.step hr hg HOV.out)
       have HG := Lib.hid hg
       have ku := upto_p (n := x) (m := m) H1.out HER.out
       rw [← HY.out, ← HS.out] at ku
       have KU := Lib.hid ku
       clear hr hg c0 c1 f1 ku))
    | (go_at_call 73; go_loud (
       refine KU.out.mono ?_
       rintro e w2 ⟨rfl, h2, f2⟩
       have H2 := Lib.hid h2
       have F2 := Lib.hid ((Fr2.grown HG.out R).trans f2)
       clear h2 f2)))
  go_ret
  exact ⟨rfl, H2.out, F2.out⟩
/-- A text read: the bytes' reader does it. -/
theorem text_p {w : World} {R T : Nat} {s : Sr} (h : PRd w R T s) (m : Int) : Calls Try.prog 55 #[ptr T, .int .i64 m] w (Pq w R T (.string (txtS m s).1) (txtS m s).2) := by
  refine (text_all h.rd m).mono ?_
  rintro e w' ⟨rfl, hr, hg⟩
  exact ⟨rfl, h.step hr hg (txt_ov m s), Fr2.grown hg R⟩
theorem left_p {w : World} {R T : Nat} {s : Sr} (h : PRd w R T s) : Calls Try.prog 30 #[ptr T] w fun e w' => e = .returned (.int .i64 (s.1.length : Nat)) ∧ w = w' := left_any h.rd
/-- A new reader. -/
def NewQ (w : World) (l : List UInt8) (e : Ending) (w' : World) : Prop := ∃ R T, e = .returned (ptr R) ∧ w.heap.size ≤ R ∧ w.heap.size ≤ T ∧ PRd w' R T (l, 0, false) ∧ Below w.heap.size w w'
set_option maxHeartbeats 1000000 in
set_option maxRecDepth 100000 in
theorem new_p {w : World} {B n cp : Nat} {A : Option Addr} {l : List UInt8} (h : BytesAt w B A n l) (hB : B ≤ w.heap.size) (hn : n ≤ 140737488355328) : Calls Try.prog 29 #[.slice A n cp] w (NewQ w l) := by
  have KN := Lib.hid (new_any (cp := cp) h hB hn)
  clear h
  go_enter Try.func29, Try.ntmps29
  go_wp2_with (go_at_call 53; go_loud (
     refine KN.out.mono ?_
     rintro e w1 ⟨T, rfl, hT, hrd, hb⟩
     have HR := Lib.hid hrd
     have HB := Lib.hid hb
     clear hrd hb))
  go_ret
  have hs := HB.out.size
  have hTl := HR.out.lt
  refine ⟨w1.heap.size, T, rfl, by omega, hT, ⟨heap_alloc_new w1 _, HR.out.below ((Below.refl w1.heap.size w1).alloc (Nat.le_refl _) _) hTl, by omega⟩, HB.out.alloc hs _⟩
end Go.Proofs.Ytolkghdeppoanaa.SfR
