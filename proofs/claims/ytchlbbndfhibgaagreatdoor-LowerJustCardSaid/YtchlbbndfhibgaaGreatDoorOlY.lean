/-
  Parse: whatever the bytes are.
-/
import Derived.Test.YtchlbbndfhibgaaGreatDoorK3
import Derived.Test.YtchlbbndfhibgaaGreatDoorOlP
import Derived.Test.YtchlbbndfhibgaaGreatDoorOlC
import Derived.Test.YtchlbbndfhibgaaGreatDoorOlOq
import Derived.Test.YtchlbbndfhibgaaGreatDoorL1
import Derived.Lib.SmallJoins
set_option linter.unusedVariables false
set_option linter.unusedSimpArgs false
namespace Go.Proofs.YtchlbbndfhibgaaGreatDoor.OlY
open Go.RowKit Go.Proofs.YtchlbbndfhibgaaGreatDoor.BxD Go.Proofs.YtchlbbndfhibgaaGreatDoor.BxKit Go.Proofs.YtchlbbndfhibgaaGreatDoor.BxR Go.Proofs.YtchlbbndfhibgaaGreatDoor.BxC Go.Proofs.YtchlbbndfhibgaaGreatDoor.OlD Go.Proofs.YtchlbbndfhibgaaGreatDoor.OlOm Go.Proofs.YtchlbbndfhibgaaGreatDoor.PtD Go.Proofs.YtchlbbndfhibgaaGreatDoor.PtK Go.Proofs.YtchlbbndfhibgaaGreatDoor.PtR Go.Proofs.YtchlbbndfhibgaaGreatDoor.OlR Go.Proofs.YtchlbbndfhibgaaGreatDoor.OlT Go.Proofs.YtchlbbndfhibgaaGreatDoor.OlU Go.Proofs.YtchlbbndfhibgaaGreatDoor.OlV
open Go.Proofs.YtchlbbndfhibgaaGreatDoor.PkKit (BytesAt)
open Go.Proofs.YtchlbbndfhibgaaGreatDoor.PkF (ptr RD)

theorem str_size (s : St) : (strS s).1.size ≤ 300 := by
  unfold strS
  show ((itS byteU (cntS 300 s).1 (cntS 300 s).2).1.toArray).size ≤ 300
  have := OlS.it_len byteU (cntS 300 s).1 (cntS 300 s).2
  have := cnt_le 300 s
  simp
  omega
theorem keysN_len (k : Nat) : (keysN k).length ≤ 32 := OlB.kN_le k 32
theorem own_size (id : ByteArray) (u : Int) (h : u ≤ 9223372036854775807) (hid : id.size ≤ 200) : (ownT id u).size ≤ 300 := by
  rw [BxO.own_parts]
  have := BxO.digs_len h
  simp only [ByteArray.size_append]
  have e1 : (⟨#[101]⟩ : ByteArray).size = 1 := rfl
  have e2 : (⟨#[45]⟩ : ByteArray).size = 1 := rfl
  have e3 : (⟨(BxO.digs u).toArray⟩ : ByteArray).size = (BxO.digs u).length := by show ((BxO.digs u).toArray).size = _; simp
  omega
theorem msg_size (cg : Bool) (id : ByteArray) (s : St) (hid : id.size ≤ 200) : (msgS cg id s).1.keys.length ≤ 32 ∧ (msgS cg id s).1.id.size ≤ 300 ∧ (msgS cg id s).1.text.size ≤ 300 := by
  unfold msgS
  simp only
  exact ⟨keysN_len _, own_size id _ (by have := fix_lt s; omega) hid, str_size _⟩
/-- What was read is not too long. -/
theorem box_sizes (cg : Bool) (id : ByteArray) (s : St) (hid : id.size ≤ 200) : (boxS cg id s).1.words.length ≤ 32 ∧ (boxS cg id s).1.msgs.length ≤ 60 ∧ (∀ x ∈ (boxS cg id s).1.words, x.size ≤ 24) ∧ ∀ m ∈ (boxS cg id s).1.msgs, m.keys.length ≤ 32 ∧ m.id.size ≤ 300 ∧ m.text.size ≤ 300 := by
  unfold boxS
  simp only
  refine ⟨?_, ?_, ?_, ?_⟩
  · rw [OlS.it_len]; exact cnt_le _ _
  · rw [OlS.it_len]; exact cnt_le _ _
  · intro x hx
    obtain ⟨s', rfl⟩ := it_mem _ _ _ hx
    exact txt_size _
  · intro m hm
    obtain ⟨s', rfl⟩ := it_mem _ _ _ hm
    exact msg_size cg id s' hid
theorem no_bytes3 {p : Option Addr} {M : ByteArray} {c : Bool} (k : Nat) (x : Int) : (#[.pointer p, .string M, .bool c] : Array Value)[k]? ≠ some (.int .u8 x) := by
  match k with
  | 0 => simp
  | 1 => simp
  | 2 => simp
  | k + 3 => simp
/-- While Parse goes on: the answer's block. -/
structure PS (cg : Bool) (w wr : World) : Prop where
  bel : Below w.heap.size w wr
  frm : OlC.FBk wr w.heap.size cg
  res : wr.heap[w.heap.size + 1]? = some (.cells zbox 25 (0, 0))
theorem PS.lt {cg : Bool} {w wr : World} (h : PS cg w wr) : w.heap.size + 1 < wr.heap.size := (Array.getElem?_eq_some_iff.1 h.res).1
theorem PS.go {cg : Bool} {w wr w2 : World} (h : PS cg w wr) (hb : Below wr.heap.size wr w2) : PS cg w w2 := ⟨h.bel.trans (hb.mono h.bel.size), (hb.block _ (Nat.lt_of_succ_lt h.lt)).trans h.frm, (hb.block _ h.lt).trans h.res⟩
theorem PS.fr {cg : Bool} {w wr w2 : World} {R T : Nat} (h : PS cg w wr) (hf : Fr2 R T wr w2) (hR : w.heap.size + 1 < R) (hT : w.heap.size + 1 < T) : PS cg w w2 := ⟨h.bel.trans (hf.to h.bel.size (by omega) (by omega)), (hf.block _ (Nat.lt_of_succ_lt h.lt) (by omega) (by omega)).trans h.frm, (hf.block _ h.lt (by omega) (by omega)).trans h.res⟩
theorem PS.alloc {cg : Bool} {w wr : World} (h : PS cg w wr) (o : Obj) : PS cg w (wr.alloc o) := h.go ((Below.refl _ _).alloc (Nat.le_refl _) o)
theorem PS.set {cg : Bool} {w wr : World} (h : PS cg w wr) {P : Nat} (hP : w.heap.size + 1 < P) (i : Nat) (v : Value) : PS cg w (wr.setCell { block := P, off := i } v) :=
  ⟨h.bel.setCell (p := ⟨P, i, none⟩) (by show w.heap.size ≤ P; omega) v, (Below.heap_setCell wr ⟨P, i, none⟩ v w.heap.size (by show w.heap.size ≠ P; omega)).trans h.frm, (Below.heap_setCell wr ⟨P, i, none⟩ v (w.heap.size + 1) (by show w.heap.size + 1 ≠ P; omega)).trans h.res⟩
/-- Nothing is told but why. -/
theorem ps_none {cg : Bool} {w wr : World} (h : PS cg w wr) (er : Int) : ∃ W, W = (((((wr.setCell { block := w.heap.size + 1, off := 0 } (.string ⟨#[]⟩)).setCell { block := w.heap.size + 1, off := 1 } (.int .i64 0)).setCell { block := w.heap.size + 1, off := 2 } (.int .i64 0)).setCell { block := w.heap.size + 1, off := 3 } (.int .i64 0)).setCell { block := w.heap.size + 1, off := 4 } (.slice none 0 0)).setCell { block := w.heap.size + 1, off := 5 } (.slice none 0 0) ∧
    W.cell? { block := w.heap.size + 1, off := 0 } = some (.string ⟨#[]⟩) ∧ W.cell? { block := w.heap.size + 1, off := 1 } = some (.int .i64 0) ∧ W.cell? { block := w.heap.size + 1, off := 2 } = some (.int .i64 0) ∧ W.cell? { block := w.heap.size + 1, off := 3 } = some (.int .i64 0) ∧ W.cell? { block := w.heap.size + 1, off := 4 } = some (.slice none 0 0) ∧ W.cell? { block := w.heap.size + 1, off := 5 } = some (.slice none 0 0) ∧
    ParseNew nB er w (.returned (.tuple #[.agg #[.string ⟨#[]⟩, .int .i64 0, .int .i64 0, .int .i64 0, .slice none 0 0, .slice none 0 0], .int .i64 er])) W := by
  obtain ⟨W, hW, a0, a1, a2, a3, a4, a5, hg⟩ := ret6 h.res (.string ⟨#[]⟩) (.int .i64 0) (.int .i64 0) (.int .i64 0) (.slice none 0 0) (.slice none 0 0)
  exact ⟨W, hW, a0, a1, a2, a3, a4, a5, none, 0, 0, none, 0, 0, rfl, Nat.le_refl _, Nat.le_refl _, fun _ _ _ => ⟨RowAt.nil _ _ _ _ _, RowAt.nil _ _ _ _ _⟩, h.bel.grown hg h.bel.size (fun k e => by have : w.heap.size + 1 = k := Option.some.inj e; omega)⟩
set_option maxHeartbeats 4000000 in
set_option maxRecDepth 100000 in
theorem parse_any {cg : Bool} {w : World} {B n cp : Nat} {A : Option Addr} {l : List UInt8} {id : ByteArray} (ht : BxO.Tab w) (hz : BytesAt w B A n l) (hB : B ≤ w.heap.size) (hc : n ≤ cp) (hn : n ≤ 140737488355328) (hid : id.size ≤ 200) :
    Calls Tryz.prog 148 #[.agg #[.string (mkB cg), .bool cg], .slice A n cp, .string id] w (ParseNew (parseS cg l id).1 (parseS cg l id).2 w) := by
  have hbz := ((Below.refl w.heap.size w).alloc (Nat.le_refl _) (.cells #[.string (mkB cg), .bool cg] 177)).alloc (by simp) (.cells zbox 25)
  have P0 := Lib.hid (show PS cg w ((w.alloc (.cells #[.string (mkB cg), .bool cg] 177)).alloc (.cells zbox 25)) from ⟨hbz, (heap_alloc_old _ _ (by simp)).trans (heap_alloc_new w _), by
    have := heap_alloc_new (w.alloc (.cells #[.string (mkB cg), .bool cg] 177)) (.cells zbox 25)
    rwa [show (w.alloc (.cells #[.string (mkB cg), .bool cg] 177)).heap.size = w.heap.size + 1 by simp] at this⟩)
  unfold zbox at P0 hbz
  have HZ := Lib.hid (hz.below hbz hB)
  have HT := Lib.hid ht
  clear ht hz hbz
  go_enter Tryz.func148, Tryz.ntmps148
  go_upto_region 1 with fail
  generalize (World.alloc (World.alloc w _) _) = w0 at P0 HZ ⊢
  obtain ⟨f0, f1⟩ := P0.out.frm.cells
  have hl0 := P0.out.lt
  obtain ⟨M, hM⟩ : ∃ M, M = mkB cg := ⟨_, rfl⟩
  have hMs : M.size = 3 := by rw [hM]; rfl
  have hMd : M.data.toList = mk cg := by rw [hM]; rfl
  have hcv := Lib.run_convert_string_bytes (P := Tryz.prog) w0 9 40 5 M Tryz.underlying9 Tryz.underlying40 Tryz.underlying5
  have hoo := OlOq.conv_oo w0 M (by omega)
  obtain ⟨w1, hw1⟩ : ∃ w1, w1 = Lib.bytesWorld w0 5 M := ⟨_, rfl⟩
  obtain ⟨cpm, hcpm⟩ : ∃ cpm, cpm = grownCap w0 M.size 0 5 := ⟨_, rfl⟩
  rw [← hw1, ← hcpm] at hcv hoo
  rw [hMs, hMd] at hoo
  rw [hMs] at hcv
  rw [← hM] at f0
  have hbw : Below w0.heap.size w0 w1 := hoo.bel
  have P1 := Lib.hid (P0.out.go hbw)
  have HZ1 := Lib.hid (HZ.out.below hbw (by omega))
  have hmk : BytesAt w1 w1.heap.size (some ⟨w0.heap.size, 0, none⟩) 3 (mk cg) := hoo.own.bytes
  clear hoo hw1 hcpm hMs hMd hM
  have KP := Lib.hid (cutPrefix_any (c2 := cpm) HZ1.out hc hn hmk)
  clear hmk
  by_cases hb : l.take 3 = mk cg
  · go_upto_region 2 with (go_at_call 151; go_loud (
       refine KP.out.mono ?_
       rintro e w1' ⟨rfl, ⟨_, A', c', rfl, hz2, hc2⟩ | ⟨hno, _⟩⟩
       rotate_left
       · exact absurd hb hno
       have HZ2 := Lib.hid hz2
       clear hz2))
    have hB1 : B ≤ w1.heap.size := by have := hbw.size; omega
    clear hcv KP HZ1 P0 HZ hbw f0 f1
    have hl1 := P1.out.lt
    have KN := Lib.hid (fun (wr : World) (hbl : Below w1.heap.size w1 wr) => new_p (w := wr) (cp := c') (HZ2.out.below hbl hB1) (Nat.le_trans hB1 hbl.size) (by omega))
    obtain ⟨f0, f1⟩ := P1.out.frm.cells
    have bd := (Below.refl w1.heap.size w1).drew
    have bda := bd.alloc (Nat.le_refl _) (.cells #[.pointer none, .string ⟨#[]⟩, .bool false] 194)
    go_upto_region 4 with fail
    go_region_held3 (fun wr => wr.cell? { block := w.heap.size, off := 0 } = some (.string (mkB cg)) ∧ wr.cell? { block := w.heap.size, off := 1 } = some (.bool cg)) (with_reducible first | exact ⟨f0, f1⟩ | exact P2.out.frm.cells | exact (P2.out.alloc _).frm.cells | exact (P1.out.go bda).frm.cells | exact ((((P2.out.set hl1 _ _).set hl1 _ _).set hl1 _ _).frm).cells | go_keep) (
      (go_at_call 49
       ((with_reducible refine (KN.out _ ?d1).mono ?_); rotate_left)
       case d1 => first | exact bd | exact bda
       go_loud (
       rintro e w2 ⟨R, T, rfl, hR, hT, hrd, hb2⟩
       have P2 := Lib.hid (show PS cg w w2 by first | exact (P1.out.go bd).go hb2 | exact (P1.out.go bda).go hb2)
       have HR2 := Lib.hid hrd
       have hT1 : w.heap.size + 1 < T := by simp at hT; omega
       have hR1 : w.heap.size + 1 < R := by simp at hR; omega
       have hT2 := hrd.rd.lt
       have hR2 := hrd.lt
       have hw12 : w1.heap.size ≤ w2.heap.size := by have := hb2.size; simp at this; omega
       try
         have bq : w2.heap[w1.heap.size]? = some (.cells #[.pointer none, .string ⟨#[]⟩, .bool false] 194 (0, 0)) := (hb2.block w1.heap.size (by simp)).trans (heap_alloc_new w1.drew _)
         have q0 : w2.cell? { block := w1.heap.size, off := 0 } = some (.pointer none) := (cell_of_row w2 w1.heap.size 0 _ _ _ bq).trans rfl
         have q1 : w2.cell? { block := w1.heap.size, off := 1 } = some (.string ⟨#[]⟩) := (cell_of_row w2 w1.heap.size 1 _ _ _ bq).trans rfl
         have q2 : w2.cell? { block := w1.heap.size, off := 2 } = some (.bool false) := (cell_of_row w2 w1.heap.size 2 _ _ _ bq).trans rfl
         have qf : ∀ i, w2.frozen? { block := w1.heap.size, off := i } = false := fun i => by simp [World.frozen?, bq]
         have g0 := qf 0
         have g1 := qf 1
         have g2 := qf 2
         clear qf
       clear hrd hb2
       dsimp only)))
    rotate_left
    have P3 := Lib.hid (((P2.out.set hl1 0 (ptr R)).set hl1 1 (.string (mkB cg))).set hl1 2 (.bool cg))
    have Q3 := Lib.hid (show RBk cg (((w2.setCell { block := w1.heap.size, off := 0 } (ptr R)).setCell { block := w1.heap.size, off := 1 } (.string (mkB cg))).setCell { block := w1.heap.size, off := 2 } (.bool cg)) w1.heap.size R from by
      unfold RBk
      simp [World.setCell, Array.getElem?_modify, bq])
    have F3 := Lib.hid (show PRd (((w2.setCell { block := w1.heap.size, off := 0 } (ptr R)).setCell { block := w1.heap.size, off := 1 } (.string (mkB cg))).setCell { block := w1.heap.size, off := 2 } (.bool cg)) R T (l.drop 3, 0, false) from by
      have hk : ∀ k, k ≠ w1.heap.size → (((w2.setCell { block := w1.heap.size, off := 0 } (ptr R)).setCell { block := w1.heap.size, off := 1 } (.string (mkB cg))).setCell { block := w1.heap.size, off := 2 } (.bool cg)).heap[k]? = w2.heap[k]? := fun k hk => ((Below.heap_setCell _ _ _ _ hk).trans (Below.heap_setCell _ _ _ _ hk)).trans (Below.heap_setCell _ _ _ _ hk)
      exact ⟨(hk R (by simp at hR; omega)).trans HR2.out.blk, rd_stay HR2.out.rd bq no_bytes3 (by simp at hT; omega) hk, HR2.out.ne⟩)
    obtain ⟨Q, hQ⟩ : ∃ Q, Q = w1.heap.size := ⟨_, rfl⟩
    have hQR : Q ≠ R := by simp at hR; omega
    have hQT : Q ≠ T := by simp at hT; omega
    rw [← hQ] at Q3 F3 P3 ⊢
    have hQ1 : w.heap.size + 1 < Q := by omega
    generalize (World.setCell (World.setCell (World.setCell w2 _ _) _ _) _ _) = w3 at P3 F3 Q3 ⊢
    have hw3 : True := trivial
    clear bq q0 q1 q2 g0 g1 g2
    rotate_left
    have P3 := Lib.hid (P2.out.alloc (.cells #[ptr R, .string (mkB cg), .bool cg] 194))
    have Q3 := Lib.hid (show RBk cg (w2.alloc (.cells #[ptr R, .string (mkB cg), .bool cg] 194)) w2.heap.size R from heap_alloc_new w2 _)
    have F3 := Lib.hid (HR2.out.alloc (.cells #[ptr R, .string (mkB cg), .bool cg] 194))
    obtain ⟨Q, hQ⟩ : ∃ Q, Q = w2.heap.size := ⟨_, rfl⟩
    have hQR : Q ≠ R := by omega
    have hQT : Q ≠ T := by omega
    rw [← hQ] at Q3 ⊢
    have hQ1 : w.heap.size + 1 < Q := by omega
    generalize (World.alloc w2 _) = w3 at P3 F3 Q3 ⊢
    have hw3 : True := trivial
    all_goals
      clear f0 f1 bd bda KN P2 HR2 hT2 hR2 hT hR hw12 hQ hw3
      have ht3 : TabF w3 R T := fun wr hf => HT.out.below (P3.out.bel.trans (hf.to P3.out.bel.size (by omega) (by omega))) (Nat.le_refl _)
      have KB := Lib.hid (box_any (cg := cg) F3.out ht3 hid)
      obtain ⟨b0, b1, b2⟩ := Q3.out.cells
      have hQ3 : Q < w3.heap.size := (Array.getElem?_eq_some_iff.1 Q3.out).1
      have HSZ := Lib.hid (box_sizes cg id (l.drop 3, 0, false) hid)
      obtain ⟨b, hbx⟩ : ∃ b, b = (boxS cg id (l.drop 3, 0, false)).1 := ⟨_, rfl⟩
      obtain ⟨s, hsx⟩ : ∃ s, s = (boxS cg id (l.drop 3, 0, false)).2 := ⟨_, rfl⟩
      have hps : parseS cg l id = if firstS s ≠ 0 then (nB, (firstS s : Int)) else if 0 < s.1.length ∨ mbE b ≠ 0 then (nB, 3) else (b, 0) := by unfold parseS; rw [if_pos hb, ← hbx, ← hsx]
      rw [← hbx, ← hsx] at KB
      rw [← hbx] at HSZ
      have HPS := Lib.hid hps
      clear hps hbx hsx ht3 hb
      go_upto_region 6 with (go_at_call 165; go_loud (
         refine KB.out.mono ?_
         rintro e w4 ⟨WA, wc, MA, mc', rs, rfl, ow, om, rm, ko, hrd, hf⟩
         have P4 := Lib.hid (P3.out.fr hf (by omega) hT1)
         have F4 := Lib.hid hrd
         have Q4 := Lib.hid (show RBk cg w4 Q R from (hf.block Q hQ3 hQR hQT).trans Q3.out)
         have OW := Lib.hid ow
         have OM := Lib.hid om
         have RM := Lib.hid rm
         have KO := Lib.hid ko
         have hb34 : w.heap.size + 1 < w3.heap.size := P3.out.lt
         clear ow om rm ko hrd hf b0 b1 b2))
      have P5 := Lib.hid (P4.out.alloc (.cells #[.string b.id, .int .i64 b.valid, .int .i64 b.next, .int .i64 b.high, .slice WA b.words.length wc, .slice MA b.msgs.length mc'] 25))
      have F5 := Lib.hid (F4.out.alloc (.cells #[.string b.id, .int .i64 b.valid, .int .i64 b.next, .int .i64 b.high, .slice WA b.words.length wc, .slice MA b.msgs.length mc'] 25))
      have Q5 := Lib.hid (show RBk cg (w4.alloc (.cells #[.string b.id, .int .i64 b.valid, .int .i64 b.next, .int .i64 b.high, .slice WA b.words.length wc, .slice MA b.msgs.length mc'] 25)) Q R from (heap_alloc_old w4 _ (Array.getElem?_eq_some_iff.1 Q4.out).1).trans Q4.out)
      have X5 := Lib.hid (heap_alloc_new w4 (.cells #[.string b.id, .int .i64 b.valid, .int .i64 b.next, .int .i64 b.high, .slice WA b.words.length wc, .slice MA b.msgs.length mc'] 25))
      have OW5 := Lib.hid (OW.out.alloc (.cells #[.string b.id, .int .i64 b.valid, .int .i64 b.next, .int .i64 b.high, .slice WA b.words.length wc, .slice MA b.msgs.length mc'] 25))
      have OM5 := Lib.hid (OM.out.alloc (.cells #[.string b.id, .int .i64 b.valid, .int .i64 b.next, .int .i64 b.high, .slice WA b.words.length wc, .slice MA b.msgs.length mc'] 25))
      have KO5 := Lib.hid (fun r hr => (KO.out r hr).alloc (.cells #[.string b.id, .int .i64 b.valid, .int .i64 b.next, .int .i64 b.high, .slice WA b.words.length wc, .slice MA b.msgs.length mc'] 25))
      obtain ⟨X, hX⟩ : ∃ X, X = w4.heap.size := ⟨_, rfl⟩
      rw [← hX] at X5 ⊢
      have hX3 : w.heap.size + 1 < X := by have := P4.out.lt; omega
      clear hX P3 P4 F3 F4 Q3 Q4 OW OM KO KB
      generalize (World.alloc w4 _) = w5 at P5 F5 Q5 X5 OW5 OM5 KO5 ⊢
      obtain ⟨hsw, hsm, hs24, hs3⟩ := HSZ.out
      have hx5 := strsAt_own OW5.out (by omega) (fun x hx => by have := hs24 x hx; omega)
      have hkeys : KeysOk w5 w5.heap.size rs := fun r hr => by
        have hm : r.m ∈ b.msgs := by rw [← RM.out]; exact List.mem_map_of_mem hr
        obtain ⟨k1, k2, k3⟩ := hs3 r.m hm
        obtain ⟨A9, c9, e9, h9⟩ := own_slice (KO5.out r hr)
        injection e9 with e1 e2 e3
        exact ⟨intsAt_own (KO5.out r hr) (by omega), by omega, by omega, by omega⟩
      have hm5 := msgsAt_own OM5.out (by omega) hkeys
      rw [RM.out] at hm5
      have hwc : b.words.length ≤ wc := by
        obtain ⟨Aw, cw, ew, h⟩ := own_slice OW5.out
        injection ew with _ _ e3
        omega
      have hmc : b.msgs.length ≤ mc' := by
        obtain ⟨Am, cm, em, h⟩ := own_slice OM5.out
        injection em with _ _ e3
        omega
      have HX5 := Lib.hid hx5
      have HM5 := Lib.hid hm5
      have KF := Lib.hid (err_p F5.out)
      have KL := Lib.hid (left_p F5.out)
      have KM := Lib.hid (BxB.may_box (bid := b.id) (bv := b.valid) (bn := b.next) (bh := b.high) (mc := mc') hx5 hm5 (Nat.le_refl _) hwc)
      have HLW := Lib.hid OW5.out.lt
      have HLM := Lib.hid OM5.out.lt
      clear hx5 hm5 hkeys hsw hsm hs24 hs3
      have c0 := F5.out.cells.1
      have b0 := Q5.out.cells.1
      have cX := fun o => cell_of_row w5 X o _ _ _ X5.out
      have d0 := (cX 0).trans (show _ = some (Value.string b.id) from rfl)
      have d1 := (cX 1).trans (show _ = some (Value.int .i64 b.valid) from rfl)
      have d2 := (cX 2).trans (show _ = some (Value.int .i64 b.next) from rfl)
      have d3 := (cX 3).trans (show _ = some (Value.int .i64 b.high) from rfl)
      have d4 := (cX 4).trans (show _ = some (Value.slice WA b.words.length wc) from rfl)
      have d5 := (cX 5).trans (show _ = some (Value.slice MA b.msgs.length mc') from rfl)
      clear cX
      obtain ⟨fs, hfs⟩ : ∃ fs, fs = firstS s := ⟨_, rfl⟩
      rw [← hfs] at KF HPS
      clear hfs
      by_cases hf0 : fs = 0
      · subst hf0
        obtain ⟨ln, hln⟩ : ∃ ln, ln = s.1.length := ⟨_, rfl⟩
        rw [← hln] at KL HPS
        clear hln
        have hps := HPS.out
        rw [if_neg (by simp)] at hps
        by_cases hl0 : 0 < ln
        · rw [if_pos (.inl hl0)] at hps
          have HP := Lib.hid hps
          clear hps
          have hl0' : (0 : Int) < (ln : Int) := by omega
          have P6 := P5
          go_upto_region 10 with (first
            | (go_at_call 52; go_loud (
               refine KF.out.mono ?_
               rintro e w6 ⟨rfl, rfl⟩))
            | (go_at_call 50; go_loud (
               refine KL.out.mono ?_
               rintro e w6 ⟨rfl, rfl⟩)))
          obtain ⟨z0, z1, z2, z3, z4, z5, zf⟩ := zcells6 P6.out.res
          have f0 := zf 0
          have f1 := zf 1
          have f2 := zf 2
          have f3 := zf 3
          have f4 := zf 4
          have f5 := zf 5
          clear zf
          go_wp2_with fail
          obtain ⟨W, hW, q0, q1, q2, q3, q4, q5, hO⟩ := ps_none P6.out 3
          rw [← hW]
          exact bodyPost_ret (v := .tuple #[.agg #[.string ⟨#[]⟩, .int .i64 0, .int .i64 0, .int .i64 0, .slice none 0 0, .slice none 0 0], .int .i64 3]) (by simp [results, Tryz.results148, go_sem, q0, q1, q2, q3, q4, q5]) rfl (by rw [HP.out]; exact hO)
        · obtain rfl : ln = 0 := by omega
          obtain ⟨er, her⟩ : ∃ er, er = mbE b := ⟨_, rfl⟩
          rw [← her] at KM hps
          clear her
          by_cases he0 : er = 0
          · subst he0
            rw [if_neg (by simp)] at hps
            have HP := Lib.hid hps
            clear hps
            go_upto_region 11 with (first
              | (go_at_call 52; go_loud (
                 refine KF.out.mono ?_
                 rintro e w6 ⟨rfl, rfl⟩))
              | (go_at_call 50; go_loud (
                 refine KL.out.mono ?_
                 rintro e w6 ⟨rfl, rfl⟩))
              | (go_at_call 10; go_loud (
                 refine KM.out.mono ?_
                 rintro e w6 ⟨rfl, hb6⟩
                 have P6 := Lib.hid (P5.out.go hb6)
                 have X6 := Lib.hid ((hb6.block X (Array.getElem?_eq_some_iff.1 X5.out).1).trans X5.out)
                 have OW6 := Lib.hid (own_block OW5.out fun g e => hb6.block g (OW5.out.lt g e).2)
                 have OM6 := Lib.hid (own_block OM5.out fun g e => hb6.block g (OM5.out.lt g e).2)
                 have KO6 := Lib.hid (fun r hr => own_block (KO5.out r hr) fun g e => hb6.block g ((KO5.out r hr).lt g e).2)
                 have hs56 := hb6.size
                 clear hb6 d0 d1 d2 d3 d4 d5 c0 b0)))
            have cX := fun o => cell_of_row w6 X o _ _ _ X6.out
            have d0 := (cX 0).trans (show _ = some (Value.string b.id) from rfl)
            have d1 := (cX 1).trans (show _ = some (Value.int .i64 b.valid) from rfl)
            have d2 := (cX 2).trans (show _ = some (Value.int .i64 b.next) from rfl)
            have d3 := (cX 3).trans (show _ = some (Value.int .i64 b.high) from rfl)
            have d4 := (cX 4).trans (show _ = some (Value.slice WA b.words.length wc) from rfl)
            have d5 := (cX 5).trans (show _ = some (Value.slice MA b.msgs.length mc') from rfl)
            clear cX
            obtain ⟨z0, z1, z2, z3, z4, z5, zf⟩ := zcells6 P6.out.res
            have f0 := zf 0
            have f1 := zf 1
            have f2 := zf 2
            have f3 := zf 3
            have f4 := zf 4
            have f5 := zf 5
            clear zf
            go_wp2_with fail
            obtain ⟨W, hW, p0, p1, p2, p3, p4, p5, hWg⟩ := ret6 P6.out.res (.string b.id) (.int .i64 b.valid) (.int .i64 b.next) (.int .i64 b.high) (.slice WA b.words.length wc) (.slice MA b.msgs.length mc')
            rw [← hW]
            refine bodyPost_ret (v := .tuple #[.agg #[.string b.id, .int .i64 b.valid, .int .i64 b.next, .int .i64 b.high, .slice WA b.words.length wc, .slice MA b.msgs.length mc'], .int .i64 0]) (by simp [results, Tryz.results148, go_sem, p0, p1, p2, p3, p4, p5]) rfl ?_
            rw [HP.out]
            obtain ⟨hsw, hsm, hs24, hs3⟩ := HSZ.out
            have keep : ∀ {ty sz k : Nat} {x : Value} {xs : List Value}, w6.ownsRow w3.heap.size ty sz x k xs → W.ownsRow w3.heap.size ty sz x k xs := fun {_ _ _ _ _} ho =>
              ho.kept hWg (.inr (fun e2 => by have := (ho.lt _ e2).1; omega))
            refine ⟨WA, _, wc, MA, _, mc', rfl, hwc, hmc, fun W2 hW2 hW3 => ?_, P6.out.bel.grown hWg P6.out.bel.size (fun k e => by have : w.heap.size + 1 = k := Option.some.inj e; omega)⟩
            have keep2 : ∀ {ty sz k : Nat} {x : Value} {xs : List Value}, w6.ownsRow w3.heap.size ty sz x k xs → W2.ownsRow w3.heap.size ty sz x k xs := fun {_ _ _ _ _} ho =>
              own_block (keep ho) fun g e => hW2 g (by have := ((keep ho).lt g e).1; omega) ((keep ho).lt g e).2
            have hsW := hWg.size
            refine ⟨?_, ?_⟩
            · exact strsAt_own (keep2 OW6.out) (by omega) (fun x hx => by have := hs24 x hx; omega)
            · have hkeys : KeysOk W2 W2.heap.size rs := fun r hr => by
                have hm : r.m ∈ b.msgs := by rw [← RM.out]; exact List.mem_map_of_mem hr
                obtain ⟨k1, k2, k3⟩ := hs3 r.m hm
                obtain ⟨A9, c9, e9, h9⟩ := own_slice (KO6.out r hr)
                injection e9 with e1 e2 e3
                exact ⟨intsAt_own (keep2 (KO6.out r hr)) (by omega), by omega, by omega, by omega⟩
              have := msgsAt_own (keep2 OM6.out) (by omega) hkeys
              rwa [RM.out] at this
          · have hps2 : parseS cg l id = (nB, 3) := by rw [hps, if_pos (.inr he0)]
            have HP := Lib.hid hps2
            have he1 : (er == 0) = false := by simpa using he0
            have he2 : (er != 0) = true := by simpa using he0
            clear hps hps2
            go_upto_region 10 with (first
              | (go_at_call 52; go_loud (
                 refine KF.out.mono ?_
                 rintro e w6 ⟨rfl, rfl⟩))
              | (go_at_call 50; go_loud (
                 refine KL.out.mono ?_
                 rintro e w6 ⟨rfl, rfl⟩))
              | (go_at_call 10; go_loud (
                 refine KM.out.mono ?_
                 rintro e w6 ⟨rfl, hb6⟩
                 have P6 := Lib.hid (P5.out.go hb6)
                 clear hb6 d0 d1 d2 d3 d4 d5 c0 b0)))
            obtain ⟨z0, z1, z2, z3, z4, z5, zf⟩ := zcells6 P6.out.res
            have f0 := zf 0
            have f1 := zf 1
            have f2 := zf 2
            have f3 := zf 3
            have f4 := zf 4
            have f5 := zf 5
            clear zf
            go_wp2_with fail
            obtain ⟨W, hW, q0, q1, q2, q3, q4, q5, hO⟩ := ps_none P6.out 3
            rw [← hW]
            exact bodyPost_ret (v := .tuple #[.agg #[.string ⟨#[]⟩, .int .i64 0, .int .i64 0, .int .i64 0, .slice none 0 0, .slice none 0 0], .int .i64 3]) (by simp [results, Tryz.results148, go_sem, q0, q1, q2, q3, q4, q5]) rfl (by rw [HP.out]; exact hO)
      · have hps2 : parseS cg l id = (nB, (fs : Int)) := by rw [HPS.out, if_pos hf0]
        have HP := Lib.hid hps2
        have he1 : ((fs : Int) == 0) = false := by simpa using hf0
        have he2 : ((fs : Int) != 0) = true := by simpa using hf0
        clear hps2
        have P6 := P5
        go_upto_region 8 with (go_at_call 52; go_loud (
           refine KF.out.mono ?_
           rintro e w6 ⟨rfl, rfl⟩))
        obtain ⟨z0, z1, z2, z3, z4, z5, zf⟩ := zcells6 P6.out.res
        have f0 := zf 0
        have f1 := zf 1
        have f2 := zf 2
        have f3 := zf 3
        have f4 := zf 4
        have f5 := zf 5
        clear zf
        go_wp2_with fail
        obtain ⟨W, hW, q0, q1, q2, q3, q4, q5, hO⟩ := ps_none P6.out (fs : Int)
        rw [← hW]
        exact bodyPost_ret (v := .tuple #[.agg #[.string ⟨#[]⟩, .int .i64 0, .int .i64 0, .int .i64 0, .slice none 0 0, .slice none 0 0], .int .i64 (fs : Int)]) (by simp [results, Tryz.results148, go_sem, q0, q1, q2, q3, q4, q5]) rfl (by rw [HP.out]; exact hO)
  · have hp : parseS cg l id = (nB, 3) := by unfold parseS; rw [if_neg hb]
    have HP := Lib.hid hp
    clear hp
    go_upto_region 3 with (go_at_call 151; go_loud (
       refine KP.out.mono ?_
       rintro e w1 ⟨rfl, ⟨hno, _⟩ | ⟨_, rfl⟩⟩
       · exact absurd hno hb
       skip))
    clear hcv hbw f0 f1
    obtain ⟨z0, z1, z2, z3, z4, z5, zf⟩ := zcells6 P1.out.res
    have f0 := zf 0
    have f1 := zf 1
    have f2 := zf 2
    have f3 := zf 3
    have f4 := zf 4
    have f5 := zf 5
    clear zf
    go_wp2_with fail
    obtain ⟨W, hW, q0, q1, q2, q3, q4, q5, hO⟩ := ps_none P1.out 3
    rw [← hW]
    exact bodyPost_ret (v := .tuple #[.agg #[.string ⟨#[]⟩, .int .i64 0, .int .i64 0, .int .i64 0, .slice none 0 0, .slice none 0 0], .int .i64 3]) (by simp [results, Tryz.results148, go_sem, q0, q1, q2, q3, q4, q5]) rfl (by rw [HP.out]; exact hO)
end Go.Proofs.YtchlbbndfhibgaaGreatDoor.OlY
