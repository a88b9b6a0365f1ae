/-
  Parse: whatever the bytes are.
-/
import Derived.Test.YtinkodkmbecamaaDoorFoX
import Derived.Test.YtinkodkmbecamaaDoorFoV
import Derived.Test.YtinkodkmbecamaaDoorFoP
import Derived.Test.YtinkodkmbecamaaDoorBxB
import Derived.Lib.SmallJoins
namespace Go.Proofs.YtinkodkmbecamaaDoor.FoY
open Go.RowKit Go.Proofs.YtinkodkmbecamaaDoor.BxD Go.Proofs.YtinkodkmbecamaaDoor.BxKit Go.Proofs.YtinkodkmbecamaaDoor.BxR Go.Proofs.YtinkodkmbecamaaDoor.BxC Go.Proofs.YtinkodkmbecamaaDoor.FoD Go.Proofs.YtinkodkmbecamaaDoor.FoR Go.Proofs.YtinkodkmbecamaaDoor.FoT Go.Proofs.YtinkodkmbecamaaDoor.FoU Go.Proofs.YtinkodkmbecamaaDoor.FoV Go.Proofs.YtinkodkmbecamaaDoor.FoX
open Go.Proofs.YtinkodkmbecamaaDoor.PkKit (BytesAt)
open Go.Proofs.YtinkodkmbecamaaDoor.PkF (ptr RD NewP)

theorem it_mem {α : Type} {f : St → α × St} : ∀ (k : Nat) (s : St) (x : α), x ∈ (itS f k s).1 → ∃ s', x = (f s').1
  | 0, _, x, h => by simp [itS] at h
  | k + 1, s, x, h => by
    unfold itS at h
    rcases List.mem_append.1 h with h | h
    · exact it_mem k s x h
    · exact ⟨_, List.mem_singleton.1 h⟩
theorem txt_size (s : St) : (txtS 24 s).1.size ≤ 24 := by
  unfold txtS
  split
  · show 0 ≤ 24; decide
  · have h : (PkF.tz s.1 24).1.length ≤ 24 := by
      unfold PkF.tz
      split
      · simp
      · split
        · simp
        · split
          · simp
          · rename_i h1 h2 h3
            simp only [List.length_take]
            omega
    show (PkF.tz s.1 24).1.toArray.size ≤ 24
    simpa using h
theorem str_size (s : St) : (strS s).1.size ≤ 300 := by
  unfold strS
  show ((itS byteU (cntS 300 s).1 (cntS 300 s).2).1.toArray).size ≤ 300
  have := FoS.it_len byteU (cntS 300 s).1 (cntS 300 s).2
  have := cnt_le 300 s
  simp
  omega
theorem keysN_len (k : Nat) : (keysN k).length ≤ 32 := FoB.kN_le k 32
theorem own_size (id : ByteArray) (u : Int) (h : u ≤ 9223372036854775807) (hid : id.size ≤ 200) : (ownT id u).size ≤ 300 := by
  rw [BxO.own_parts]
  have := BxO.digs_len h
  simp only [ByteArray.size_append]
  have e1 : (⟨#[101]⟩ : ByteArray).size = 1 := rfl
  have e2 : (⟨#[45]⟩ : ByteArray).size = 1 := rfl
  have e3 : (⟨(BxO.digs u).toArray⟩ : ByteArray).size = (BxO.digs u).length := by show ((BxO.digs u).toArray).size = _; simp
  omega
theorem msg_size (id : ByteArray) (s : St) (hid : id.size ≤ 200) : (msgS id s).1.keys.length ≤ 32 ∧ (msgS id s).1.id.size ≤ 300 ∧ (msgS id s).1.text.size ≤ 300 := by
  unfold msgS
  simp only
  exact ⟨keysN_len _, own_size id _ (by have := fix_lt s; omega) hid, str_size _⟩
/-- What was read is not too long. -/
theorem box_sizes (id : ByteArray) (s : St) (hid : id.size ≤ 200) : (boxS id s).1.words.length ≤ 32 ∧ (boxS id s).1.msgs.length ≤ 60 ∧ (∀ x ∈ (boxS id s).1.words, x.size ≤ 24) ∧ ∀ m ∈ (boxS id s).1.msgs, m.keys.length ≤ 32 ∧ m.id.size ≤ 300 ∧ m.text.size ≤ 300 := by
  unfold boxS
  simp only
  refine ⟨?_, ?_, ?_, ?_⟩
  · rw [FoS.it_len]; exact cnt_le _ _
  · rw [FoS.it_len]; exact cnt_le _ _
  · intro x hx
    obtain ⟨s', rfl⟩ := it_mem _ _ _ hx
    exact txt_size _
  · intro m hm
    obtain ⟨s', rfl⟩ := it_mem _ _ _ hm
    exact msg_size id s' hid
/-- A box that a call told, with its error. -/
def ParseOut (b : Box) (er : Int) (w : World) (e : Ending) (w' : World) : Prop :=
  ∃ WA wn wc MA mn mc', e = .returned (.tuple #[.agg #[.string b.id, .int .i64 b.valid, .int .i64 b.next, .int .i64 b.high, .slice WA wn wc, .slice MA mn mc'], .int .i64 er]) ∧ wn ≤ wc ∧ mn ≤ mc' ∧ StrsAt w' w'.heap.size WA wn b.words ∧ MsgsAt w' w'.heap.size MA mn b.msgs ∧ Below w.heap.size w w'
/-- While Parse goes on: the answer's block. -/
structure PS (w wr : World) : Prop where
  bel : Below w.heap.size w wr
  res : wr.heap[w.heap.size]? = some (.cells zbox 25 (0, 0))
theorem PS.lt {w wr : World} (h : PS w wr) : w.heap.size < wr.heap.size := (Array.getElem?_eq_some_iff.1 h.res).1
theorem PS.go {w wr w2 : World} (h : PS w wr) (hb : Below wr.heap.size wr w2) : PS w w2 := ⟨h.bel.trans (hb.mono h.bel.size), (hb.block _ h.lt).trans h.res⟩
theorem PS.fr {w wr w2 : World} {R T : Nat} (h : PS w wr) (hf : Fr2 R T wr w2) (hR : w.heap.size < R) (hT : w.heap.size < T) : PS w w2 := ⟨h.bel.trans (hf.to h.bel.size (by omega) (by omega)), (hf.block _ h.lt (by omega) (by omega)).trans h.res⟩
theorem PS.alloc {w wr : World} (h : PS w wr) (o : Obj) : PS w (wr.alloc o) := h.go ((Below.refl _ _).alloc (Nat.le_refl _) o)
/-- Nothing is told but why. -/
theorem ps_none {w wr : World} (h : PS w wr) (er : Int) : ∃ W, W = (((((wr.setCell { block := w.heap.size, off := 0 } (.string ⟨#[]⟩)).setCell { block := w.heap.size, off := 1 } (.int .i64 0)).setCell { block := w.heap.size, off := 2 } (.int .i64 0)).setCell { block := w.heap.size, off := 3 } (.int .i64 0)).setCell { block := w.heap.size, off := 4 } (.slice none 0 0)).setCell { block := w.heap.size, off := 5 } (.slice none 0 0) ∧
    W.cell? { block := w.heap.size, off := 0 } = some (.string ⟨#[]⟩) ∧ W.cell? { block := w.heap.size, off := 1 } = some (.int .i64 0) ∧ W.cell? { block := w.heap.size, off := 2 } = some (.int .i64 0) ∧ W.cell? { block := w.heap.size, off := 3 } = some (.int .i64 0) ∧ W.cell? { block := w.heap.size, off := 4 } = some (.slice none 0 0) ∧ W.cell? { block := w.heap.size, off := 5 } = some (.slice none 0 0) ∧
    ParseOut nB er w (.returned (.tuple #[.agg #[.string ⟨#[]⟩, .int .i64 0, .int .i64 0, .int .i64 0, .slice none 0 0, .slice none 0 0], .int .i64 er])) W := by
  obtain ⟨W, hW, a0, a1, a2, a3, a4, a5, hg⟩ := ret6 h.res (.string ⟨#[]⟩) (.int .i64 0) (.int .i64 0) (.int .i64 0) (.slice none 0 0) (.slice none 0 0)
  exact ⟨W, hW, a0, a1, a2, a3, a4, a5, none, 0, 0, none, 0, 0, rfl, Nat.le_refl _, Nat.le_refl _, RowAt.nil _ _ _ _ _, RowAt.nil _ _ _ _ _, h.bel.grown hg h.bel.size (fun k e => by have : w.heap.size = k := Option.some.inj e; omega)⟩
set_option maxHeartbeats 2000000 in
set_option maxRecDepth 100000 in
theorem parse_any {w : World} {B n cp : Nat} {A : Option Addr} {l : List UInt8} {id : ByteArray} (ht : BxO.Tab w) (hz : BytesAt w B A n l) (hB : B ≤ w.heap.size) (hc : n ≤ cp) (hn : n ≤ 140737488355328) (hid : id.size ≤ 200) :
    Calls Tryd.prog 11 #[.slice A n cp, .string id] w (ParseOut (parseS l id).1 (parseS l id).2 w) := by
  have P0 := Lib.hid (show PS w (w.alloc (.cells zbox 25)) from ⟨(Below.refl _ _).alloc (Nat.le_refl _) _, heap_alloc_new w _⟩)
  have hbz := (Below.refl w.heap.size w).alloc (Nat.le_refl _) (.cells zbox 25)
  unfold zbox at P0 hbz
  have HZ := Lib.hid (hz.below hbz hB)
  have HT := Lib.hid ht
  clear ht hz hbz
  go_enter Tryd.func11, Tryd.ntmps11
  go_upto_region 1 with fail
  generalize (World.alloc w _) = w0 at P0 HZ ⊢
  have hcv : (convert 26 26 (.slice (some ⟨w0.heap.size, 0, none⟩) 3 3)).run Tryd.prog (w0.alloc (.cells #[.int .u8 77, .int .u8 66, .int .u8 49] 5)) = .ok (.slice (some ⟨w0.heap.size, 0, none⟩) 3 3) (w0.alloc (.cells #[.int .u8 77, .int .u8 66, .int .u8 49] 5 (3, 4))) :=
    _root_.Go.Joins.run_convert_bytes_const_at (P := Tryd.prog) w0 26 5 #[.int .u8 77, .int .u8 66, .int .u8 49] 3 3 w0.heap.size rfl Tryd.underlying26 Tryd.underlying5
  have hl0 := P0.out.lt
  have P1 := Lib.hid (P0.out.alloc (.cells #[.int .u8 77, .int .u8 66, .int .u8 49] 5 (3, 4)))
  have HZ1 := Lib.hid (HZ.out.below ((Below.refl w0.heap.size w0).alloc (Nat.le_refl _) (.cells #[.int .u8 77, .int .u8 66, .int .u8 49] 5 (3, 4))) (by omega))
  have hmk : BytesAt (w0.alloc (.cells #[.int .u8 77, .int .u8 66, .int .u8 49] 5 (3, 4))) (w0.heap.size + 1) (some ⟨w0.heap.size, 0, none⟩) 3 mk := by
    refine ⟨rfl, fun _ => ⟨_, rfl, by show w0.heap.size < _; omega, fun j c hj => ?_⟩⟩
    rw [BxR.add_new, _root_.Go.Joins.cell_of_block (heap_alloc_new w0 _) j]
    match j, hj with
    | 0, hj => simp [mk] at hj; subst hj; rfl
    | 1, hj => simp [mk] at hj; subst hj; rfl
    | 2, hj => simp [mk] at hj; subst hj; rfl
  have KP := Lib.hid (cutPrefix_any (c2 := 3) HZ1.out hc hn hmk)
  clear hmk
  by_cases hb : l.take 3 = mk
  · go_upto_region 2 with (go_at_call 25; go_loud (
       refine KP.out.mono ?_
       rintro e w1 ⟨rfl, ⟨_, A', c', rfl, hz2, hc2⟩ | ⟨hno, _⟩⟩
       rotate_left
       · exact absurd hb hno
       have HZ2 := Lib.hid hz2
       clear hz2))
    clear hcv KP HZ1 P0 HZ
    have hg1 : (w0.alloc (.cells #[.int .u8 77, .int .u8 66, .int .u8 49] 5 (3, 4))).heap.size = w0.heap.size + 1 := by simp
    have hB1 : B ≤ (w0.alloc (.cells #[.int .u8 77, .int .u8 66, .int .u8 49] 5 (3, 4))).heap.size := by omega
    clear hg1
    generalize (World.alloc w0 _) = w1 at P1 HZ2 hB1 ⊢
    have hl1 := P1.out.lt
    have KN := Lib.hid (PkF.new_any (cp := c') HZ2.out hB1 (by omega))
    go_upto_region 5 with (go_at_call 26; go_loud (
       refine KN.out.mono ?_
       rintro e w2 ⟨T, rfl, hT, hrd, hb2⟩
       have P2 := Lib.hid (P1.out.go hb2)
       have HR2 := Lib.hid hrd
       have hT1 : w.heap.size < T := by omega
       have hT2 := hrd.lt
       clear hrd hb2))
    have P3 := Lib.hid (P2.out.alloc (.cells #[ptr T, .bool false] 58))
    have F3 := Lib.hid (show FRd (w2.alloc (.cells #[ptr T, .bool false] 58)) w2.heap.size T (l.drop 3, 0, false) from ⟨heap_alloc_new w2 _, HR2.out.below ((Below.refl w2.heap.size w2).alloc (Nat.le_refl _) _) hT2, by omega⟩)
    obtain ⟨R, hR⟩ : ∃ R, R = w2.heap.size := ⟨_, rfl⟩
    rw [← hR] at F3 ⊢
    have hTR : T < R := by omega
    clear hR hT2 P2 HR2 KN hT
    generalize (World.alloc w2 _) = w3 at P3 F3 ⊢
    have ht3 : TabF w3 R T := fun wr hf => HT.out.below (P3.out.bel.trans (hf.to P3.out.bel.size (by omega) (by omega))) (Nat.le_refl _)
    have KB := Lib.hid (box_any F3.out hTR ht3 hid)
    have HSZ := Lib.hid (box_sizes id (l.drop 3, 0, false) hid)
    obtain ⟨b, hbx⟩ : ∃ b, b = (boxS id (l.drop 3, 0, false)).1 := ⟨_, rfl⟩
    obtain ⟨s, hsx⟩ : ∃ s, s = (boxS id (l.drop 3, 0, false)).2 := ⟨_, rfl⟩
    have hps : parseS l id = if firstS s ≠ 0 then (nB, (firstS s : Int)) else if 0 < s.1.length ∨ mbE b ≠ 0 then (nB, 3) else (b, 0) := by unfold parseS; rw [if_pos hb, ← hbx, ← hsx]
    rw [← hbx, ← hsx] at KB
    rw [← hbx] at HSZ
    have HPS := Lib.hid hps
    clear hps hbx hsx ht3 hb
    go_upto_region 6 with (go_at_call 27; go_loud (
       refine KB.out.mono ?_
       rintro e w4 ⟨WA, wc, MA, mc', rs, rfl, ow, om, rm, ko, hrd, hf⟩
       have P4 := Lib.hid (P3.out.fr hf (by omega) hT1)
       have F4 := Lib.hid hrd
       have OW := Lib.hid ow
       have OM := Lib.hid om
       have RM := Lib.hid rm
       have KO := Lib.hid ko
       have hb34 : w.heap.size + 1 ≤ w3.heap.size := P3.out.lt
       clear ow om rm ko hrd hf))
    have P5 := Lib.hid (P4.out.alloc (.cells #[.string b.id, .int .i64 b.valid, .int .i64 b.next, .int .i64 b.high, .slice WA b.words.length wc, .slice MA b.msgs.length mc'] 25))
    have F5 := Lib.hid (F4.out.alloc (.cells #[.string b.id, .int .i64 b.valid, .int .i64 b.next, .int .i64 b.high, .slice WA b.words.length wc, .slice MA b.msgs.length mc'] 25))
    have X5 := Lib.hid (heap_alloc_new w4 (.cells #[.string b.id, .int .i64 b.valid, .int .i64 b.next, .int .i64 b.high, .slice WA b.words.length wc, .slice MA b.msgs.length mc'] 25))
    have OW5 := Lib.hid (OW.out.alloc (.cells #[.string b.id, .int .i64 b.valid, .int .i64 b.next, .int .i64 b.high, .slice WA b.words.length wc, .slice MA b.msgs.length mc'] 25))
    have OM5 := Lib.hid (OM.out.alloc (.cells #[.string b.id, .int .i64 b.valid, .int .i64 b.next, .int .i64 b.high, .slice WA b.words.length wc, .slice MA b.msgs.length mc'] 25))
    have KO5 := Lib.hid (fun r hr => (KO.out r hr).alloc (.cells #[.string b.id, .int .i64 b.valid, .int .i64 b.next, .int .i64 b.high, .slice WA b.words.length wc, .slice MA b.msgs.length mc'] 25))
    obtain ⟨X, hX⟩ : ∃ X, X = w4.heap.size := ⟨_, rfl⟩
    rw [← hX] at X5 ⊢
    have hX3 : w.heap.size + 1 ≤ X := by have := P4.out.lt; omega
    clear hX P3 P4 F3 F4 OW OM KO KB
    generalize (World.alloc w4 _) = w5 at P5 F5 X5 OW5 OM5 KO5 ⊢
    obtain ⟨hsw, hsm, hs24, hs3⟩ := HSZ.out
    have hx5 := strsAt_own OW5.out (by omega) (fun x hx => by have := hs24 x hx; omega)
    have hkeys : KeysOk w5 w5.heap.size rs := fun r hr => by
      have hm : r.m ∈ b.msgs := by rw [← RM.out]; exact List.mem_map_of_mem hr
      obtain ⟨k1, k2, k3⟩ := hs3 r.m hm
      obtain ⟨A9, c9, e9, h9⟩ := own_slice (KO5.out r hr)
      injection e9 with e1 e2 e3
      exact ⟨intsAt_own (KO5.out r hr) (by omega), by omega, by omega, by omega⟩
    have hm5 := msgsAt_own OM5.out (by omega) hkeys
    rw [RM.out] at hm5
    have hwc : b.words.length ≤ wc := by
      obtain ⟨Aw, cw, ew, h⟩ := own_slice OW5.out
      injection ew with _ _ e3
      omega
    have hmc : b.msgs.length ≤ mc' := by
      obtain ⟨Am, cm, em, h⟩ := own_slice OM5.out
      injection em with _ _ e3
      omega
    have HX5 := Lib.hid hx5
    have HM5 := Lib.hid hm5
    have KF := Lib.hid (first_any F5.out)
    have KL := Lib.hid (PkF.left_any F5.out.rd)
    have KM := Lib.hid (BxB.may_box (bid := b.id) (bv := b.valid) (bn := b.next) (bh := b.high) (mc := mc') hx5 hm5 (Nat.le_refl _) hwc)
    have HLW := Lib.hid OW5.out.lt
    have HLM := Lib.hid OM5.out.lt
    clear hx5 hm5 hkeys hsw hsm hs24 hs3
    have c0 := F5.out.cells.1
    have cX := fun o => cell_of_row w5 X o _ _ _ X5.out
    have d0 := (cX 0).trans (show _ = some (Value.string b.id) from rfl)
    have d1 := (cX 1).trans (show _ = some (Value.int .i64 b.valid) from rfl)
    have d2 := (cX 2).trans (show _ = some (Value.int .i64 b.next) from rfl)
    have d3 := (cX 3).trans (show _ = some (Value.int .i64 b.high) from rfl)
    have d4 := (cX 4).trans (show _ = some (Value.slice WA b.words.length wc) from rfl)
    have d5 := (cX 5).trans (show _ = some (Value.slice MA b.msgs.length mc') from rfl)
    clear cX
    obtain ⟨fs, hfs⟩ : ∃ fs, fs = firstS s := ⟨_, rfl⟩
    rw [← hfs] at KF HPS
    clear hfs
    by_cases hf0 : fs = 0
    · subst hf0
      obtain ⟨ln, hln⟩ : ∃ ln, ln = s.1.length := ⟨_, rfl⟩
      rw [← hln] at KL HPS
      clear hln
      have hps := HPS.out
      rw [if_neg (by simp)] at hps
      by_cases hl0 : 0 < ln
      · rw [if_pos (.inl hl0)] at hps
        have HP := Lib.hid hps
        clear hps
        have hl0' : (0 : Int) < (ln : Int) := by omega
        have P6 := P5
        go_upto_region 10 with (first
          | (go_at_call 28; go_loud (
             refine KF.out.mono ?_
             rintro e w6 ⟨rfl, rfl⟩))
          | (go_at_call 29; go_loud (
             refine KL.out.mono ?_
             rintro e w6 ⟨rfl, rfl⟩)))
        obtain ⟨z0, z1, z2, z3, z4, z5, zf⟩ := zcells6 P6.out.res
        have f0 := zf 0
        have f1 := zf 1
        have f2 := zf 2
        have f3 := zf 3
        have f4 := zf 4
        have f5 := zf 5
        clear zf
        go_wp2_with fail
        obtain ⟨W, hW, q0, q1, q2, q3, q4, q5, hO⟩ := ps_none P6.out 3
        rw [← hW]
        exact bodyPost_ret (v := .tuple #[.agg #[.string ⟨#[]⟩, .int .i64 0, .int .i64 0, .int .i64 0, .slice none 0 0, .slice none 0 0], .int .i64 3]) (by simp [results, Tryd.results11, go_sem, q0, q1, q2, q3, q4, q5]) rfl (by rw [HP.out]; exact hO)
      · obtain rfl : ln = 0 := by omega
        obtain ⟨er, her⟩ : ∃ er, er = mbE b := ⟨_, rfl⟩
        rw [← her] at KM hps
        clear her
        by_cases he0 : er = 0
        · subst he0
          rw [if_neg (by simp)] at hps
          have HP := Lib.hid hps
          clear hps
          go_upto_region 11 with (first
            | (go_at_call 28; go_loud (
               refine KF.out.mono ?_
               rintro e w6 ⟨rfl, rfl⟩))
            | (go_at_call 29; go_loud (
               refine KL.out.mono ?_
               rintro e w6 ⟨rfl, rfl⟩))
            | (go_at_call 17; go_loud (
               refine KM.out.mono ?_
               rintro e w6 ⟨rfl, hb6⟩
               have P6 := Lib.hid (P5.out.go hb6)
               have X6 := Lib.hid ((hb6.block X (Array.getElem?_eq_some_iff.1 X5.out).1).trans X5.out)
               have OW6 := Lib.hid (own_block OW5.out fun g e => hb6.block g (OW5.out.lt g e).2)
               have OM6 := Lib.hid (own_block OM5.out fun g e => hb6.block g (OM5.out.lt g e).2)
               have KO6 := Lib.hid (fun r hr => own_block (KO5.out r hr) fun g e => hb6.block g ((KO5.out r hr).lt g e).2)
               have hs56 := hb6.size
               clear hb6 d0 d1 d2 d3 d4 d5 c0)))
          have cX := fun o => cell_of_row w6 X o _ _ _ X6.out
          have d0 := (cX 0).trans (show _ = some (Value.string b.id) from rfl)
          have d1 := (cX 1).trans (show _ = some (Value.int .i64 b.valid) from rfl)
          have d2 := (cX 2).trans (show _ = some (Value.int .i64 b.next) from rfl)
          have d3 := (cX 3).trans (show _ = some (Value.int .i64 b.high) from rfl)
          have d4 := (cX 4).trans (show _ = some (Value.slice WA b.words.length wc) from rfl)
          have d5 := (cX 5).trans (show _ = some (Value.slice MA b.msgs.length mc') from rfl)
          clear cX
          obtain ⟨z0, z1, z2, z3, z4, z5, zf⟩ := zcells6 P6.out.res
          have f0 := zf 0
          have f1 := zf 1
          have f2 := zf 2
          have f3 := zf 3
          have f4 := zf 4
          have f5 := zf 5
          clear zf
          go_wp2_with fail
          obtain ⟨W, hW, p0, p1, p2, p3, p4, p5, hWg⟩ := ret6 P6.out.res (.string b.id) (.int .i64 b.valid) (.int .i64 b.next) (.int .i64 b.high) (.slice WA b.words.length wc) (.slice MA b.msgs.length mc')
          rw [← hW]
          refine bodyPost_ret (v := .tuple #[.agg #[.string b.id, .int .i64 b.valid, .int .i64 b.next, .int .i64 b.high, .slice WA b.words.length wc, .slice MA b.msgs.length mc'], .int .i64 0]) (by simp [results, Tryd.results11, go_sem, p0, p1, p2, p3, p4, p5]) rfl ?_
          rw [HP.out]
          obtain ⟨hsw, hsm, hs24, hs3⟩ := HSZ.out
          have keep : ∀ {ty sz k : Nat} {x : Value} {xs : List Value}, w6.ownsRow w3.heap.size ty sz x k xs → W.ownsRow w3.heap.size ty sz x k xs := fun {_ _ _ _ _} ho =>
            ho.kept hWg (.inr (fun e2 => by have := (ho.lt _ e2).1; omega))
          refine ⟨WA, _, wc, MA, _, mc', rfl, hwc, hmc, ?_, ?_, P6.out.bel.grown hWg P6.out.bel.size (fun k e => by have : w.heap.size = k := Option.some.inj e; omega)⟩
          · exact strsAt_own (keep OW6.out) (by omega) (fun x hx => by have := hs24 x hx; omega)
          · have hkeys : KeysOk W W.heap.size rs := fun r hr => by
              have hm : r.m ∈ b.msgs := by rw [← RM.out]; exact List.mem_map_of_mem hr
              obtain ⟨k1, k2, k3⟩ := hs3 r.m hm
              obtain ⟨A9, c9, e9, h9⟩ := own_slice (KO6.out r hr)
              injection e9 with e1 e2 e3
              exact ⟨intsAt_own (keep (KO6.out r hr)) (by omega), by omega, by omega, by omega⟩
            have := msgsAt_own (keep OM6.out) (by omega) hkeys
            rwa [RM.out] at this
        · have hps2 : parseS l id = (nB, 3) := by rw [hps, if_pos (.inr he0)]
          have HP := Lib.hid hps2
          have he1 : (er == 0) = false := by simpa using he0
          have he2 : (er != 0) = true := by simpa using he0
          clear hps hps2
          go_upto_region 10 with (first
            | (go_at_call 28; go_loud (
               refine KF.out.mono ?_
               rintro e w6 ⟨rfl, rfl⟩))
            | (go_at_call 29; go_loud (
               refine KL.out.mono ?_
               rintro e w6 ⟨rfl, rfl⟩))
            | (go_at_call 17; go_loud (
               refine KM.out.mono ?_
               rintro e w6 ⟨rfl, hb6⟩
               have P6 := Lib.hid (P5.out.go hb6)
               clear hb6 d0 d1 d2 d3 d4 d5 c0)))
          obtain ⟨z0, z1, z2, z3, z4, z5, zf⟩ := zcells6 P6.out.res
          have f0 := zf 0
          have f1 := zf 1
          have f2 := zf 2
          have f3 := zf 3
          have f4 := zf 4
          have f5 := zf 5
          clear zf
          go_wp2_with fail
          obtain ⟨W, hW, q0, q1, q2, q3, q4, q5, hO⟩ := ps_none P6.out 3
          rw [← hW]
          exact bodyPost_ret (v := .tuple #[.agg #[.string ⟨#[]⟩, .int .i64 0, .int .i64 0, .int .i64 0, .slice none 0 0, .slice none 0 0], .int .i64 3]) (by simp [results, Tryd.results11, go_sem, q0, q1, q2, q3, q4, q5]) rfl (by rw [HP.out]; exact hO)
    · have hps2 : parseS l id = (nB, (fs : Int)) := by rw [HPS.out, if_pos hf0]
      have HP := Lib.hid hps2
      have he1 : ((fs : Int) == 0) = false := by simpa using hf0
      have he2 : ((fs : Int) != 0) = true := by simpa using hf0
      clear hps2
      have P6 := P5
      go_upto_region 8 with (go_at_call 28; go_loud (
         refine KF.out.mono ?_
         rintro e w6 ⟨rfl, rfl⟩))
      obtain ⟨z0, z1, z2, z3, z4, z5, zf⟩ := zcells6 P6.out.res
      have f0 := zf 0
      have f1 := zf 1
      have f2 := zf 2
      have f3 := zf 3
      have f4 := zf 4
      have f5 := zf 5
      clear zf
      go_wp2_with fail
      obtain ⟨W, hW, q0, q1, q2, q3, q4, q5, hO⟩ := ps_none P6.out (fs : Int)
      rw [← hW]
      exact bodyPost_ret (v := .tuple #[.agg #[.string ⟨#[]⟩, .int .i64 0, .int .i64 0, .int .i64 0, .slice none 0 0, .slice none 0 0], .int .i64 (fs : Int)]) (by simp [results, Tryd.results11, go_sem, q0, q1, q2, q3, q4, q5]) rfl (by rw [HP.out]; exact hO)
  · have hp : parseS l id = (nB, 3) := by unfold parseS; rw [if_neg hb]
    have HP := Lib.hid hp
    clear hp
    go_upto_region 3 with (go_at_call 25; go_loud (
       refine KP.out.mono ?_
       rintro e w1 ⟨rfl, ⟨hno, _⟩ | ⟨_, rfl⟩⟩
       · exact absurd hno hb
       skip))
    clear hcv
    generalize (World.alloc w0 _) = w1 at P1 ⊢
    obtain ⟨z0, z1, z2, z3, z4, z5, zf⟩ := zcells6 P1.out.res
    have f0 := zf 0
    have f1 := zf 1
    have f2 := zf 2
    have f3 := zf 3
    have f4 := zf 4
    have f5 := zf 5
    clear zf
    go_wp2_with fail
    obtain ⟨W, hW, q0, q1, q2, q3, q4, q5, hO⟩ := ps_none P1.out 3
    rw [← hW]
    exact bodyPost_ret (v := .tuple #[.agg #[.string ⟨#[]⟩, .int .i64 0, .int .i64 0, .int .i64 0, .slice none 0 0, .slice none 0 0], .int .i64 3]) (by simp [results, Tryd.results11, go_sem, q0, q1, q2, q3, q4, q5]) rfl (by rw [HP.out]; exact hO)
end Go.Proofs.YtinkodkmbecamaaDoor.FoY
