/-
  A message's text, byte by byte.
-/
import Derived.Test.YthbilcadifbaeaaDoorOlR
namespace Go.Proofs.YthbilcadifbaeaaDoor.OlS
open Go.RowKit Go.Proofs.YthbilcadifbaeaaDoor.BxD Go.Proofs.YthbilcadifbaeaaDoor.PkKit Go.Proofs.YthbilcadifbaeaaDoor.PkC Go.Proofs.YthbilcadifbaeaaDoor.PkD Go.Proofs.YthbilcadifbaeaaDoor.PkF Go.Proofs.YthbilcadifbaeaaDoor.PkG Go.Proofs.YthbilcadifbaeaaDoor.OlD Go.Proofs.YthbilcadifbaeaaDoor.OlR

theorem it_len {α : Type} (f : St → α × St) : ∀ (k : Nat) (s : St), (itS f k s).1.length = k
  | 0, _ => rfl
  | k + 1, s => by
    unfold itS
    rw [List.length_append, it_len f k s]
    rfl
def upto (i n : Nat) (s : St) : List UInt8 := (itS byteU i s).1 ++ List.replicate (n - i) 0
theorem upto_zero (n : Nat) (s : St) : by_ (upto 0 n s) = List.replicate n (.int .u8 0) := by
  unfold upto by_ Lib.byteCells
  simp [itS]
theorem upto_at {i n : Nat} {s : St} (h : i < n) : (by_ (upto i n s))[i]? = some (.int .u8 0) := by
  have : (upto i n s)[i]? = some 0 := by
    unfold upto
    rw [List.getElem?_append_right (by rw [it_len]; exact Nat.le_refl _), it_len, Nat.sub_self, List.getElem?_replicate, if_pos (by omega)]
  have := by_get this
  simpa using this
theorem upto_set {i n : Nat} {s : St} (h : i < n) : (by_ (upto i n s)).set i (.int .u8 ((byteS (itS byteU i s).2).1 : Nat)) = by_ (upto (i + 1) n s) := by
  have hb := byte_lt (itS byteU i s).2
  have e : upto (i + 1) n s = (upto i n s).set i ((byteS (itS byteU i s).2).1.toUInt8) := by
    unfold upto
    have hl := it_len byteU i s
    rw [List.set_append_right _ _ (by omega), hl, Nat.sub_self, show n - i = (n - (i + 1)) + 1 by omega, List.replicate_succ, List.set_cons_zero]
    show ((itS byteU i s).1 ++ [(byteU (itS byteU i s).2).1]) ++ _ = _
    rw [List.append_assoc]
    rfl
  rw [e]
  unfold by_ Lib.byteCells
  rw [List.map_set, toNat_u8 hb]
theorem upto_end (n : Nat) (s : St) : upto n n s = (itS byteU n s).1 := by unfold upto; simp
theorem itU_ov : ∀ (k : Nat) (s : St), (itS byteU k s).2.2.2 = s.2.2
  | 0, _ => rfl
  | k + 1, s => by
    show (byteS (itS byteU k s).2).2.2.2 = s.2.2
    rw [byte_ov, itU_ov k s]
set_option maxHeartbeats 2000000 in
set_option maxRecDepth 100000 in
theorem str_any {cg : Bool} {w : World} {R T : Nat} {s : St} (h : FRd cg w R T s) : Calls Tryd.prog 160 #[ptr R] w (Rd2 cg w R T (.string (strS s).1) (strS s).2) := by
  have KC := Lib.hid (count_any h 300)
  have hn3 := cnt_le 300 s
  obtain ⟨n, hn⟩ : ∃ n, n = (cntS 300 s).1 := ⟨_, rfl⟩
  obtain ⟨s1, hs1⟩ : ∃ s1, s1 = (cntS 300 s).2 := ⟨_, rfl⟩
  have hst : strS s = (⟨(itS byteU n s1).1.toArray⟩, (itS byteU n s1).2) := by unfold strS; rw [← hn, ← hs1]
  rw [← hn] at KC hn3
  rw [← hs1] at KC
  rw [hst]
  have hRl := h.lt
  obtain ⟨i0, hi, hz0, hz1, hz2⟩ := info_parts info5
  have HI := Lib.hid hi
  have HI0 := Lib.hid hz0
  have HI1 := Lib.hid hz1
  have HI2 := Lib.hid hz2
  clear h hn hs1 hst hi hz0 hz1 hz2
  go_enter Tryd.func160, Tryd.ntmps160
  go_wp2_with (go_at_call 140; go_loud (
     refine KC.out.mono ?_
     rintro e w1 ⟨rfl, h1, g1⟩
     have H1 := Lib.hid h1
     have G1 := Lib.hid g1
     obtain ⟨w2, hmk, ho, hg⟩ := run_makeSlice_full (P := Tryd.prog) w1 w1.heap.size 45 5 i0 (.int .u8 0) 1 Tryd.underlying45 HI.out HI0.out HI1.out .i64 .i64 n (by omega) (by rw [HI2.out]; omega) (by unfold maxLen; omega) (Nat.le_refl _)
     have hb2 : Below w1.heap.size w1 w2 := ⟨hg.os, hg.tape, hg.output, hg.size, fun k hk => hg.block k hk (by simp)⟩
     have H2 := Lib.hid (h1.go hb2)
     have G2 := Lib.hid (g1.trans (Fr2.below hb2 R T))
     have HGR := Lib.hid (show R < w1.heap.size from h1.lt)
     have HGT := Lib.hid (show T < w1.heap.size from h1.rd.lt)
     have HSZ := Lib.hid g1.size
     rw [show (Value.int IntKind.u8 0).cells = #[.int .u8 0] from rfl, Nat.mul_one, toList_madeCells_one, ← upto_zero n s1] at ho
     have HO := Lib.hid ho
     obtain ⟨G, hGG⟩ : ∃ G, G = w1.heap.size := ⟨_, rfl⟩
     rw [← hGG] at hmk HO HGR HGT HSZ
     clear h1 g1 hb2 hg ho hGG))
  go_loopw [10] (fun s10 wr => ∃ i : Nat, i ≤ n ∧ s10 = .int .i64 i ∧ Hid (FRd cg wr R T (itS byteU i s1).2) ∧ Hid (wr.ownsRow G 5 1 (.slice (some ⟨G, 0, none⟩) n n) n (by_ (upto i n s1))) ∧ Hid (Fr2 R T w wr)) (fun s10 _ => n - (intOf s10).toNat)
  case atStart => exact ⟨0, Nat.zero_le _, rfl, H2, HO, G2⟩
  case round =>
    clear H2 HO G2 H1 G1
    obtain ⟨i, hi, rfl, H2, HO, G2⟩ := hrel
    by_cases hlt : i < n
    · obtain ⟨c0, c1, f1⟩ := H2.out.cells
      have KB := Lib.hid (byte_all H2.out.rd)
      have HB := Lib.hid (byte_lt (itS byteU i s1).2)
      have hbv := HB.out
      have HUS := Lib.hid (upto_set (s := s1) hlt)
      have HUA := Lib.hid (upto_at (s := s1) hlt)
      have HST := Lib.hid (show (itS byteU (i + 1) s1).2 = (byteS (itS byteU i s1).2).2 from rfl)
      obtain ⟨b, hb⟩ : ∃ b, b = (byteS (itS byteU i s1).2).1 := ⟨_, rfl⟩
      rw [← hb] at KB HUS hbv
      clear hb HB
      go_wp2_with (go_at_call 158; go_loud (
         refine KB.out.mono ?_
         rintro e w3 ⟨rfl, hr, hg⟩
         have H3 := Lib.hid (H2.out.step hr hg (byte_ov _))
         have ho3 := HO.out.kept hg (.inr (fun e => by have e2 : G = T := Option.some.inj e; have := HGT.out; omega))
         have HO3 := Lib.hid ho3
         have G3 := Lib.hid (G2.out.trans (Fr2.grown hg R))
         have q1 := BxC.own_cell ho3 (g := G) rfl HUA.out
         have q2 := BxC.own_free ho3 (g := G) rfl i
         clear hr hg ho3 c0 c1 f1))
      go_roundw
      case rel =>
        refine ⟨i + 1, by omega, by go_num, ?_, ?_, ?_⟩
        · show FRd cg _ R T _
          rw [HST.out]
          exact H3.out.set (by have := HGR.out; omega) (by have := HGT.out; omega) _
        · have := BxC.own_set HO3.out (g := G) rfl i (.int .u8 (b : Nat))
          rw [HUS.out] at this
          exact this
        · exact G3.out.set HSZ.out _
      case measure => simp [intOf]; omega
    · obtain rfl : n = i := by omega
      have ha := bytesAt_own HO.out
      rw [upto_end] at ha
      have hcv := ha.conv n
      clear ha
      go_wp2_with fail
      go_ret
      exact ⟨rfl, H2.out, G2.out⟩
end Go.Proofs.YthbilcadifbaeaaDoor.OlS
