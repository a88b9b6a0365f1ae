/-
  The third form's reader: numbers, keys, whatever the bytes are.
-/
import Derived.Test.YtdgcihgohkgecaaF3D
import Derived.Test.YtdgcihgohkgecaaPtR
namespace Go.Proofs.Ytdgcihgohkgecaa.F3R
open Go.RowKit Go.Proofs.Ytdgcihgohkgecaa.BxD Go.Proofs.Ytdgcihgohkgecaa.PkKit Go.Proofs.Ytdgcihgohkgecaa.PkF Go.Proofs.Ytdgcihgohkgecaa.BxR Go.Proofs.Ytdgcihgohkgecaa.OlD Go.Proofs.Ytdgcihgohkgecaa.PtD Go.Proofs.Ytdgcihgohkgecaa.PtK Go.Proofs.Ytdgcihgohkgecaa.PtR Go.Proofs.Ytdgcihgohkgecaa.F3D

set_option maxHeartbeats 1000000 in
set_option maxRecDepth 100000 in
theorem number_r {w : World} {R T : Nat} {s : St} (h : PRd w R T s) : Calls Try.prog 38 #[.agg #[ptr R]] w (Pq w R T (.int .i64 ((ntS 1000000 s).1 : Nat)) (ntS 1000000 s).2) := by
  have KN := Lib.hid (number_p (h.alloc (.cells #[ptr R] 54)) 1000000)
  have F0 := Lib.hid ((Fr2.refl R T w).alloc (.cells #[ptr R] 54))
  clear h
  go_enter Try.func38, Try.ntmps38
  go_wp2_with (go_at_call 40; go_loud (
     refine KN.out.mono ?_
     rintro e w1 ⟨rfl, h1, f1⟩
     have H1 := Lib.hid h1
     have F1 := Lib.hid (F0.out.trans f1)
     clear h1 f1))
  go_ret
  exact ⟨rfl, H1.out, F1.out⟩
/-- A reader in a block of the call's own. -/
def RBk (w : World) (P R : Nat) : Prop := w.heap[P]? = some (.cells #[ptr R] 54 (0, 0))
theorem RBk.cell {w : World} {P R : Nat} (h : RBk w P R) : w.cell? { block := P, off := 0 } = some (ptr R) := (cell_of_row w P 0 _ _ _ h).trans rfl
/-- Keys that were read: a row of ints of the call's own. -/
def KysOut (ks : List Int) (s : St) (w : World) (R T : Nat) (e : Ending) (w' : World) : Prop :=
  ∃ K c, e = .returned (.slice K ks.length c) ∧ ks.length ≤ 64 ∧ w'.ownsRow w.heap.size 3 1 (.slice K ks.length c) ks.length (ks.map (Value.int .i64)) ∧ PRd w' R T s ∧ Fr2 R T w w'
set_option maxHeartbeats 2000000 in
set_option maxRecDepth 100000 in
theorem keys_r {w : World} {R T : Nat} {s : St} (h : PRd w R T s) : Calls Try.prog 55 #[.agg #[ptr R]] w (KysOut (kyS3 s).1 (kyS3 s).2 w R T) := by
  have KN := Lib.hid (number_p (h.alloc (.cells #[ptr R] 54)) 64)
  have hn64 := nt_le 64 s
  obtain ⟨n, hn⟩ : ∃ n, n = (ntS 64 s).1 := ⟨_, rfl⟩
  obtain ⟨s1, hs1⟩ : ∃ s1, s1 = (ntS 64 s).2 := ⟨_, rfl⟩
  have hk : kyS3 s = ((itG keyF n (s1, -1)).1, (itG keyF n (s1, -1)).2.1) := by unfold kyS3; rw [← hn, ← hs1]
  rw [← hn] at hn64
  rw [← hn, ← hs1] at KN
  rw [hk]
  unfold KysOut
  simp only [itG_len]
  have F0 := Lib.hid ((Fr2.refl R T w).alloc (.cells #[ptr R] 54))
  have B0 := Lib.hid (show RBk (w.alloc (.cells #[ptr R] 54)) w.heap.size R from heap_alloc_new w _)
  have hRl := h.lt
  have hTl := h.rd.lt
  clear h hn hs1 hk
  go_enter Try.func55, Try.ntmps55
  go_wp2_with (go_at_call 40; go_loud (
     refine KN.out.mono ?_
     rintro e w1 ⟨rfl, h1, f1⟩
     have H1 := Lib.hid h1
     have F1 := Lib.hid (F0.out.trans f1)
     have B1 := Lib.hid (show RBk w1 w.heap.size R from (f1.block _ (by simp) (by omega) (by omega)).trans B0.out)
     clear h1 f1))
  clear B0 F0 KN
  go_loopw [3, 4, 8] (fun s3 s4 s8 wr => ∃ (K : Option Addr) (c j : Nat) (a : Int), s3 = .slice K j c ∧ j ≤ n ∧ s8 = .int .i64 j ∧ s4 = .int .i64 a ∧ (-1 ≤ a ∧ a ≤ 1000000 * j) ∧ Hid (RBk wr w.heap.size R) ∧ Hid (PRd wr R T (itG keyF j (s1, -1)).2.1) ∧ Hid (a = (itG keyF j (s1, -1)).2.2) ∧ Hid (Fr2 R T w wr) ∧ Hid (wr.ownsRow w.heap.size 3 1 (.slice K j c) j ((itG keyF j (s1, -1)).1.map (Value.int .i64)))) (fun _ _ s8 _ => n - (intOf s8).toNat)
  case atStart => exact ⟨none, 0, 0, -1, rfl, Nat.zero_le _, rfl, rfl, by omega, B1.out, H1.out, rfl, F1.out, World.ownsRow_nil _ _ _ _⟩
  case round =>
    clear H1 F1 B1
    obtain ⟨K, c, j, a, rfl, hj, rfl, rfl, ha, B1, H1, HA, G1, HO⟩ := hrel
    by_cases hlt : j < n
    · have KM := Lib.hid (number_r H1.out)
      have hx6 := nt_le 1000000 (itG keyF j (s1, -1)).2.1
      obtain ⟨x, hx⟩ : ∃ x, x = (ntS 1000000 (itG keyF j (s1, -1)).2.1).1 := ⟨_, rfl⟩
      obtain ⟨s2, hs2⟩ : ∃ s2, s2 = (ntS 1000000 (itG keyF j (s1, -1)).2.1).2 := ⟨_, rfl⟩
      have HJ := Lib.hid (show (itG keyF (j + 1) (s1, -1)).1 = (itG keyF j (s1, -1)).1 ++ [a + ((x : Nat) : Int)] ∧ (itG keyF (j + 1) (s1, -1)).2 = (s2, a + ((x : Nat) : Int)) by rw [hx, hs2, HA.out]; exact ⟨rfl, rfl⟩)
      rw [← hx, ← hs2] at KM
      rw [← hx] at hx6
      have hwa : IntKind.i64.wrap (a + (x : Int)) = a + (x : Int) := by rw [IntKind.wrap_i64]; omega
      have q0 := B1.out.cell
      have hsz := G1.out.size
      clear hx hs2
      go_wp2_with (first
        | (go_at_call 38; go_loud (
           refine KM.out.mono ?_
           rintro e w2 ⟨rfl, h2, g2⟩
           have H2 := Lib.hid h2
           have G2 := Lib.hid (G1.out.trans g2)
           have hPl : w.heap.size < wr.heap.size := (Array.getElem?_eq_some_iff.1 B1.out).1
           have B2 := Lib.hid (show RBk w2 w.heap.size R from (g2.block _ hPl (by omega) (by omega)).trans B1.out)
           have HO2 := Lib.hid (Fr2.own g2 HO.out hRl hTl)
           have hsz2 := g2.size
           clear h2 g2 q0))
        | (at_builtin; go_loud (
           refine wpList_rows elI rfl _ _ rfl rfl rfl (HO2.out.alloc _) (src_new w2 #[.int .i64 (a + (x : Int))] 3 (m := 1) rfl rfl (by intro u hu; simp at hu; subst hu; rfl)) (by unfold maxLen; omega) (by omega) (by simp; omega) ?_
           intro v3 w3 hown3 hg3 _
           obtain ⟨K3, k3, rfl, hk3⟩ := BxR.own_slice hown3
           have HO3 := Lib.hid (show w3.ownsRow w.heap.size 3 1 (.slice K3 (j + 1) k3) (j + 1) ((itG keyF (j + 1) (s1, -1)).1.map (Value.int .i64)) by rw [HJ.out.1, List.map_append]; exact hown3)
           have hlo : ∀ g, g < w.heap.size → w3.heap[g]? = w2.heap[g]? := fun g hg => (hg3.block g (by simp; omega) (fun e => by have := (HO2.out.lt g e.symm).1; omega)).trans (heap_alloc_old w2 _ (by omega))
           have F3 : Below w.heap.size w2 w3 := ((Below.refl w.heap.size w2).alloc (by omega) (.cells #[.int .i64 (a + (x : Int))] 3)).grown hg3 (by simp; omega) (fun g e => (HO2.out.lt g e).1)
           have G3 := Lib.hid (show Fr2 R T w w3 from ⟨F3.os.trans G2.out.os, F3.tape.trans G2.out.tape, F3.output.trans G2.out.output, Nat.le_trans G2.out.size F3.size, fun k k1 k2 k3 => (hlo k k1).trans (G2.out.block k k1 k2 k3)⟩)
           have H3 := Lib.hid (show PRd w3 R T s2 from ⟨(hlo R hRl).trans H2.out.blk, H2.out.rd.below (B := w.heap.size) F3 hTl, H2.out.ne⟩)
           have hPl2 : w.heap.size < w2.heap.size := (Array.getElem?_eq_some_iff.1 B2.out).1
           have B3 := Lib.hid (show RBk w3 w.heap.size R from ((hg3.block _ (by simp; omega) (fun e => by
             have hc := own_ne_blk HO2.out B2.out (by decide)
             exact hc e.symm)).trans (heap_alloc_old w2 _ hPl2)).trans B2.out)
           clear hown3 hg3 hlo F3)))
      go_roundw
      case rel => exact ⟨K3, k3, j + 1, a + (x : Int), rfl, by omega, by go_num, rfl, by omega, B3, by rw [HJ.out.2]; exact H3, by rw [HJ.out.2]; rfl, G3, HO3⟩
      case measure => simp [intOf]; omega
    · obtain rfl : n = j := by omega
      go_wp2_with fail
      go_ret
      exact ⟨K, c, rfl, hn64, HO.out, H1.out, G1.out⟩
end Go.Proofs.Ytdgcihgohkgecaa.F3R
