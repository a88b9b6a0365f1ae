/-
  A box that the third form's reader reads: the walk.
-/
import Derived.Test.YtdgcihgohkgecaaF3U
namespace Go.Proofs.Ytdgcihgohkgecaa.F3V
open Go.RowKit Go.Proofs.Ytdgcihgohkgecaa.BxD Go.Proofs.Ytdgcihgohkgecaa.BxKit Go.Proofs.Ytdgcihgohkgecaa.BxR Go.Proofs.Ytdgcihgohkgecaa.BxC Go.Proofs.Ytdgcihgohkgecaa.OlD Go.Proofs.Ytdgcihgohkgecaa.PtD Go.Proofs.Ytdgcihgohkgecaa.PtK Go.Proofs.Ytdgcihgohkgecaa.PtR Go.Proofs.Ytdgcihgohkgecaa.F3D Go.Proofs.Ytdgcihgohkgecaa.F3R Go.Proofs.Ytdgcihgohkgecaa.F3M Go.Proofs.Ytdgcihgohkgecaa.F3U
open Go.Proofs.Ytdgcihgohkgecaa.PkF (ptr RD)

theorem msgF_uid (k : Nat) (s : St) (a : Int) : (itG msgF k (s, a)).2.2 ≤ a + 1000000 * k ∧ a ≤ (itG msgF k (s, a)).2.2 := by
  induction k with
  | zero => exact ⟨by simp [itG], by simp [itG]⟩
  | succ k ih =>
    have e1 : (itG msgF (k + 1) (s, a)).2 = (msgF (itG msgF k (s, a)).2).2 := rfl
    rw [e1]
    generalize (itG msgF k (s, a)).2 = y at ih ⊢
    have h1 := nt_le 1000000 y.1
    obtain ⟨u, o, d, f, g, i, x, hu, _, _, _, _, _, _, e⟩ := msg3_parts y.2 y.1
    rw [← hu] at h1
    have h2 : (msgF y).2.2 = y.2 + ((u.1 : Nat) : Int) := by
      unfold msgF
      rw [e]
    rw [h2]
    constructor <;> omega
set_option maxHeartbeats 4000000 in
set_option maxRecDepth 100000 in
theorem box_r {w : World} {R T : Nat} {s : St} (h : PRd w R T s) : Calls Try.prog 23 #[.agg #[ptr R]] w (BoxRd (box3S s).1 (box3S s).2 w R T) := by
  have b0 := BS.start h
  unfold zbox at b0
  have B0 := Lib.hid b0
  obtain ⟨s1, hs1⟩ : ∃ s1, s1 = (ntS 1000000 s).2 := ⟨_, rfl⟩
  obtain ⟨v, hv⟩ : ∃ v, v = (ntS 1000000 s).1 := ⟨_, rfl⟩
  obtain ⟨s2, hs2⟩ : ∃ s2, s2 = (ntS 1000000 s1).2 := ⟨_, rfl⟩
  obtain ⟨n, hn⟩ : ∃ n, n = (ntS 1000000 s1).1 := ⟨_, rfl⟩
  obtain ⟨s3, hs3⟩ : ∃ s3, s3 = (ntS 1000000 s2).2 := ⟨_, rfl⟩
  obtain ⟨g, hg⟩ : ∃ g, g = (ntS 1000000 s2).1 := ⟨_, rfl⟩
  obtain ⟨s4, hs4⟩ : ∃ s4, s4 = (txtS 24 s3).2 := ⟨_, rfl⟩
  obtain ⟨i, hi⟩ : ∃ i, i = (txtS 24 s3).1 := ⟨_, rfl⟩
  obtain ⟨s5, hs5⟩ : ∃ s5, s5 = (ntS 64 s4).2 := ⟨_, rfl⟩
  obtain ⟨c, hc⟩ : ∃ c, c = (ntS 64 s4).1 := ⟨_, rfl⟩
  obtain ⟨s6, hs6⟩ : ∃ s6, s6 = (itS (txtS 24) c s5).2 := ⟨_, rfl⟩
  obtain ⟨s7, hs7⟩ : ∃ s7, s7 = (ntS 60 s6).2 := ⟨_, rfl⟩
  obtain ⟨e, he⟩ : ∃ e, e = (ntS 60 s6).1 := ⟨_, rfl⟩
  have hbox : box3S s = (⟨i, (v : Nat), (n : Nat), (g : Nat), (itS (txtS 24) c s5).1, (itG msgF e (s7, 0)).1⟩, (itG msgF e (s7, 0)).2.1) := by
    unfold box3S
    simp only [← hs1, ← hs2, ← hs3, ← hs4, ← hv, ← hn, ← hg, ← hi, ← hs5, ← hc, ← hs6, ← hs7, ← he]
  rw [hbox]
  have hc32 : c ≤ 64 := by rw [hc]; exact nt_le _ _
  have he60 : e ≤ 60 := by rw [he]; exact nt_le _ _
  have K0 := Lib.hid (fun (wr : World) (y : PRd wr R T s) => show Calls Try.prog 38 #[.agg #[ptr R]] wr (Pq wr R T (.int .i64 (v : Nat)) s1) from by rw [hv, hs1]; exact number_r y)
  have K1 := Lib.hid (fun (wr : World) (y : PRd wr R T s1) => show Calls Try.prog 38 #[.agg #[ptr R]] wr (Pq wr R T (.int .i64 (n : Nat)) s2) from by rw [hn, hs2]; exact number_r y)
  have K2 := Lib.hid (fun (wr : World) (y : PRd wr R T s2) => show Calls Try.prog 38 #[.agg #[ptr R]] wr (Pq wr R T (.int .i64 (g : Nat)) s3) from by rw [hg, hs3]; exact number_r y)
  have K3 := Lib.hid (fun (wr : World) (y : PRd wr R T s3) => show Calls Try.prog 39 #[ptr T, .int .i64 24] wr (Pq wr R T (.string i) s4) from by rw [hi, hs4]; exact text_p y 24)
  have K4 := Lib.hid (fun (wr : World) (y : PRd wr R T s4) => show Calls Try.prog 40 #[ptr R, .int .i64 64] wr (Pq wr R T (.int .i64 (c : Nat)) s5) from by rw [hc, hs5]; exact number_p y 64)
  have K5 := Lib.hid (fun (wr : World) (y : PRd wr R T s6) => show Calls Try.prog 40 #[ptr R, .int .i64 60] wr (Pq wr R T (.int .i64 (e : Nat)) s7) from by rw [he, hs7]; exact number_p y 60)
  have HS6 := Lib.hid hs6
  clear h b0 hs1 hv hs2 hn hs3 hg hs4 hi hs5 hc hs6 hs7 he hbox
  go_enter Try.func23, Try.ntmps23
  go_upto_region 2 with fail
  generalize (World.alloc (World.alloc (World.alloc w _) _) _) = wa0 at B0 ⊢
  have KK := Lib.hid (K0.out wa0 B0.out.rd)
  have b0 := B0.out.rb.cell
  go_upto_region 3 with (go_at_call 38; go_loud (
     refine KK.out.mono ?_
     rintro e wb0 ⟨rfl, hr, hf⟩
     have N0 := Lib.hid (B0.out.keep hf hr)
     have q0 := N0.out.cells.2.1
     have q1 := N0.out.cells.2.2.2.2.2.2 1
     clear hr hf b0))
  have B1 := Lib.hid (N0.out.set (v' := v) (n' := 0) (hg' := 0) 1 (.int .i64 (v : Nat)) rfl)
  clear B0 N0 KK q0 q1
  generalize (World.setCell wb0 _ _) = wa1 at B1 ⊢
  have KK := Lib.hid (K1.out wa1 B1.out.rd)
  have b0 := B1.out.rb.cell
  go_upto_region 4 with (go_at_call 38; go_loud (
     refine KK.out.mono ?_
     rintro e wb1 ⟨rfl, hr, hf⟩
     have N1 := Lib.hid (B1.out.keep hf hr)
     have q0 := N1.out.cells.2.2.1
     have q1 := N1.out.cells.2.2.2.2.2.2 2
     clear hr hf b0))
  have B2 := Lib.hid (N1.out.set (v' := v) (n' := n) (hg' := 0) 2 (.int .i64 (n : Nat)) rfl)
  clear B1 N1 KK q0 q1
  generalize (World.setCell wb1 _ _) = wa2 at B2 ⊢
  have KK := Lib.hid (K2.out wa2 B2.out.rd)
  have b0 := B2.out.rb.cell
  go_upto_region 5 with (go_at_call 38; go_loud (
     refine KK.out.mono ?_
     rintro e wb2 ⟨rfl, hr, hf⟩
     have N2 := Lib.hid (B2.out.keep hf hr)
     have q0 := N2.out.cells.2.2.2.1
     have q1 := N2.out.cells.2.2.2.2.2.2 3
     clear hr hf b0))
  have B3 := Lib.hid (N2.out.set (v' := v) (n' := n) (hg' := g) 3 (.int .i64 (g : Nat)) rfl)
  clear B2 N2 KK q0 q1
  generalize (World.setCell wb2 _ _) = wa3 at B3 ⊢
  have KK := Lib.hid (K3.out wa3 B3.out.rd)
  have b0 := B3.out.rb.cell
  have b1 := B3.out.rd.cells.1
  go_upto_region 6 with (go_at_call 39; go_loud (
     refine KK.out.mono ?_
     rintro e wb3 ⟨rfl, hr, hf⟩
     have N3 := Lib.hid (B3.out.keep hf hr)
     have q0 := N3.out.cells.1
     have q1 := N3.out.cells.2.2.2.2.2.2 0
     clear hr hf b0 b1))
  have B4 := Lib.hid (N3.out.set (id' := i) (v' := v) (n' := n) (hg' := g) 0 (.string i) rfl)
  clear B3 N3 KK q0 q1
  generalize (World.setCell wb3 _ _) = wa4 at B4 ⊢
  have KK := Lib.hid (K4.out wa4 B4.out.rd)
  have b0 := B4.out.rb.cell
  go_wp2_with (go_at_call 40; go_loud (
     refine KK.out.mono ?_
     rintro e w6 ⟨rfl, hr, hf⟩
     have B5 := Lib.hid (B4.out.keep hf hr)
     clear hr hf b0))
  clear B4 KK
  go_loopw [25] (fun s25 wr => ∃ (j : Nat) (WA : Option Addr) (wc : Nat), j ≤ c ∧ s25 = .int .i64 j ∧ Hid (BS w wr R T (itS (txtS 24) j s5).2 i v n g WA j wc none 0 0 (itS (txtS 24) j s5).1 [])) (fun s25 _ => c - (intOf s25).toNat)
  case atStart => exact ⟨0, none, 0, Nat.zero_le _, rfl, B5.out⟩
  case round =>
    clear B5
    obtain ⟨j, WA, wc, hj, rfl, B5⟩ := hrel
    have hsz := B5.out.size
    by_cases hlt : j < c
    · have c0 := B5.out.rd.cells.1
      have cb := B5.out.rb.cell
      obtain ⟨q0, q1, q2, q3, q4, q5, qf⟩ := B5.out.cells
      have qf4 := qf 4
      clear qf
      have KT := Lib.hid (fun (w' : World) (hb : Below wr.heap.size wr w') => text_p (B5.out.rd.go hb) 24)
      obtain ⟨t, ht⟩ : ∃ t, t = (txtS 24 (itS (txtS 24) j s5).2).1 := ⟨_, rfl⟩
      obtain ⟨s', hs'⟩ : ∃ s', s' = (txtS 24 (itS (txtS 24) j s5).2).2 := ⟨_, rfl⟩
      rw [← ht, ← hs'] at KT
      have HJ := Lib.hid (show (itS (txtS 24) (j + 1) s5).1 = (itS (txtS 24) j s5).1 ++ [t] ∧ (itS (txtS 24) (j + 1) s5).2 = s' by rw [ht, hs']; exact ⟨rfl, rfl⟩)
      clear ht hs'
      go_upto_region 8 with fail
      go_region_law (first
        | (go_simp; go_at_call 39
           ((with_reducible refine (KT.out _ ?d1).mono ?_); rotate_left)
           case d1 => first | exact Below.refl _ _ | exact (Below.refl _ _).drew
           go_loud (
           rintro e w7 ⟨rfl, hr, hf⟩
           have B6 := Lib.hid (show BS w w7 R T s' i v n g WA j wc none 0 0 (itS (txtS 24) j s5).1 [] by first | exact B5.out.keep hf hr | exact (B5.out.go ((Below.refl _ _).drew)).keep hf hr)
           have x0 := B6.out.rd.cells.1
           have xb := B6.out.rb.cell
           have x4 := B6.out.cells.2.2.2.2.1
           have xf := B6.out.cells.2.2.2.2.2.2 4
           have a4 : (w7.alloc (.cells #[.string t] 9)).cell? { block := w.heap.size + 2, off := 4 } = some (.slice WA j wc) := (World.cell?_of_block (heap_alloc_old w7 _ (by have := B6.out.size; show w.heap.size + 2 < _; omega))).trans x4
           have O6 := Lib.hid (B6.out.ow.alloc (.cells #[.string t] 9))
           have S6 := Lib.hid (src_new w7 #[.string t] 9 (b := w7.heap.size) (m := 1) (sz := 1) rfl rfl (by intro u hu; simp at hu; subst hu; rfl))
           have Z6 := Lib.hid (show w.heap.size + 3 ≤ (w7.alloc (.cells #[.string t] 9)).heap.size by have := B6.out.size; simp; omega)
           clear hr hf
           dsimp only))
        | (go_loud (
           refine step_rows elS (c := 1) rfl (.tmp 28) (.tmp 35) rfl (by simp [Act.eval]) (by simp [Act.eval]) O6.out S6.out (by unfold maxLen; omega) (by omega) Z6.out ?_
           intro v8 w8 hown8 hg8 _
           obtain ⟨A8, k8, rfl, hk8⟩ := own_slice hown8
           have B7 := Lib.hid ((B6.out.go ((Below.refl _ _).alloc (Nat.le_refl _) (.cells #[.string t] 9))).word (t := t) (by rw [List.map_append]; exact hown8) hg8)
           have hz2 := B6.out.size
           have hlo : ∀ p : Addr, p.block < w.heap.size + 3 → w8.cell? p = w7.cell? p ∧ w8.frozen? p = w7.frozen? p := fun p hp => by
             have h1 : w8.heap[p.block]? = w7.heap[p.block]? := (hg8.block p.block (by simp; omega) (fun e2 => by have := (O6.out.lt _ e2.symm).1; omega)).trans (heap_alloc_old w7 _ (by omega))
             exact ⟨World.cell?_of_block h1, World.frozen?_of_block h1⟩
           have hz := B6.out.hR
           have z0 := ((hlo { block := R, off := 0 } (by show R < _; omega)).1).trans x0
           have zb := ((hlo { block := w.heap.size, off := 0 } (by show w.heap.size < _; omega)).1).trans xb
           have z4 := ((hlo { block := w.heap.size + 2, off := 4 } (by show w.heap.size + 2 < _; omega)).1).trans x4
           have zf := ((hlo { block := w.heap.size + 2, off := 4 } (by show w.heap.size + 2 < _; omega)).2).trans xf
           clear hlo hz hz2 hown8 hg8
           dsimp only)))
      all_goals
        clear KT c0 cb q0 q1 q2 q3 q4 q5 qf4 x0 xb x4 xf a4 z0 zb z4 zf O6 S6 Z6
        go_wp2_with fail
        go_roundw
        case rel =>
          refine ⟨j + 1, A8, k8, by omega, by go_num, ?_⟩
          show BS w _ R T (itS (txtS 24) (j + 1) s5).2 i v n g A8 (j + 1) k8 none 0 0 (itS (txtS 24) (j + 1) s5).1 []
          rw [HJ.out.1, HJ.out.2]
          exact B7.out
        case measure => simp [intOf]; omega
    · obtain rfl : c = j := by omega
      obtain ⟨ws, hws⟩ : ∃ ws, ws = (itS (txtS 24) c s5).1 := ⟨_, rfl⟩
      rw [← HS6.out, ← hws] at B5
      have HWS := Lib.hid hws
      rw [← hws]
      clear hws HS6
      have KK := Lib.hid (K5.out wr B5.out.rd)
      have b0 := B5.out.rb.cell
      go_wp2_with (go_at_call 40; go_loud (
         refine KK.out.mono ?_
         rintro e w6 ⟨rfl, hr, hf⟩
         have B6 := Lib.hid (B5.out.keep hf hr)
         clear hr hf b0))
      clear B5 KK
      go_loopw [4, 42] (fun s4 s42 wr => ∃ (k : Nat) (MA : Option Addr) (mcc : Nat) (rs : List Raw) (a : Int), k ≤ e ∧ s42 = .int .i64 k ∧ s4 = .int .i64 a ∧ Hid (a = (itG msgF k (s7, 0)).2.2) ∧ Hid (BS w wr R T (itG msgF k (s7, 0)).2.1 i v n g WA c wc MA k mcc ws rs) ∧ Hid (rs.map Raw.m = (itG msgF k (s7, 0)).1)) (fun _ s42 _ => e - (intOf s42).toNat)
      case atStart => exact ⟨0, none, 0, [], 0, Nat.zero_le _, rfl, rfl, rfl, B6.out, rfl⟩
      case round =>
        clear B6 hsz
        obtain ⟨k, MA, mcc, rs, a, hk, rfl, rfl, HA, B6, HR⟩ := hrel
        have hsz := B6.out.size
        by_cases hlt2 : k < e
        · have hab := msgF_uid k s7 0
          rw [← HA.out] at hab
          have KM := Lib.hid (msg_r (last := a) B6.out.rd (by omega))
          obtain ⟨m, hm⟩ : ∃ m, m = (msg3S a (itG msgF k (s7, 0)).2.1).1 := ⟨_, rfl⟩
          obtain ⟨s', hs'⟩ : ∃ s', s' = (msg3S a (itG msgF k (s7, 0)).2.1).2 := ⟨_, rfl⟩
          rw [← hm, ← hs'] at KM
          have HJ := Lib.hid (show (itG msgF (k + 1) (s7, 0)).1 = (itG msgF k (s7, 0)).1 ++ [m] ∧ (itG msgF (k + 1) (s7, 0)).2 = (s', m.uid) by
            rw [hm, hs', HA.out]; exact ⟨rfl, rfl⟩)
          clear hm hs' hab
          obtain ⟨kl, hkl⟩ : ∃ kl, kl = m.keys.length := ⟨_, rfl⟩
          have HKL := Lib.hid hkl
          clear hkl
          have b0 := B6.out.rb.cell
          go_upto_region 14 with (go_at_call 41; go_loud (
             refine KM.out.mono ?_
             rintro e w7 ⟨K7, k7, rfl, hown, hr, hf⟩
             rw [← HKL.out] at hown ⊢
             have B7 := Lib.hid (B6.out.keep hf hr)
             have HK7 := Lib.hid (own_base hown hsz)
             clear hr hf hown b0))
          have B8 := Lib.hid (B7.out.go ((Below.refl _ _).alloc (Nat.le_refl _) (.cells #[.int .i64 m.uid, .int .i64 m.mod, .int .i64 m.date, .string m.id, .int .i64 m.flags, .slice K7 kl k7, .string m.text] 39)))
          have HK8 := Lib.hid (HK7.out.alloc (.cells #[.int .i64 m.uid, .int .i64 m.mod, .int .i64 m.date, .string m.id, .int .i64 m.flags, .slice K7 kl k7, .string m.text] 39))
          have HL8 := Lib.hid (heap_alloc_new w7 (.cells #[.int .i64 m.uid, .int .i64 m.mod, .int .i64 m.date, .string m.id, .int .i64 m.flags, .slice K7 kl k7, .string m.text] 39))
          obtain ⟨L, hL⟩ : ∃ L, L = w7.heap.size := ⟨_, rfl⟩
          have hL3 : w.heap.size + 3 ≤ L := by rw [hL]; exact B7.out.size
          have hneL : (Value.slice MA k mcc).ownBlock ≠ some L := fun e2 => by have := (B7.out.om.lt _ e2).2; omega
          rw [← hL] at HL8 ⊢
          clear hL B7 HK7
          generalize (World.alloc w7 _) = w8 at B8 HK8 HL8 ⊢
          have hLw : L < w8.heap.size := (Array.getElem?_eq_some_iff.1 HL8.out).1
          have cX := fun o => cell_of_row w8 L o _ _ _ HL8.out
          have d0 := (cX 0).trans (show _ = some (Value.int .i64 m.uid) from rfl)
          have d1 := (cX 1).trans (show _ = some (Value.int .i64 m.mod) from rfl)
          have d2 := (cX 2).trans (show _ = some (Value.int .i64 m.date) from rfl)
          have d3 := (cX 3).trans (show _ = some (Value.string m.id) from rfl)
          have d4 := (cX 4).trans (show _ = some (Value.int .i64 m.flags) from rfl)
          have d5 := (cX 5).trans (show _ = some (Value.slice K7 kl k7) from rfl)
          have d6 := (cX 6).trans (show _ = some (Value.string m.text) from rfl)
          clear cX
          have x5 := B8.out.cells.2.2.2.2.2.1
          have O8 := Lib.hid (B8.out.om.alloc (.cells #[.int .i64 m.uid, .int .i64 m.mod, .int .i64 m.date, .string m.id, .int .i64 m.flags, .slice K7 kl k7, .string m.text] 39))
          have S8 := Lib.hid (src_new w8 #[.int .i64 m.uid, .int .i64 m.mod, .int .i64 m.date, .string m.id, .int .i64 m.flags, .slice K7 kl k7, .string m.text] 39 (b := w8.heap.size) (m := 1) (sz := 7) rfl rfl (by intro u hu; simp at hu; rcases hu with h | h | h | h | h | h | h <;> (subst h; rfl)))
          have Z8 := Lib.hid (show w.heap.size + 3 ≤ (w8.alloc (.cells #[.int .i64 m.uid, .int .i64 m.mod, .int .i64 m.date, .string m.id, .int .i64 m.flags, .slice K7 kl k7, .string m.text] 39)).heap.size by have := B8.out.size; simp; omega)
          go_upto_region 15 with (at_builtin; go_loud (
             refine wpList_rows elM rfl _ _ rfl rfl rfl O8.out S8.out (by unfold maxLen; omega) (by omega) Z8.out ?_
             intro v9 w9 hown9 hg9 hat9
             obtain ⟨A9, k9, rfl, hk9⟩ := own_slice hown9
             have B9 := Lib.hid ((B8.out.go ((Below.refl _ _).alloc (Nat.le_refl _) (.cells #[.int .i64 m.uid, .int .i64 m.mod, .int .i64 m.date, .string m.id, .int .i64 m.flags, .slice K7 kl k7, .string m.text] 39))).msg (r := ⟨m, K7, k7⟩) (by rw [← HKL.out]; exact HK8.out.alloc _) (by rw [mc_append]; unfold mc cell7; simp only [List.flatMap_cons, List.flatMap_nil, List.append_nil]; rw [← HKL.out]; exact hown9) hg9)
             have hz2 := B8.out.size
             have hlo : ∀ p : Addr, p.block < w.heap.size + 3 → w9.cell? p = w8.cell? p ∧ w9.frozen? p = w8.frozen? p := fun p hp => by
               have h1 : w9.heap[p.block]? = w8.heap[p.block]? := (hg9.block p.block (by simp; omega) (fun e2 => by have := (O8.out.lt _ e2.symm).1; omega)).trans (heap_alloc_old w8 _ (by omega))
               exact ⟨World.cell?_of_block h1, World.frozen?_of_block h1⟩
             have z5 := ((hlo { block := w.heap.size + 2, off := 5 } (by show w.heap.size + 2 < _; omega)).1).trans x5
             have zf := ((hlo { block := w.heap.size + 2, off := 5 } (by show w.heap.size + 2 < _; omega)).2).trans (B8.out.cells.2.2.2.2.2.2 5)
             have HU9 := Lib.hid (show (w9.setCell { block := w.heap.size + 2, off := 5 } (.slice A9 (k + 1) k9)).cell? { block := L, off := 0 } = some (.int .i64 m.uid) from by
               have h1 : w9.heap[L]? = w8.heap[L]? := (hg9.block L (by simp; omega) (fun e2 => hneL e2.symm)).trans (heap_alloc_old w8 _ hLw)
               have h2 : (w9.setCell { block := w.heap.size + 2, off := 5 } (.slice A9 (k + 1) k9)).heap[L]? = w9.heap[L]? := Below.heap_setCell _ _ _ _ (by show L ≠ w.heap.size + 2; omega)
               exact (World.cell?_of_block (h2.trans h1)).trans d0)
             clear hlo hz2 hown9 hg9 hat9 x5 d1 d2 d3 d4 d5 d6))
          clear d0 z5 zf O8 S8 Z8 KM HK8 B8
          generalize (World.setCell w9 _ _) = wz at B9 HU9 ⊢
          have u0 := HU9.out
          go_wp2_with fail
          go_roundw
          case rel =>
            refine ⟨k + 1, A9, k9, rs ++ [⟨m, K7, k7⟩], m.uid, by omega, by go_num, rfl, ?_, ?_, ?_⟩
            · show m.uid = _
              rw [HJ.out.2]
            · show BS w _ R T (itG msgF (k + 1) (s7, 0)).2.1 i v n g WA c wc A9 (k + 1) k9 ws (rs ++ [⟨m, K7, k7⟩])
              rw [HJ.out.2]
              exact B9.out
            · show (rs ++ [(⟨m, K7, k7⟩ : Raw)]).map Raw.m = _
              rw [HJ.out.1, List.map_append, HR.out]
              rfl
          case measure => simp [intOf]; omega
        · obtain rfl : e = k := by omega
          obtain ⟨q0, q1, q2, q3, q4, q5, _⟩ := B6.out.cells
          obtain ⟨z0, z1, z2, z3, z4, z5, zf⟩ := zcells6 B6.out.res
          have f0 := zf 0
          have f1 := zf 1
          have f2 := zf 2
          have f3 := zf 3
          have f4 := zf 4
          have f5 := zf 5
          clear zf
          go_wp2_with fail
          obtain ⟨W, hW, p0, p1, p2, p3, p4, p5, hWg⟩ := ret6 B6.out.res (.string i) (.int .i64 (v : Nat)) (.int .i64 (n : Nat)) (.int .i64 (g : Nat)) (.slice WA c wc) (.slice MA e mcc)
          rw [← hW]
          refine bodyPost_ret (v := .agg #[.string i, .int .i64 (v : Nat), .int .i64 (n : Nat), .int .i64 (g : Nat), .slice WA c wc, .slice MA e mcc]) (by simp [results, Try.results23, go_sem, p0, p1, p2, p3, p4, p5]) rfl ?_
          have hR2 := B6.out.hR
          have hT2 := B6.out.hT
          obtain rfl := HWS.out
          have hlw : (itS (txtS 24) c s5).1.length = c := by rw [it_itG, itG_len]
          have hlm : (itG msgF e (s7, 0)).1.length = e := itG_len _ _ _
          have own : ∀ {ty sz k : Nat} {x : Value} {xs : List Value}, wr.ownsRow (w.heap.size + 3) ty sz x k xs → W.ownsRow w.heap.size ty sz x k xs := fun {_ _ _ _ _} ho =>
            own_base (ho.kept hWg (.inr (fun e2 => by have := (ho.lt _ e2).1; omega))) (by omega)
          refine ⟨WA, wc, MA, mcc, rs, ?_, ?_, ?_, HR.out, fun r hr => own (B6.out.ko r hr), ?_, ?_⟩
          · show _ = Ending.returned (.agg #[.string i, .int .i64 (v : Nat), .int .i64 (n : Nat), .int .i64 (g : Nat), .slice WA (itS (txtS 24) c s5).1.length wc, .slice MA (itG msgF e (s7, 0)).1.length mcc])
            rw [hlw, hlm]
          · show W.ownsRow w.heap.size 9 1 (.slice WA (itS (txtS 24) c s5).1.length wc) (itS (txtS 24) c s5).1.length ((itS (txtS 24) c s5).1.map Value.string)
            rw [hlw]
            exact own B6.out.ow
          · show W.ownsRow w.heap.size 39 7 (.slice MA (itG msgF e (s7, 0)).1.length mcc) (itG msgF e (s7, 0)).1.length (mc rs)
            rw [hlm]
            exact own B6.out.om
          · exact ⟨(hWg.block R (by omega) (fun e => by have : R = w.heap.size + 1 := Option.some.inj e; omega)).trans B6.out.rd.blk, B6.out.rd.rd.below (B := T + 1) ⟨hWg.os, hWg.tape, hWg.output, hWg.size, fun k hk => hWg.block k (by omega) (fun e => by have : k = w.heap.size + 1 := Option.some.inj e; omega)⟩ (Nat.lt_succ_self _), B6.out.rd.ne⟩
          · exact ⟨hWg.os.trans B6.out.fr.os, hWg.tape.trans B6.out.fr.tape, hWg.output.trans B6.out.fr.output, Nat.le_trans B6.out.fr.size hWg.size, fun k hk h1 h2 => (hWg.block k (by omega) (fun e => by have : k = w.heap.size + 1 := Option.some.inj e; omega)).trans (B6.out.fr.block k hk h1 h2)⟩
end Go.Proofs.Ytdgcihgohkgecaa.F3V
