/-
  A box read: the walk.
-/
import Derived.Test.YthbilcadifbaeaaDoorOlU
import Derived.Deep.RegionLaw
namespace Go.Proofs.YthbilcadifbaeaaDoor.OlV
open Go.RowKit Go.Proofs.YthbilcadifbaeaaDoor.BxD Go.Proofs.YthbilcadifbaeaaDoor.BxKit Go.Proofs.YthbilcadifbaeaaDoor.BxR Go.Proofs.YthbilcadifbaeaaDoor.BxC Go.Proofs.YthbilcadifbaeaaDoor.OlD Go.Proofs.YthbilcadifbaeaaDoor.OlR Go.Proofs.YthbilcadifbaeaaDoor.OlT Go.Proofs.YthbilcadifbaeaaDoor.OlU
open Go.Proofs.YthbilcadifbaeaaDoor.PkF (ptr RD)

/-- A box that was read: its rows in memory of the call's own. -/
def BoxRd (cg : Bool) (b : Box) (s : St) (w : World) (R T : Nat) (e : Ending) (w' : World) : Prop :=
  ∃ WA wc MA mc' rs, e = .returned (.agg #[.string b.id, .int .i64 b.valid, .int .i64 b.next, .int .i64 b.high, .slice WA b.words.length wc, .slice MA b.msgs.length mc']) ∧ w'.ownsRow w.heap.size 9 1 (.slice WA b.words.length wc) b.words.length (b.words.map Value.string) ∧
    w'.ownsRow w.heap.size 28 7 (.slice MA b.msgs.length mc') b.msgs.length (mc rs) ∧ rs.map Raw.m = b.msgs ∧ (∀ r ∈ rs, w'.ownsRow w.heap.size 3 1 (.slice r.K r.m.keys.length r.c) r.m.keys.length (r.m.keys.map (Value.int .i64))) ∧ FRd cg w' R T s ∧ Fr2 R T w w'
set_option maxHeartbeats 2000000 in
set_option maxRecDepth 100000 in
theorem box_any {cg : Bool} {w : World} {R T : Nat} {s : St} {id : ByteArray} (h : FRd cg w R T s) (ht : TabF w R T) (hid : id.size ≤ 200) : Calls Tryd.prog 115 #[ptr R, .string id] w (BoxRd cg (boxS cg id s).1 (boxS cg id s).2 w R T) := by
  have b0 := BS.start h id
  unfold zbox at b0
  have B0 := Lib.hid b0
  have HT := Lib.hid ht
  obtain ⟨s1, hs1⟩ : ∃ s1, s1 = (fixS s).2 := ⟨_, rfl⟩
  obtain ⟨s2, hs2⟩ : ∃ s2, s2 = (fixS s1).2 := ⟨_, rfl⟩
  obtain ⟨sc, hsc⟩ : ∃ sc, sc = (chS cg s2).2 := ⟨_, rfl⟩
  obtain ⟨o, ho⟩ : ∃ o, o = (chS cg s2).1 := ⟨_, rfl⟩
  obtain ⟨s3, hs3⟩ : ∃ s3, s3 = (cntS 32 sc).2 := ⟨_, rfl⟩
  obtain ⟨v, hv⟩ : ∃ v, v = (fixS s).1 := ⟨_, rfl⟩
  obtain ⟨n, hn⟩ : ∃ n, n = (fixS s1).1 := ⟨_, rfl⟩
  obtain ⟨c, hc⟩ : ∃ c, c = (cntS 32 sc).1 := ⟨_, rfl⟩
  obtain ⟨s4, hs4⟩ : ∃ s4, s4 = (itS (txtS 24) c s3).2 := ⟨_, rfl⟩
  obtain ⟨s5, hs5⟩ : ∃ s5, s5 = (cntS 60 s4).2 := ⟨_, rfl⟩
  obtain ⟨e, he⟩ : ∃ e, e = (cntS 60 s4).1 := ⟨_, rfl⟩
  have hbox : boxS cg id s = (⟨id, v, n, o, (itS (txtS 24) c s3).1, (itS (msgS cg id) e s5).1⟩, (itS (msgS cg id) e s5).2) := by
    unfold boxS
    simp only [← hs1, ← hs2, ← hsc, ← ho, ← hs3, ← hv, ← hn, ← hc, ← hs4, ← hs5, ← he]
  rw [hbox]
  have hc32 : c ≤ 32 := by rw [hc]; exact cnt_le _ _
  have he60 : e ≤ 60 := by rw [he]; exact cnt_le _ _
  have K1 := Lib.hid (fun (wr : World) (g : FRd cg wr R T s) => show Calls Tryd.prog 138 #[ptr T] wr (Rd1 wr T (.int .i64 (v : Nat)) s1) from by rw [hv, hs1]; exact fixed_all g.rd)
  have K2 := Lib.hid (fun (wr : World) (g : FRd cg wr R T s1) => show Calls Tryd.prog 138 #[ptr T] wr (Rd1 wr T (.int .i64 (n : Nat)) s2) from by rw [hn, hs2]; exact fixed_all g.rd)
  have KH := Lib.hid (fun (wr : World) (g : FRd cg wr R T s2) => show Calls Tryd.prog 139 #[ptr R] wr (Rd2 cg wr R T (.int .i64 (o : Nat)) sc) from by rw [ho, hsc]; exact change_any g)
  have K3 := Lib.hid (fun (wr : World) (g : FRd cg wr R T sc) => show Calls Tryd.prog 140 #[ptr R, .int .i64 (32 : Nat)] wr (Rd2 cg wr R T (.int .i64 (c : Nat)) s3) from by rw [hc, hs3]; exact count_any g 32)
  have K5 := Lib.hid (fun (wr : World) (g : FRd cg wr R T s4) => show Calls Tryd.prog 140 #[ptr R, .int .i64 (60 : Nat)] wr (Rd2 cg wr R T (.int .i64 (e : Nat)) s5) from by rw [he, hs5]; exact count_any g 60)
  have V1 := Lib.hid (show s1.2.2 = s.2.2 by rw [hs1, fix_ov])
  have V2 := Lib.hid (show s2.2.2 = s1.2.2 by rw [hs2, fix_ov])
  have HS4 := Lib.hid hs4
  clear h ht b0 hs1 hs2 hsc ho hs3 hv hn hc hs4 hs5 he hbox
  go_enter Tryd.func115, Tryd.ntmps115
  go_upto_region 2 with fail
  generalize (World.alloc (World.alloc w _) _) = w1 at B0 ⊢
  have KK := Lib.hid (K1.out w1 B0.out.rd)
  have c0 := B0.out.rd.cells.1
  go_upto_region 3 with (go_at_call 138; go_loud (
     refine KK.out.mono ?_
     rintro e w2 ⟨rfl, hr, hg⟩
     have B1 := Lib.hid (B0.out.read hr hg V1.out)
     have q0 := B1.out.cells.2.1
     have q1 := B1.out.cells.2.2.2.2.2.2 1
     clear hr hg c0))
  have B2 := Lib.hid (B1.out.set (v' := v) (n' := 0) (hg' := 0) 1 (.int .i64 (v : Nat)) rfl)
  clear B0 B1 KK q0 q1
  generalize (World.setCell w2 _ _) = w3 at B2 ⊢
  have KK := Lib.hid (K2.out w3 B2.out.rd)
  have c0 := B2.out.rd.cells.1
  go_upto_region 4 with (go_at_call 138; go_loud (
     refine KK.out.mono ?_
     rintro e w4 ⟨rfl, hr, hg⟩
     have B3 := Lib.hid (B2.out.read hr hg V2.out)
     have q0 := B3.out.cells.2.2.1
     have q1 := B3.out.cells.2.2.2.2.2.2 2
     clear hr hg c0))
  have B4 := Lib.hid (B3.out.set (v' := v) (n' := n) (hg' := 0) 2 (.int .i64 (n : Nat)) rfl)
  clear B2 B3 KK q0 q1
  generalize (World.setCell w4 _ _) = w5 at B4 ⊢
  have KC := Lib.hid (KH.out w5 B4.out.rd)
  go_upto_region 5 with (go_at_call 139; go_loud (
     refine KC.out.mono ?_
     rintro e wx ⟨rfl, hr, hf⟩
     have BX := Lib.hid (B4.out.keep hf hr)
     have q0 := BX.out.cells.2.2.2.1
     have q1 := BX.out.cells.2.2.2.2.2.2 3
     clear hr hf))
  have B4 := Lib.hid (BX.out.set (v' := v) (n' := n) (hg' := o) 3 (.int .i64 (o : Nat)) rfl)
  clear BX KC q0 q1
  generalize (World.setCell wx _ _) = w5 at B4 ⊢
  have KK := Lib.hid (K3.out w5 B4.out.rd)
  go_wp2_with (go_at_call 140; go_loud (
     refine KK.out.mono ?_
     rintro e w6 ⟨rfl, hr, hf⟩
     have B5 := Lib.hid (B4.out.keep hf hr)
     clear hr hf))
  clear B4 KK
  go_loopw [25] (fun s25 wr => ∃ (j : Nat) (WA : Option Addr) (wc : Nat), j ≤ c ∧ s25 = .int .i64 j ∧ Hid (BS cg w wr R T (itS (txtS 24) j s3).2 id v n o WA j wc none 0 0 (itS (txtS 24) j s3).1 [])) (fun s25 _ => c - (intOf s25).toNat)
  case atStart => exact ⟨0, none, 0, Nat.zero_le _, rfl, B5.out⟩
  case round =>
    clear B5
    obtain ⟨j, WA, wc, hj, rfl, B5⟩ := hrel
    have hsz := B5.out.size
    by_cases hlt : j < c
    · have c0 := B5.out.rd.cells.1
      obtain ⟨q0, q1, q2, q3, q4, q5, qf⟩ := B5.out.cells
      have qf4 := qf 4
      clear qf
      have KT := Lib.hid (fun (w' : World) (hb : Below wr.heap.size wr w') => text_all (B5.out.rd.go hb).rd 24)
      obtain ⟨t, ht⟩ : ∃ t, t = (txtS 24 (itS (txtS 24) j s3).2).1 := ⟨_, rfl⟩
      obtain ⟨s', hs'⟩ : ∃ s', s' = (txtS 24 (itS (txtS 24) j s3).2).2 := ⟨_, rfl⟩
      rw [← ht, ← hs'] at KT
      have HTT := Lib.hid ht
      have HSS := Lib.hid hs'
      have HJ := Lib.hid (show (itS (txtS 24) (j + 1) s3).1 = (itS (txtS 24) j s3).1 ++ [t] ∧ (itS (txtS 24) (j + 1) s3).2 = s' by rw [ht, hs']; exact ⟨rfl, rfl⟩)
      have VV := Lib.hid (show s'.2.2 = (itS (txtS 24) j s3).2.2.2 by rw [hs', txt_ov])
      clear ht hs'
      go_upto_region 7 with fail
      go_region_law (first
        | (go_simp; go_at_call 141
           ((with_reducible refine (KT.out _ ?d1).mono ?_); rotate_left)
           case d1 => first | exact Below.refl _ _ | exact (Below.refl _ _).drew
           go_loud (
           rintro e w7 ⟨rfl, hr, hg⟩
           have B6 := Lib.hid (show BS cg w w7 R T s' id v n o WA j wc none 0 0 (itS (txtS 24) j s3).1 [] by first | exact B5.out.read hr hg VV.out | exact (B5.out.go ((Below.refl _ _).drew)).read hr hg VV.out)
           have x0 := B6.out.rd.cells.1
           have x4 := B6.out.cells.2.2.2.2.1
           have xf := B6.out.cells.2.2.2.2.2.2 4
           have a4 : (w7.alloc (.cells #[.string t] 9)).cell? { block := w.heap.size + 1, off := 4 } = some (.slice WA j wc) := (World.cell?_of_block (heap_alloc_old w7 _ (by have := B6.out.size; show w.heap.size + 1 < _; omega))).trans x4
           have O6 := Lib.hid (B6.out.ow.alloc (.cells #[.string t] 9))
           have S6 := Lib.hid (src_new w7 #[.string t] 9 (b := w7.heap.size) (m := 1) (sz := 1) rfl rfl (by intro u hu; simp at hu; subst hu; rfl))
           have Z6 := Lib.hid (show w.heap.size + 2 ≤ (w7.alloc (.cells #[.string t] 9)).heap.size by have := B6.out.size; simp; omega)
           clear hr hg
           dsimp only))
        | (go_loud (
           refine step_rows elS (c := 1) rfl (.tmp 28) (.tmp 34) rfl (by simp [Act.eval]) (by simp [Act.eval]) O6.out S6.out (by unfold maxLen; omega) (by omega) Z6.out ?_
           intro v8 w8 hown8 hg8 _
           obtain ⟨A8, k8, rfl, hk8⟩ := own_slice hown8
           have O8 := Lib.hid hown8
           have G8 := Lib.hid hg8
           have B7 := Lib.hid ((B6.out.go ((Below.refl _ _).alloc (Nat.le_refl _) (.cells #[.string t] 9))).word (t := t) (by rw [List.map_append]; exact hown8) hg8)
           have y0 := B7.out.rd.cells.1
           have hz := B6.out.hR
           have hz2 := B6.out.size
           have hlo : ∀ p : Addr, p.block < w.heap.size + 2 → w8.cell? p = w7.cell? p ∧ w8.frozen? p = w7.frozen? p := fun p hp => by
             have h1 : w8.heap[p.block]? = w7.heap[p.block]? := (hg8.block p.block (by simp; omega) (fun e2 => by have := (O6.out.lt _ e2.symm).1; omega)).trans (heap_alloc_old w7 _ (by omega))
             exact ⟨World.cell?_of_block h1, World.frozen?_of_block h1⟩
           have z0 := ((hlo { block := R, off := 0 } (by show R < _; omega)).1).trans x0
           have z4 := ((hlo { block := w.heap.size + 1, off := 4 } (by show w.heap.size + 1 < _; omega)).1).trans x4
           have zf := ((hlo { block := w.heap.size + 1, off := 4 } (by show w.heap.size + 1 < _; omega)).2).trans xf
           clear hlo hz hz2
           clear hown8 hg8
           dsimp only)))
      all_goals
        clear KT c0 q0 q1 q2 q3 q4 q5 qf4 x0 x4 xf a4 y0 z0 z4 zf O6 S6 Z6 O8 G8
        go_wp2_with fail
        go_roundw
        case rel =>
          refine ⟨j + 1, A8, k8, by omega, by go_num, ?_⟩
          show BS cg w _ R T (itS (txtS 24) (j + 1) s3).2 id v n o A8 (j + 1) k8 none 0 0 (itS (txtS 24) (j + 1) s3).1 []
          rw [HJ.out.1, HJ.out.2]
          exact B7.out
        case measure => simp [intOf]; omega
    · obtain rfl : c = j := by omega
      obtain ⟨ws, hws⟩ : ∃ ws, ws = (itS (txtS 24) c s3).1 := ⟨_, rfl⟩
      rw [← HS4.out, ← hws] at B5
      have HWS := Lib.hid hws
      rw [← hws]
      clear hws HS4
      have KK := Lib.hid (K5.out wr B5.out.rd)
      go_wp2_with (go_at_call 140; go_loud (
         refine KK.out.mono ?_
         rintro e w6 ⟨rfl, hr, hf⟩
         have B6 := Lib.hid (B5.out.keep hf hr)
         clear hr hf))
      clear B5 KK
      go_loopw [40] (fun s40 wr => ∃ (i : Nat) (MA : Option Addr) (mcc : Nat) (rs : List Raw), i ≤ e ∧ s40 = .int .i64 i ∧ Hid (BS cg w wr R T (itS (msgS cg id) i s5).2 id v n o WA c wc MA i mcc ws rs) ∧ Hid (rs.map Raw.m = (itS (msgS cg id) i s5).1)) (fun s40 _ => e - (intOf s40).toNat)
      case atStart => exact ⟨0, none, 0, [], Nat.zero_le _, rfl, B6.out, rfl⟩
      case round =>
        clear B6 hsz
        obtain ⟨i, MA, mcc, rs, hi, rfl, B6, HR⟩ := hrel
        have hsz := B6.out.size
        by_cases hlt2 : i < e
        · obtain ⟨q0, q1, q2, q3, q4, q5, qf⟩ := B6.out.cells
          have qf5 := qf 5
          clear qf
          have KM := Lib.hid (fun (w' : World) (hb : Below wr.heap.size wr w') => msg_any (id := id) (B6.out.rd.go hb) (HT.out.go (B6.out.fr.trans (Fr2.below hb R T))) hid)
          obtain ⟨m, hm⟩ : ∃ m, m = (msgS cg id (itS (msgS cg id) i s5).2).1 := ⟨_, rfl⟩
          obtain ⟨s', hs'⟩ : ∃ s', s' = (msgS cg id (itS (msgS cg id) i s5).2).2 := ⟨_, rfl⟩
          rw [← hm, ← hs'] at KM
          have HJ := Lib.hid (show (itS (msgS cg id) (i + 1) s5).1 = (itS (msgS cg id) i s5).1 ++ [m] ∧ (itS (msgS cg id) (i + 1) s5).2 = s' by rw [hm, hs']; exact ⟨rfl, rfl⟩)
          clear hm hs'
          obtain ⟨kl, hkl⟩ : ∃ kl, kl = m.keys.length := ⟨_, rfl⟩
          have HKL := Lib.hid hkl
          clear hkl
          go_upto_region 11 with fail
          go_region_law (first
            | (go_simp; go_at_call 142
               ((with_reducible refine (KM.out _ ?d1).mono ?_); rotate_left)
               case d1 => first | exact Below.refl _ _ | exact (Below.refl _ _).drew
               go_loud (
               rintro e w7 ⟨K7, k7, rfl, hown, hr, hf⟩
               rw [← HKL.out] at hown ⊢
               have B7 := Lib.hid (show BS cg w w7 R T s' id v n o WA c wc MA i mcc ws rs by first | exact B6.out.keep hf hr | exact (B6.out.go ((Below.refl _ _).drew)).keep hf hr)
               have HK7 := Lib.hid (own_base hown (show w.heap.size + 2 ≤ _ by first | exact hsz | (show w.heap.size + 2 ≤ wr.heap.size; exact hsz)))
               have x5 := B7.out.cells.2.2.2.2.2.1
               have xf := B7.out.cells.2.2.2.2.2.2 5
               have a5 : (w7.alloc (.cells #[.int .i64 m.uid, .int .i64 m.mod, .int .i64 m.date, .string m.id, .int .i64 m.flags, .slice K7 kl k7, .string m.text] 28)).cell? { block := w.heap.size + 1, off := 5 } = some (.slice MA i mcc) := (World.cell?_of_block (heap_alloc_old w7 _ (by have := B7.out.size; show w.heap.size + 1 < _; omega))).trans x5
               have O7 := Lib.hid (B7.out.om.alloc (.cells #[.int .i64 m.uid, .int .i64 m.mod, .int .i64 m.date, .string m.id, .int .i64 m.flags, .slice K7 kl k7, .string m.text] 28))
               have S7 := Lib.hid (src_new w7 #[.int .i64 m.uid, .int .i64 m.mod, .int .i64 m.date, .string m.id, .int .i64 m.flags, .slice K7 kl k7, .string m.text] 28 (b := w7.heap.size) (m := 1) (sz := 7) rfl rfl (by intro u hu; simp at hu; rcases hu with h | h | h | h | h | h | h <;> (subst h; rfl)))
               have Z7 := Lib.hid (show w.heap.size + 2 ≤ (w7.alloc (.cells #[.int .i64 m.uid, .int .i64 m.mod, .int .i64 m.date, .string m.id, .int .i64 m.flags, .slice K7 kl k7, .string m.text] 28)).heap.size by have := B7.out.size; simp; omega)
               clear hr hf hown
               dsimp only))
            | (go_loud (
               refine step_rows elM (c := 1) rfl (.tmp 43) (.tmp 47) rfl (by simp [Act.eval]) (by simp [Act.eval]) O7.out S7.out (by unfold maxLen; omega) (by omega) Z7.out ?_
               intro v8 w8 hown8 hg8 _
               obtain ⟨A8, k8, rfl, hk8⟩ := own_slice hown8
               have B8 := Lib.hid ((B7.out.go ((Below.refl _ _).alloc (Nat.le_refl _) (.cells #[.int .i64 m.uid, .int .i64 m.mod, .int .i64 m.date, .string m.id, .int .i64 m.flags, .slice K7 kl k7, .string m.text] 28))).msg (r := ⟨m, K7, k7⟩) (by rw [← HKL.out]; exact HK7.out.alloc _) (by rw [mc_append]; unfold mc cell7; simp only [List.flatMap_cons, List.flatMap_nil, List.append_nil]; rw [← HKL.out]; exact hown8) hg8)
               have hz2 := B7.out.size
               have hlo : ∀ p : Addr, p.block < w.heap.size + 2 → w8.cell? p = w7.cell? p ∧ w8.frozen? p = w7.frozen? p := fun p hp => by
                 have h1 : w8.heap[p.block]? = w7.heap[p.block]? := (hg8.block p.block (by simp; omega) (fun e2 => by have := (O7.out.lt _ e2.symm).1; omega)).trans (heap_alloc_old w7 _ (by omega))
                 exact ⟨World.cell?_of_block h1, World.frozen?_of_block h1⟩
               have z5 := ((hlo { block := w.heap.size + 1, off := 5 } (by show w.heap.size + 1 < _; omega)).1).trans x5
               have zf := ((hlo { block := w.heap.size + 1, off := 5 } (by show w.heap.size + 1 < _; omega)).2).trans xf
               clear hlo hz2 hown8 hg8
               dsimp only)))
          all_goals
            clear KM q0 q1 q2 q3 q4 q5 qf5 x5 xf a5 z5 zf O7 S7 Z7
            go_wp2_with fail
            go_roundw
            case rel =>
              refine ⟨i + 1, A8, k8, rs ++ [⟨m, K7, k7⟩], by omega, by go_num, ?_, ?_⟩
              · show BS cg w _ R T (itS (msgS cg id) (i + 1) s5).2 id v n o WA c wc A8 (i + 1) k8 ws (rs ++ [⟨m, K7, k7⟩])
                rw [HJ.out.2]
                exact B8.out
              · show (rs ++ [(⟨m, K7, k7⟩ : Raw)]).map Raw.m = _
                rw [HJ.out.1, List.map_append, HR.out]
                rfl
            case measure => simp [intOf]; omega
        · obtain rfl : e = i := by omega
          obtain ⟨q0, q1, q2, q3, q4, q5, _⟩ := B6.out.cells
          obtain ⟨z0, z1, z2, z3, z4, z5, zf⟩ := zcells6 B6.out.res
          have f0 := zf 0
          have f1 := zf 1
          have f2 := zf 2
          have f3 := zf 3
          have f4 := zf 4
          have f5 := zf 5
          clear zf
          go_wp2_with fail
          obtain ⟨W, hW, p0, p1, p2, p3, p4, p5, hWg⟩ := ret6 B6.out.res (.string id) (.int .i64 (v : Nat)) (.int .i64 (n : Nat)) (.int .i64 (o : Nat)) (.slice WA c wc) (.slice MA e mcc)
          rw [← hW]
          refine bodyPost_ret (v := .agg #[.string id, .int .i64 (v : Nat), .int .i64 (n : Nat), .int .i64 (o : Nat), .slice WA c wc, .slice MA e mcc]) (by simp [results, Tryd.results115, go_sem, p0, p1, p2, p3, p4, p5]) rfl ?_
          have hR2 := B6.out.hR
          have hT2 := B6.out.hT
          obtain rfl := HWS.out
          have hlw : (itS (txtS 24) c s3).1.length = c := OlS.it_len _ _ _
          have hlm : (itS (msgS cg id) e s5).1.length = e := OlS.it_len _ _ _
          have own : ∀ {ty sz k : Nat} {x : Value} {xs : List Value}, wr.ownsRow (w.heap.size + 2) ty sz x k xs → W.ownsRow w.heap.size ty sz x k xs := fun {_ _ _ _ _} ho =>
            own_base (ho.kept hWg (.inr (fun e2 => by have := (ho.lt _ e2).1; omega))) (by omega)
          refine ⟨WA, wc, MA, mcc, rs, ?_, ?_, ?_, HR.out, fun r hr => own (B6.out.ko r hr), ?_, ?_⟩
          · show _ = Ending.returned (.agg #[.string id, .int .i64 (v : Nat), .int .i64 (n : Nat), .int .i64 (o : Nat), .slice WA (itS (txtS 24) c s3).1.length wc, .slice MA (itS (msgS cg id) e s5).1.length mcc])
            rw [hlw, hlm]
          · show W.ownsRow w.heap.size 9 1 (.slice WA (itS (txtS 24) c s3).1.length wc) (itS (txtS 24) c s3).1.length ((itS (txtS 24) c s3).1.map Value.string)
            rw [hlw]
            exact own B6.out.ow
          · show W.ownsRow w.heap.size 28 7 (.slice MA (itS (msgS cg id) e s5).1.length mcc) (itS (msgS cg id) e s5).1.length (mc rs)
            rw [hlm]
            exact own B6.out.om
          · exact ⟨(hWg.block R (by omega) (fun e => by have : R = w.heap.size := Option.some.inj e; omega)).trans B6.out.rd.blk, B6.out.rd.rd.below (B := T + 1) ⟨hWg.os, hWg.tape, hWg.output, hWg.size, fun k hk => hWg.block k (by omega) (fun e => by have : k = w.heap.size := Option.some.inj e; omega)⟩ (Nat.lt_succ_self _), B6.out.rd.ne⟩
          · exact ⟨hWg.os.trans B6.out.fr.os, hWg.tape.trans B6.out.fr.tape, hWg.output.trans B6.out.fr.output, Nat.le_trans B6.out.fr.size hWg.size, fun k hk h1 h2 => (hWg.block k (by omega) (fun e => by have : k = w.heap.size := Option.some.inj e; omega)).trans (B6.out.fr.block k hk h1 h2)⟩
end Go.Proofs.YthbilcadifbaeaaDoor.OlV
