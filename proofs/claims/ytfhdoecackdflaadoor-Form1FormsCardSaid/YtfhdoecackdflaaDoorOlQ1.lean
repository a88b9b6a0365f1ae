/-
  The document's ParseOld at form 1: whatever the bytes are.
-/
import Derived.Test.YtfhdoecackdflaaDoorOlQs
import Derived.Deep.RegionLaw
set_option linter.unusedVariables false
set_option linter.unusedSimpArgs false
namespace Go.Proofs.YtfhdoecackdflaaDoor.OlQ1
open Go.Proofs.YtfhdoecackdflaaDoor.PtK
open Go.RowKit Go.Proofs.YtfhdoecackdflaaDoor.BxD Go.Proofs.YtfhdoecackdflaaDoor.BxKit Go.Proofs.YtfhdoecackdflaaDoor.BxR Go.Proofs.YtfhdoecackdflaaDoor.BxC Go.Proofs.YtfhdoecackdflaaDoor.OlD Go.Proofs.YtfhdoecackdflaaDoor.OlR Go.Proofs.YtfhdoecackdflaaDoor.OlU Go.Proofs.YtfhdoecackdflaaDoor.OlQp Go.Proofs.YtfhdoecackdflaaDoor.OlQs
open Go.Proofs.YtfhdoecackdflaaDoor.RrA (RR RR.below RR.lt RP fixed_any byte_any text_any)
open Go.Proofs.YtfhdoecackdflaaDoor.PtK (MBk MBk.cells)
open Go.Proofs.YtfhdoecackdflaaDoor.PkF (ptr)
open Go.Proofs.YtfhdoecackdflaaDoor.PkKit (BytesAt)
open Go.Proofs.YtfhdoecackdflaaDoor.PtK (ParseOut)

set_option maxHeartbeats 8000000 in
set_option maxRecDepth 100000 in
theorem parse_old {w : World} {B nn cp : Nat} {A : Option Addr} {l : List UInt8} {id : ByteArray} (ht : BxO.Tab w) (hz : BytesAt w B A nn l) (hB : B ≤ w.heap.size) (hc : nn ≤ cp) (hn : nn ≤ 140737488355328) (hid : id.size ≤ 200) :
    Calls Tryd.prog 16 #[.int .i64 1, .slice A nn cp, .string id] w (ParseOut (parseS false l id).1 (parseS false l id).2 w) := by
  have hb0 := (Below.refl w.heap.size w).alloc (Nat.le_refl _) (.cells zbox 25)
  have hr0 := heap_alloc_new w (.cells zbox 25)
  unfold zbox at hb0 hr0
  have HB0 := Lib.hid hb0
  have HR0 := Lib.hid hr0
  have HZ := Lib.hid hz
  have HT := Lib.hid ht
  clear ht hz hb0 hr0
  go_enter Tryd.func16, Tryd.ntmps16
  go_upto_region 1 with fail
  generalize (World.alloc w _) = w0 at HB0 HR0 ⊢
  have hs0 := (Array.getElem?_eq_some_iff.1 HR0.out).1
  have KB := Lib.hid (OlQb.begins1 (cp := cp) (HT.out.below HB0.out (Nat.le_refl _)) (HZ.out.below HB0.out hB) (by omega) hc hn)
  by_cases hb : l.take 3 = mk false
  case neg =>
    have hp := parse_no (id := id) hb
    have HP := Lib.hid hp
    rw [decide_eq_false hb] at KB
    clear hp hb
    go_upto_region 2 with (go_at_call 31; go_loud (
       refine KB.out.mono ?_
       rintro e w1 ⟨rfl, hb1⟩
       have HB1 := Lib.hid (HB0.out.trans (hb1.mono (by omega)))
       have HR1 := Lib.hid ((hb1.block w.heap.size hs0).trans HR0.out)
       clear hb1))
    obtain ⟨z0, z1, z2, z3, z4, z5, zf⟩ := zcells6 HR1.out
    have f0 := zf 0
    have f1 := zf 1
    have f2 := zf 2
    have f3 := zf 3
    have f4 := zf 4
    have f5 := zf 5
    clear zf
    go_wp2_with fail
    obtain ⟨W, hW, q0, q1, q2, q3, q4, q5, hgr⟩ := ret6 HR1.out (.string ⟨#[]⟩) (.int .i64 0) (.int .i64 0) (.int .i64 0) (.slice none 0 0) (.slice none 0 0)
    rw [← hW]
    refine bodyPost_ret (v := .tuple #[.agg #[.string ⟨#[]⟩, .int .i64 0, .int .i64 0, .int .i64 0, .slice none 0 0, .slice none 0 0], .int .i64 3]) (by simp [results, Tryd.results16, go_sem, q0, q1, q2, q3, q4, q5]) rfl ?_
    rw [HP.out]
    exact ⟨none, 0, 0, none, 0, 0, rfl, Nat.le_refl _, Nat.le_refl _, RowAt.nil _ _ _ _ _, RowAt.nil _ _ _ _ _, HB1.out.grown hgr HB1.out.size (fun k e => by have : w.heap.size = k := Option.some.inj e; omega)⟩
  rw [decide_eq_true hb] at KB
  have h3n : 3 ≤ nn := by
    have e1 := congrArg List.length hb
    rw [List.length_take, HZ.out.1] at e1
    have : (mk false).length = 3 := rfl
    omega
  have h3i : (3 : Int) ≤ (nn : Int) := by omega
  have h3c : (3 : Int) ≤ (cp : Int) := by omega
  have h3d : 3 ≤ cp := by omega
  have hncp : (nn : Int) ≤ (cp : Int) := by omega
  go_upto_region 3 with (go_at_call 31; go_loud (
     refine KB.out.mono ?_
     rintro e w1 ⟨rfl, hb1⟩
     have HB1 := Lib.hid (HB0.out.trans (hb1.mono (by omega)))
     have HR1 := Lib.hid ((hb1.block w.heap.size hs0).trans HR0.out)
     have hs1 := hb1.size
     clear hb1))
  clear KB HB0 HR0
  go_upto_region 5 with fail
  have hcut := (HZ.out.below HB1.out hB).cut (k := 3) (cp := cp) h3n hc
  rw [PtK.add3] at hcut
  obtain ⟨A3, hA3⟩ : ∃ A3, A3 = (if cp = 3 then A else Option.map (fun x => { block := x.block, off := x.off + 3 }) A) := ⟨_, rfl⟩
  rw [← hA3] at hcut ⊢
  have q0 : QS w ((w1.alloc (.cells #[.slice A3 (nn - 3) (cp - 3), .int .i64 0] 57)).alloc (.cells #[.string id, .int .i64 0, .int .i64 0, .int .i64 1, .slice none 0 0, .slice none 0 0] 25)) w1.heap.size (w1.heap.size + 1) (l.drop 3, 0, false) id 0 0 1 none 0 0 none 0 0 [] [] := by
    have hb2 := (HB1.out.alloc HB1.out.size (.cells #[.slice A3 (nn - 3) (cp - 3), .int .i64 0] 57)).alloc (by simp; omega) (.cells #[.string id, .int .i64 0, .int .i64 0, .int .i64 1, .slice none 0 0, .slice none 0 0] 25)
    have hbb := ((Below.refl w1.heap.size w1).alloc (Nat.le_refl _) (.cells #[.slice A3 (nn - 3) (cp - 3), .int .i64 0] 57)).alloc (by simp) (.cells #[.string id, .int .i64 0, .int .i64 0, .int .i64 1, .slice none 0 0, .slice none 0 0] 25)
    refine ⟨hb2, ⟨A3, nn - 3, cp - 3, (heap_alloc_old _ _ (by simp)).trans (heap_alloc_new w1 _), ⟨(hcut.below hbb (by omega)).1, fun h0 => ?_⟩, by omega, by omega⟩, (hbb.block w.heap.size (by omega)).trans HR1.out, ?_, by omega, Nat.lt_succ_self _, World.ownsRow_nil _ _ _ _, World.ownsRow_nil _ _ _ _, fun r hr => by simp at hr⟩
    · obtain ⟨ad, e1, e2, e3⟩ := (hcut.below hbb (by omega)).2 h0
      exact ⟨ad, e1, by omega, e3⟩
    · have := heap_alloc_new (w1.alloc (.cells #[.slice A3 (nn - 3) (cp - 3), .int .i64 0] 57)) (.cells #[.string id, .int .i64 0, .int .i64 0, .int .i64 1, .slice none 0 0, .slice none 0 0] 25)
      rwa [show (w1.alloc (.cells #[.slice A3 (nn - 3) (cp - 3), .int .i64 0] 57)).heap.size = w1.heap.size + 1 by simp] at this
  obtain ⟨T, hT'⟩ : ∃ T, T = w1.heap.size := ⟨_, rfl⟩
  obtain ⟨X, hX'⟩ : ∃ X, X = w1.heap.size + 1 := ⟨_, rfl⟩
  rw [← hX', ← hT'] at q0 ⊢
  have Q0 := Lib.hid q0
  have hTX := q0.hX
  have hwT := q0.hT
  clear q0 hcut hT' hX' HR1 HB1 hA3 h3i h3c h3d hncp h3n hs1 hs0
  generalize (World.alloc (World.alloc w1 _) _) = w2 at Q0 ⊢
  obtain ⟨s0, hs0⟩ : ∃ s0 : St, s0 = (l.drop 3, 0, false) := ⟨_, rfl⟩
  rw [← hs0] at Q0
  obtain ⟨s1, hs1⟩ : ∃ s1, s1 = (fixS s0).2 := ⟨_, rfl⟩
  obtain ⟨s2, hs2⟩ : ∃ s2, s2 = (fixS s1).2 := ⟨_, rfl⟩
  obtain ⟨v, hv⟩ : ∃ v, v = (fixS s0).1 := ⟨_, rfl⟩
  obtain ⟨n, hn'⟩ : ∃ n, n = (fixS s1).1 := ⟨_, rfl⟩
  obtain ⟨sc, hsc⟩ : ∃ sc, sc = (chS false s2).2 := ⟨_, rfl⟩
  obtain ⟨o, ho⟩ : ∃ o, o = (chS false s2).1 := ⟨_, rfl⟩
  obtain ⟨s3, hs3⟩ : ∃ s3, s3 = (fixS sc).2 := ⟨_, rfl⟩
  obtain ⟨c, hcc⟩ : ∃ c, c = (fixS sc).1 := ⟨_, rfl⟩
  have K1 := Lib.hid (fun (wr : World) (g : RR wr T s0.1 s0.2.1) => show Calls Tryd.prog 32 #[ptr T] wr (RP wr T (.int .i64 (v : Nat)) s1) from by rw [hv, hs1]; exact fixed_any g)
  have K2 := Lib.hid (fun (wr : World) (g : RR wr T s1.1 s1.2.1) => show Calls Tryd.prog 32 #[ptr T] wr (RP wr T (.int .i64 (n : Nat)) s2) from by rw [hn', hs2]; exact fixed_any g)
  have K3 := Lib.hid (fun (wr : World) (g : RR wr T s2.1 s2.2.1) => show Calls Tryd.prog 32 #[ptr T] wr (RP wr T (.int .i64 ((fixS s2).1 : Nat)) (fixS s2).2) from fixed_any g)
  have K4 := Lib.hid (fun (wr : World) (g : RR wr T sc.1 sc.2.1) => show Calls Tryd.prog 32 #[ptr T] wr (RP wr T (.int .i64 (c : Nat)) s3) from by rw [hcc, hs3]; exact fixed_any g)
  have HOV := Lib.hid (show 32 < c → (boxS false id s0).2.2.2 = true from fun h => box_over1 (by rw [← hs1, ← hs2, ← hsc, ← hcc]; exact h))
  have HBX := Lib.hid (show c ≤ 32 → boxS false id s0 = (⟨id, v, n, ((1 : Nat) : Int), (itS (txtS 24) c s3).1, (itS (msgS false id) (cntS 60 (itS (txtS 24) c s3).2).1 (cntS 60 (itS (txtS 24) c s3).2).2).1⟩, (itS (msgS false id) (cntS 60 (itS (txtS 24) c s3).2).1 (cntS 60 (itS (txtS 24) c s3).2).2).2) from fun h => by
    have hc3 : cntS 32 sc = (c, s3) := by rw [cnt_fit (by rw [← hcc]; exact h), hcc, hs3]
    unfold boxS
    simp only [← hs1, ← hs2, ← hsc, ← hv, ← hn', show (chS false s2).1 = 1 from rfl]
    simp only [hc3])
  have HS0 := Lib.hid hs0
  have HS3V := Lib.hid (show s3.2.2 = false by rw [hs3, fix_ov, hsc, ch_ov, hs2, fix_ov, hs1, fix_ov, hs0])
  have HSC := Lib.hid (show sc = s2 from hsc)
  clear hs0 hs1 hs2 hv hn' hsc ho hs3 hcc
  have KK := Lib.hid (K1.out w2 Q0.out.rd)
  go_upto_region 6 with (first
    | (go_at_call 32
       (with_reducible refine KK.out.mono ?_)
       go_loud (
       rintro e w3 ⟨rfl, hr, hgr⟩
       have Q1 := Lib.hid (Q0.out.keep (s' := s1) hgr hr)
       have KL := Lib.hid (K2.out w3 Q1.out.rd)
       clear hr hgr))
    | (go_at_call 32; go_loud (
       refine KL.out.mono ?_
       rintro e w4 ⟨rfl, hr, hgr⟩
       have Q2 := Lib.hid (Q1.out.keep (s' := s2) hgr hr)
       have e1 := Q2.out.cells.2.1
       have e2 := Q2.out.cells.2.2.1
       have g1 := Q2.out.cells.2.2.2.2.2.2 1
       have g2 := Q2.out.cells.2.2.2.2.2.2 2
       clear hr hgr)))
  have Q3 := Lib.hid ((Q2.out.set (v' := v) (n' := 0) (hg' := 1) 1 (.int .i64 (v : Nat)) rfl).set (v' := v) (n' := n) (hg' := 1) 2 (.int .i64 (n : Nat)) rfl)
  clear Q0 Q1 Q2 KK KL e1 e2 g1 g2 K1 K2
  generalize (World.setCell (World.setCell w4 _ _) _ _) = w5 at Q3 ⊢
  have Q4 := Lib.hid (show QS w w5 T X sc id v n 1 none 0 0 none 0 0 [] [] by rw [HSC.out]; exact Q3.out)
  clear Q3
  obtain ⟨w6, hw6⟩ : ∃ w6, w6 = w5 := ⟨_, rfl⟩
  subst hw6
  go_upto_region 8 with fail
  have KK := Lib.hid (K4.out w6 Q4.out.rd)
  go_upto_region 9 with (go_at_call 32; go_loud (
     refine KK.out.mono ?_
     rintro e w7 ⟨rfl, hr, hgr⟩
     have Q5 := Lib.hid (Q4.out.keep (s' := s3) hgr hr)
     clear hr hgr))
  clear KK Q4 K3 K4
  by_cases hc32 : 32 < c
  · have hp := parse_over (id := id) hb (by rw [← HS0.out]) (HOV.out hc32)
    have HP := Lib.hid hp
    clear hp HOV
    have hc32' : (32 : Int) < (c : Int) := by omega
    obtain ⟨z0, z1, z2, z3, z4, z5, zf⟩ := zcells6 Q5.out.res
    have f0 := zf 0
    have f1 := zf 1
    have f2 := zf 2
    have f3 := zf 3
    have f4 := zf 4
    have f5 := zf 5
    clear zf
    go_wp2_with fail
    obtain ⟨W, hW, q0, q1, q2, q3, q4, q5, hO⟩ := Q5.out.tell 3
    rw [← hW]
    exact bodyPost_ret (v := .tuple #[.agg #[.string ⟨#[]⟩, .int .i64 0, .int .i64 0, .int .i64 0, .slice none 0 0, .slice none 0 0], .int .i64 3]) (by simp [results, Tryd.results16, go_sem, q0, q1, q2, q3, q4, q5]) rfl (by rw [HP.out]; exact hO)
  have hc32' : ¬ (32 : Int) < (c : Int) := by omega
  have HBX2 := Lib.hid (HBX.out (by omega))
  have hc33 : c ≤ 32 := by omega
  clear HBX HOV hc32
  go_wp2_with fail
  go_loopw [43] (fun s43 wr => ∃ (j : Nat) (WA : Option Addr) (wc : Nat), j ≤ c ∧ s43 = .int .i64 j ∧ Hid (QS w wr T X (itS (txtS 24) j s3).2 id v n 1 WA j wc none 0 0 (itS (txtS 24) j s3).1 [])) (fun s43 _ => c - (intOf s43).toNat)
  case atStart => exact ⟨0, none, 0, Nat.zero_le _, rfl, Q5.out⟩
  case round =>
    clear Q5
    obtain ⟨j, WA, wc, hj, rfl, B5⟩ := hrel
    have hsz := B5.out.size
    by_cases hlt : j < c
    · obtain ⟨q0, q1, q2, q3, q4, q5, qf⟩ := B5.out.cells
      have qf4 := qf 4
      clear qf
      have KT := Lib.hid (fun (w' : World) (hb : Below wr.heap.size wr w') => text_any ((B5.out.go hb).rd) 24)
      obtain ⟨t, ht⟩ : ∃ t, t = (txtS 24 (itS (txtS 24) j s3).2).1 := ⟨_, rfl⟩
      obtain ⟨s', hs'⟩ : ∃ s', s' = (txtS 24 (itS (txtS 24) j s3).2).2 := ⟨_, rfl⟩
      rw [← ht, ← hs'] at KT
      have HJ := Lib.hid (show (itS (txtS 24) (j + 1) s3).1 = (itS (txtS 24) j s3).1 ++ [t] ∧ (itS (txtS 24) (j + 1) s3).2 = s' by rw [ht, hs']; exact ⟨rfl, rfl⟩)
      clear ht hs'
      go_upto_region 13 with fail
      go_region_law (first
        | (go_simp; go_at_call 33
           ((with_reducible refine (KT.out _ ?d1).mono ?_); rotate_left)
           case d1 => first | exact Below.refl _ _ | exact (Below.refl _ _).drew
           go_loud (
           rintro e w7 ⟨rfl, hr, hgr⟩
           have B6 := Lib.hid (show QS w w7 T X s' id v n 1 WA j wc none 0 0 (itS (txtS 24) j s3).1 [] by first | exact B5.out.keep hgr hr | exact (B5.out.go ((Below.refl _ _).drew)).keep hgr hr)
           have x4 := B6.out.cells.2.2.2.2.1
           have xf := B6.out.cells.2.2.2.2.2.2 4
           have a4 : (w7.alloc (.cells #[.string t] 9)).cell? { block := X, off := 4 } = some (.slice WA j wc) := (World.cell?_of_block (heap_alloc_old w7 _ (by have := B6.out.size; show X < _; omega))).trans x4
           have O6 := Lib.hid (B6.out.ow.alloc (.cells #[.string t] 9))
           have S6 := Lib.hid (src_new w7 #[.string t] 9 (b := w7.heap.size) (m := 1) (sz := 1) rfl rfl (by intro u hu; simp at hu; subst hu; rfl))
           have Z6 := Lib.hid (show X + 1 ≤ (w7.alloc (.cells #[.string t] 9)).heap.size by have := B6.out.size; simp; omega)
           clear hr hgr
           dsimp only))
        | (go_loud (
           refine step_rows elS (c := 1) rfl (.tmp 46) (.tmp 49) rfl (by simp [Act.eval]) (by simp [Act.eval]) O6.out S6.out (by unfold maxLen; omega) (by omega) Z6.out ?_
           intro v8 w8 hown8 hg8 _
           obtain ⟨A8, k8, rfl, hk8⟩ := own_slice hown8
           have B7 := Lib.hid ((B6.out.go ((Below.refl _ _).alloc (Nat.le_refl _) (.cells #[.string t] 9))).word (t := t) (by rw [List.map_append]; exact hown8) hg8)
           have hz2 := B6.out.size
           have hlo : ∀ p : Addr, p.block < X + 1 → w8.cell? p = w7.cell? p ∧ w8.frozen? p = w7.frozen? p := fun p hp => by
             have h1 : w8.heap[p.block]? = w7.heap[p.block]? := (hg8.block p.block (by simp; omega) (fun e2 => by have := (O6.out.lt _ e2.symm).1; omega)).trans (heap_alloc_old w7 _ (by omega))
             exact ⟨World.cell?_of_block h1, World.frozen?_of_block h1⟩
           have z4 := ((hlo { block := X, off := 4 } (by show X < _; omega)).1).trans x4
           have zf := ((hlo { block := X, off := 4 } (by show X < _; omega)).2).trans xf
           clear hlo hz2
           clear hown8 hg8
           dsimp only)))
      all_goals
        clear KT q0 q1 q2 q3 q4 q5 qf4 x4 xf a4 z4 zf O6 S6 Z6
        go_wp2_with fail
        go_roundw
        case rel =>
          refine ⟨j + 1, A8, k8, by omega, by go_num, ?_⟩
          show QS w _ T X (itS (txtS 24) (j + 1) s3).2 id v n 1 A8 (j + 1) k8 none 0 0 (itS (txtS 24) (j + 1) s3).1 []
          rw [HJ.out.1, HJ.out.2]
          exact B7.out
        case measure => simp [intOf]; omega
    · obtain rfl : c = j := by omega
      obtain ⟨ws, hws⟩ : ∃ ws, ws = (itS (txtS 24) c s3).1 := ⟨_, rfl⟩
      obtain ⟨s4, hs4⟩ : ∃ s4, s4 = (itS (txtS 24) c s3).2 := ⟨_, rfl⟩
      have hbx := HBX2.out
      rw [← hws, ← hs4] at hbx
      rw [← hws, ← hs4] at B5
      have hov4 : s4.2.2 = false := by
        rw [hs4]
        exact it_keep (f := txtS 24) (P := fun s => s.2.2 = false) (fun s hs => (txt_ov 24 s).trans hs) HS3V.out c
      have hwl : ws.length = c := by rw [hws]; exact OlS.it_len _ _ _
      have HW24 := Lib.hid (show ∀ x ∈ ws, x.size ≤ 24 from fun x hx => by
        rw [hws] at hx
        obtain ⟨s', rfl⟩ := PtK.it_mem _ _ _ hx
        exact PtK.txt_size _)
      obtain ⟨s5, hs5⟩ : ∃ s5, s5 = (fixS s4).2 := ⟨_, rfl⟩
      obtain ⟨e, he⟩ : ∃ e, e = (fixS s4).1 := ⟨_, rfl⟩
      have KK := Lib.hid (show Calls Tryd.prog 32 #[ptr T] wr (RP wr T (.int .i64 (e : Nat)) s5) from by rw [he, hs5]; exact fixed_any B5.out.rd)
      have HOV := Lib.hid (show 60 < e → (boxS false id s0).2.2.2 = true from fun h => by rw [hbx]; exact box_over2 (by rw [← he]; exact h))
      have HBX := Lib.hid (show e ≤ 60 → boxS false id s0 = (⟨id, v, n, ((1 : Nat) : Int), ws, (itS (msgS false id) e s5).1⟩, (itS (msgS false id) e s5).2) from fun h => by
        rw [hbx, cnt_fit (by rw [← he]; exact h), ← he, ← hs5])
      have HP5 := Lib.hid (show 0 < e → s5.2.1 = 0 from fun h => by rw [hs5]; exact fix_pos (m := 0) (by rw [← he]; exact h))
      have HO5 := Lib.hid (show s5.2.2 = false by rw [hs5, fix_ov]; exact hov4)
      have HF5 := Lib.hid (show s5.2.1 ≠ 0 → e = 0 from fun h => by rw [he]; rw [hs5] at h; exact fix_err h)
      clear hbx HBX2 hws hs4 hov4 HS3V
      clear hs5 he
      go_upto_region 16 with (go_at_call 32; go_loud (
         refine KK.out.mono ?_
         rintro e' w7 ⟨rfl, hr, hgr⟩
         have Q6 := Lib.hid (B5.out.keep (s' := s5) hgr hr)
         clear hr hgr))
      clear KK B5
      obtain ⟨A9, n9, c9, hl9, ⟨hn9, hn9b⟩, t0, t1, _, _, _⟩ := Q6.out.rd.cells
      clear t0
      by_cases h60 : 60 < e
      · have h0 := HP5.out (by omega)
        have HP := Lib.hid (parse_over (id := id) hb (by rw [← HS0.out]) (HOV.out h60))
        have h60' : (60 : Int) < (e : Int) := by omega
        rw [h0] at t1
        clear h0 HOV
        obtain ⟨z0, z1, z2, z3, z4, z5, zf⟩ := zcells6 Q6.out.res
        have f0 := zf 0
        have f1 := zf 1
        have f2 := zf 2
        have f3 := zf 3
        have f4 := zf 4
        have f5 := zf 5
        clear zf
        go_wp2_with fail
        obtain ⟨W, hW, q0, q1, q2, q3, q4, q5, hO⟩ := Q6.out.tell 3
        rw [← hW]
        exact bodyPost_ret (v := .tuple #[.agg #[.string ⟨#[]⟩, .int .i64 0, .int .i64 0, .int .i64 0, .slice none 0 0, .slice none 0 0], .int .i64 3]) (by simp [results, Tryd.results16, go_sem, q0, q1, q2, q3, q4, q5]) rfl (by rw [HP.out]; exact hO)
      · have h60' : ¬ (60 : Int) < (e : Int) := by omega
        have hbx := HBX.out (by omega)
        clear HOV HBX
        by_cases h5 : s5.2.1 = 0
        case neg =>
          have he0 := HF5.out h5
          subst he0
          have HP := Lib.hid (parse_bad (id := id) hb (by rw [← HS0.out]) (by rw [hbx]; exact h5) (by rw [hbx]; exact HO5.out))
          have hbs : (boxS false id s0).2 = s5 := by rw [hbx]; rfl
          rw [hbs] at HP
          obtain ⟨er, her⟩ : ∃ er, er = s5.2.1 := ⟨_, rfl⟩
          rw [← her] at HP t1
          have hne : er ≠ 0 := by rw [her]; exact h5
          have he1 : ((er : Int) == 0) = false := by simpa using hne
          have he2 : ((er : Int) != 0) = true := by simpa using hne
          have he3 : ¬ (er : Int) = 0 := by omega
          clear her h5 hbx hbs HF5 HP5
          go_wp2_with fail
          go_loopw [66] (fun s66 wr => s66 = .int .i64 0 ∧ wr = w7) (fun _ _ => 0)
          case atStart => exact ⟨rfl, rfl⟩
          case round =>
            obtain ⟨rfl, rfl⟩ := hrel
            go_upto_region 44 with fail
            obtain ⟨z0, z1, z2, z3, z4, z5, zf⟩ := zcells6 Q6.out.res
            have f0 := zf 0
            have f1 := zf 1
            have f2 := zf 2
            have f3 := zf 3
            have f4 := zf 4
            have f5 := zf 5
            clear zf
            have y0 := fun c0 c1 c2 c3 c4 c5 => (cell_drew _ _).trans <| (six_cell (wr := wr) (P := w.heap.size) (p := { block := T, off := 1 }) (by show T ≠ w.heap.size; omega) c0 c1 c2 c3 c4 c5).trans t1
            go_region_held3 (fun wx => wx.cell? { block := T, off := 1 } = some (.int .i64 (er : Nat))) (with_reducible first | exact t1 | exact y0 _ _ _ _ _ _ | go_keep) (fail)
            rename_i hHeld
            clear hHeld y0
            go_wp2_with fail
            obtain ⟨W, hW, q0, q1, q2, q3, q4, q5, hO⟩ := Q6.out.tell (er : Nat)
            rw [← hW]
            exact bodyPost_ret (v := .tuple #[.agg #[.string ⟨#[]⟩, .int .i64 0, .int .i64 0, .int .i64 0, .slice none 0 0, .slice none 0 0], .int .i64 (er : Nat)]) (by simp [results, Tryd.results16, go_sem, q0, q1, q2, q3, q4, q5]) rfl (by rw [HP.out]; exact out_drew hO)
        have HBX3 := Lib.hid hbx
        have he60 : e ≤ 60 := by omega
        rw [h5] at t1
        clear hbx HF5
        go_wp2_with fail
        clear t1
        go_loopw [66] (fun s66 wr => ∃ (i : Nat) (MA : Option Addr) (mcc : Nat) (rs : List Raw), i ≤ e ∧ s66 = .int .i64 i ∧ Hid (QS w wr T X (itS (msgS false id) i s5).2 id v n 1 WA c wc MA i mcc ws rs) ∧ Hid (rs.map Raw.m = (itS (msgS false id) i s5).1) ∧ Hid ((itS (msgS false id) i s5).2.2.1 = 0) ∧ Hid ((itS (msgS false id) i s5).2.2.2 = false)) (fun s66 _ => e - (intOf s66).toNat)
        case atStart => exact ⟨0, none, 0, [], Nat.zero_le _, rfl, Q6.out, rfl, h5, HO5.out⟩
        case round =>
          clear Q6 hsz
          obtain ⟨i, MA, mcc, rs, hi, rfl, Q6, HR, HE6, HO6⟩ := hrel
          have hsz := Q6.out.size
          obtain ⟨si, hsi⟩ : ∃ si, si = (itS (msgS false id) i s5).2 := ⟨_, rfl⟩
          rw [← hsi] at Q6 HE6 HO6
          have HSI := Lib.hid hsi
          clear hsi
          by_cases hlt2 : i < e
          · obtain ⟨t1s, ht1⟩ : ∃ t1s, t1s = (fixS si).2 := ⟨_, rfl⟩
            obtain ⟨u, hu⟩ : ∃ u, u = (fixS si).1 := ⟨_, rfl⟩
            obtain ⟨tc, htc⟩ : ∃ tc, tc = (chS false t1s).2 := ⟨_, rfl⟩
            obtain ⟨md, hmd⟩ : ∃ md, md = (chS false t1s).1 := ⟨_, rfl⟩
            obtain ⟨t2s, ht2⟩ : ∃ t2s, t2s = (fixS tc).2 := ⟨_, rfl⟩
            obtain ⟨d, hd⟩ : ∃ d, d = (fixS tc).1 := ⟨_, rfl⟩
            obtain ⟨t3s, ht3⟩ : ∃ t3s, t3s = (byteS t2s).2 := ⟨_, rfl⟩
            obtain ⟨f, hf⟩ : ∃ f, f = (byteS t2s).1 := ⟨_, rfl⟩
            obtain ⟨t4s, ht4⟩ : ∃ t4s, t4s = (fixS t3s).2 := ⟨_, rfl⟩
            obtain ⟨bb, hbb⟩ : ∃ bb, bb = (fixS t3s).1 := ⟨_, rfl⟩
            obtain ⟨t5s, ht5⟩ : ∃ t5s, t5s = (fixS t4s).2 := ⟨_, rfl⟩
            obtain ⟨kk, hkk⟩ : ∃ kk, kk = (fixS t4s).1 := ⟨_, rfl⟩
            have HMS := Lib.hid (show msgS false id si = (⟨u, ((1 : Nat) : Int), d, ownT id u, f, keysN bb, (strS t4s).1⟩, (strS t4s).2) by
              unfold msgS
              simp only [← ht1, ← hu, ← htc, show (chS false t1s).1 = 1 from rfl, ← ht2, ← hd, ← ht3, ← hf, ← ht4, ← hbb])
            have hul : u < 4294967296 := by rw [hu]; exact fix_lt _
            have hbl : bb < 4294967296 := by rw [hbb]; exact fix_lt _
            have HT5 := Lib.hid (show fixS t4s = (kk, t5s) by rw [hkk, ht5])
            have HOT := Lib.hid (show t5s.2.2 = false by rw [ht5, fix_ov, ht4, fix_ov, ht3, byte_ov, ht2, fix_ov, htc, ch_ov, ht1, fix_ov]; exact HO6.out)
            have HJ := Lib.hid (show (itS (msgS false id) (i + 1) s5).1 = (itS (msgS false id) i s5).1 ++ [(msgS false id si).1] ∧ (itS (msgS false id) (i + 1) s5).2 = (msgS false id si).2 by rw [HSI.out]; exact ⟨rfl, rfl⟩)
            have K1 := Lib.hid (fun (wr : World) (g : RR wr T si.1 si.2.1) => show Calls Tryd.prog 32 #[ptr T] wr (RP wr T (.int .i64 (u : Nat)) t1s) from by rw [hu, ht1]; exact fixed_any g)
            have HTC := Lib.hid (show tc = t1s from htc)
            have K3 := Lib.hid (fun (wr : World) (g : RR wr T tc.1 tc.2.1) => show Calls Tryd.prog 32 #[ptr T] wr (RP wr T (.int .i64 (d : Nat)) t2s) from by rw [hd, ht2]; exact fixed_any g)
            have K4 := Lib.hid (fun (wr : World) (g : RR wr T t2s.1 t2s.2.1) => show Calls Tryd.prog 34 #[ptr T] wr (RP wr T (.int .i64 (f : Nat)) t3s) from by rw [hf, ht3]; exact byte_any g)
            have K5 := Lib.hid (fun (wr : World) (g : RR wr T t3s.1 t3s.2.1) => show Calls Tryd.prog 32 #[ptr T] wr (RP wr T (.int .i64 (bb : Nat)) t4s) from by rw [hbb, ht4]; exact fixed_any g)
            have K6 := Lib.hid (fun (wr : World) (g : RR wr T t4s.1 t4s.2.1) => show Calls Tryd.prog 32 #[ptr T] wr (RP wr T (.int .i64 (kk : Nat)) t5s) from by rw [hkk, ht5]; exact fixed_any g)
            clear ht1 hu htc hmd ht2 hd ht3 hf ht4 hbb ht5 hkk
            have KK := Lib.hid (K1.out wr Q6.out.rd)
            go_upto_region 21 with (go_at_call 32; go_loud (
               refine KK.out.mono ?_
               rintro e' wa ⟨rfl, hr, hgr⟩
               have Qa := Lib.hid (Q6.out.keep (s' := t1s) hgr hr)
               clear hr hgr))
            have Qb := Lib.hid (Qa.out.go ((Below.refl wa.heap.size wa).alloc (Nat.le_refl _) (.cells #[.int .i64 (u : Nat), .int .i64 1, .int .i64 0, .string ⟨#[]⟩, .int .i64 0, .slice none 0 0, .string ⟨#[]⟩] 41)))
            have Mb := Lib.hid (show MBk (wa.alloc (.cells #[.int .i64 (u : Nat), .int .i64 1, .int .i64 0, .string ⟨#[]⟩, .int .i64 0, .slice none 0 0, .string ⟨#[]⟩] 41)) wa.heap.size (u : Nat) 1 0 ⟨#[]⟩ 0 none 0 0 ⟨#[]⟩ from heap_alloc_new wa _)
            have hLX : X < wa.heap.size := Qa.out.size
            have hnL : (Value.slice MA i mcc).ownBlock ≠ some wa.heap.size := fun e => by have := (Qa.out.om.lt _ e).2; omega
            have HKL := Lib.hid (show ∀ r ∈ rs, ∀ g, (Value.slice r.K r.m.keys.length r.c).ownBlock = some g → g < wa.heap.size from fun r hr g e => ((Qa.out.ko r hr).lt g e).2)
            obtain ⟨L, hL⟩ : ∃ L, L = wa.heap.size := ⟨_, rfl⟩
            rw [← hL] at Mb hLX hnL HKL ⊢
            clear hL Q6 Qa KK K1 hsz
            generalize (World.alloc wa _) = wb at Qb Mb ⊢
            have wbe : True := trivial
            obtain ⟨wc', hwc'⟩ : ∃ wc', wc' = wb := ⟨_, rfl⟩
            subst hwc'
            have Qc := Lib.hid (show QS w wc' T X tc id v n 1 WA c wc MA i mcc ws rs by rw [HTC.out]; exact Qb.out)
            have Mc := Mb
            clear Qb Mb wbe HTC
            go_upto_region 23 with fail
            have KK := Lib.hid (K3.out wc' Qc.out.rd)
            go_upto_region 24 with (first
              | (go_at_call 32; go_loud (
                 refine KK.out.mono ?_
                 rintro e' wf ⟨rfl, hr, hgr⟩
                 have Qf := Lib.hid (Qc.out.keep (s' := t2s) hgr hr)
                 have Mf := Lib.hid (Mc.out.keep (hgr.block L (O1Pj.lt_blk Mc.out) (fun e => by have := Option.some.inj e; omega)))
                 have KL := Lib.hid (K4.out wf Qf.out.rd)
                 clear hr hgr))
              | (go_at_call 34; go_loud (
                 refine KL.out.mono ?_
                 rintro e' wg ⟨rfl, hr, hgr⟩
                 have Qg := Lib.hid (Qf.out.keep (s' := t3s) hgr hr)
                 have Mg := Lib.hid (Mf.out.keep (hgr.block L (O1Pj.lt_blk Mf.out) (fun e => by have := Option.some.inj e; omega)))
                 have m2 := Mg.out.cells.2.2.1
                 have m4 := Mg.out.cells.2.2.2.2.1
                 have g2 := O1Pj.free_blk Mg.out 2
                 have g4 := O1Pj.free_blk Mg.out 4
                 clear hr hgr)))
            have Mg2 := Lib.hid (O1Pj.set_blk Mg.out 2 (.int .i64 (d : Nat)) rfl)
            have Qh := Lib.hid ((Qg.out.aside (i := 2) hLX Mg.out hnL (.int .i64 (d : Nat))).aside (i := 4) hLX Mg2.out hnL (.int .i64 (f : Nat)))
            have Mh := Lib.hid (O1Pj.set_blk Mg2.out 4 (.int .i64 (f : Nat)) rfl)
            clear KK KL m2 m4 g2 g4 Qf Mf Qg Mg Mg2 Qc Mc K3 K4
            generalize (World.setCell (World.setCell wg _ _) _ _) = wh at Qh Mh ⊢
            have KK := Lib.hid (K5.out wh Qh.out.rd)
            go_upto_region 25 with (go_at_call 32; go_loud (
               refine KK.out.mono ?_
               rintro e' wi ⟨rfl, hr, hgr⟩
               have Qi := Lib.hid (Qh.out.keep (s' := t4s) hgr hr)
               have Mi := Lib.hid (Mh.out.keep (hgr.block L (O1Pj.lt_blk Mh.out) (fun e => by have := Option.some.inj e; omega)))
               clear hr hgr))
            clear KK Qh Mh K5
            go_wp2_with fail
            go_loopw [84] (fun s84 wr => ∃ (j nk : Nat) (K : Option Addr) (kc : Nat), j ≤ 32 ∧ s84 = .int .i64 j ∧ nk ≤ j ∧ Hid (nk = (OlB.kN bb j).length) ∧ Hid (QS w wr T X t4s id v n 1 WA c wc MA i mcc ws rs) ∧ Hid (MBk wr L (u : Nat) 1 (d : Nat) ⟨#[]⟩ (f : Nat) K nk kc ⟨#[]⟩) ∧ Hid (wr.ownsRow (L + 1) 3 1 (.slice K nk kc) nk ((OlB.kN bb j).map (Value.int .i64)))) (fun s84 _ => 32 - (intOf s84).toNat)
            case atStart => exact ⟨0, 0, none, 0, by omega, rfl, Nat.le_refl _, rfl, Qi.out, Mi.out, World.ownsRow_nil _ _ _ _⟩
            case round =>
              clear Qi Mi
              obtain ⟨j, nk, K, kc, hj, rfl, hnk, HN, Qi, Mi, HO⟩ := hrel
              by_cases hjl : j < 32
              · cases ht : bb.testBit j with
                | true =>
                  have hbit := (shr_bit hbl j).trans ht
                  have hkn := OlB.keys_take bb j hjl
                  rw [ht, if_pos rfl] at hkn
                  have HK := Lib.hid hkn
                  have m5 := Mi.out.cells.2.2.2.2.2.1
                  have hQs := Qi.out.size
                  have hLs := O1Pj.lt_blk Mi.out
                  clear hkn ht
                  go_upto_region 29 with fail
                  go_wp2_with (at_builtin; go_loud (
                     refine wpList_rows elI rfl _ _ rfl rfl rfl (HO.out.alloc _) (src_new wr #[.int .i64 (j : Nat)] 3 (m := 1) rfl rfl (by intro u hu; simp at hu; subst hu; rfl)) (by unfold maxLen; omega) (by omega) (by simp; omega) ?_
                     intro v3 w3 hown3 hg3 _
                     obtain ⟨K3, k3, rfl, hk3⟩ := own_slice hown3
                     have Q3 := Lib.hid ((Qi.out.go ((Below.refl wr.heap.size wr).alloc (Nat.le_refl _) (.cells #[.int .i64 (j : Nat)] 3))).grow hLX (HO.out.alloc _) hg3 HKL.out)
                     have M3 := Lib.hid (Mi.out.keep ((hg3.block L (by simp; omega) (fun e => by have := (HO.out.lt L e.symm).1; omega)).trans (heap_alloc_old _ _ hLs)))
                     have HO3 := Lib.hid (show w3.ownsRow (L + 1) 3 1 (.slice K3 (nk + 1) k3) (nk + 1) ((OlB.kN bb (j + 1)).map (Value.int .i64)) by unfold OlB.kN; rw [HK.out, List.map_append]; exact hown3)
                     have HN3 := Lib.hid (show nk + 1 = (OlB.kN bb (j + 1)).length by have := HN.out; unfold OlB.kN at this ⊢; rw [HK.out, List.length_append, ← this]; rfl)
                     have x5 := M3.out.cells.2.2.2.2.2.1
                     have xf := O1Pj.free_blk M3.out 5
                     clear hown3 hg3))
                  have M4 := Lib.hid (O1Pj.set_blk M3.out 5 (.slice K3 (nk + 1) k3) rfl)
                  have Q4 := Lib.hid (Q3.out.aside (i := 5) hLX M3.out hnL (.slice K3 (nk + 1) k3))
                  have HO4 := Lib.hid (ownsRow_setCell_below HO3.out (a := { block := L, off := 5 }) (by show L < L + 1; omega) (.slice K3 (nk + 1) k3))
                  clear x5 xf m5 M3 Q3 HO3 hbit
                  go_roundw
                  case rel => exact ⟨j + 1, nk + 1, K3, k3, by omega, by go_num, by omega, HN3, Q4, M4, HO4⟩
                  case measure => simp [intOf]; omega
                | false =>
                  have hbit := (shr_bit hbl j).trans ht
                  have hkn := OlB.keys_take bb j hjl
                  rw [ht, if_neg (by decide), List.append_nil] at hkn
                  have HK := Lib.hid hkn
                  clear hkn ht
                  go_wp2_with fail
                  go_roundw
                  case rel => exact ⟨j + 1, nk, K, kc, by omega, by go_num, by omega, by unfold OlB.kN; rw [HK.out]; exact HN, Qi, Mi, by unfold OlB.kN; rw [HK.out]; exact HO⟩
                  case measure => simp [intOf]; omega
              · obtain rfl : j = 32 := by omega
                have hnk2 := HN.out
                replace HO := Lib.hid (show wr.ownsRow (L + 1) 3 1 (.slice K nk kc) nk ((keysN bb).map (Value.int .i64)) from HO.out)
                replace HN := Lib.hid (show nk = (keysN bb).length from hnk2)
                clear hnk2 hbl
                have KK := Lib.hid (K6.out wr Qi.out.rd)
                go_upto_region 32 with (go_at_call 32; go_loud (
                   refine KK.out.mono ?_
                   rintro e' wk ⟨rfl, hr, hgr⟩
                   have Qk := Lib.hid (Qi.out.keep (s' := t5s) hgr hr)
                   have Mk := Lib.hid (Mi.out.keep (hgr.block L (O1Pj.lt_blk Mi.out) (fun e => by have := Option.some.inj e; omega)))
                   have HOk := Lib.hid (HO.out.kept hgr (.inr (fun e => by have := (HO.out.lt _ e).1; omega)))
                   clear hr hgr))
                clear KK Qi Mi HO K6
                obtain ⟨A5, n5, c5, hl5, ⟨hn5, hn5b⟩, t0, t1, tf0, tf1, hz5⟩ := Qk.out.rd.cells
                have HZ5 := Lib.hid hz5
                clear hz5
                have hend : ∀ P : St → Prop, (∀ s, P s → P (msgS false id s).2) → P (strS t4s).2 → P (itS (msgS false id) e s5).2 := fun P hP h => by
                  have h1 : (itS (msgS false id) (i + 1) s5).2 = (strS t4s).2 := by rw [HJ.out.2, HMS.out]
                  have h2 := it_from (f := msgS false id) (P := P) hP (s := s5) (i := i + 1) (by rw [h1]; exact h) (e - (i + 1))
                  rwa [show i + 1 + (e - (i + 1)) = e by omega] at h2
                have HEND := Lib.hid hend
                clear hend
                by_cases hA : 300 < kk
                · have h0 : t5s.2.1 = 0 := by have := fix_pos (m := 300) (s := t4s) (by rw [HT5.out]; exact hA); rwa [HT5.out] at this
                  have HP := Lib.hid (parse_over (id := id) hb (by rw [← HS0.out]) (by rw [HBX3.out]; exact HEND.out (fun s => s.2.2 = true) (fun s h => msg_over h) (str_a (by rw [HT5.out]; exact hA))))
                  have hA' : (300 : Int) < (kk : Int) := by omega
                  rw [h0] at t1
                  clear h0
                  obtain ⟨z0, z1, z2, z3, z4, z5, zf⟩ := zcells6 Qk.out.res
                  have f0 := zf 0
                  have f1 := zf 1
                  have f2 := zf 2
                  have f3 := zf 3
                  have f4 := zf 4
                  have f5 := zf 5
                  clear zf
                  go_wp2_with fail
                  obtain ⟨W, hW, q0, q1, q2, q3, q4, q5, hO⟩ := Qk.out.tell 3
                  rw [← hW]
                  exact bodyPost_ret (v := .tuple #[.agg #[.string ⟨#[]⟩, .int .i64 0, .int .i64 0, .int .i64 0, .slice none 0 0, .slice none 0 0], .int .i64 3]) (by simp [results, Tryd.results16, go_sem, q0, q1, q2, q3, q4, q5]) rfl (by rw [HP.out]; exact hO)
                · have hA' : ¬ (300 : Int) < (kk : Int) := by omega
                  by_cases hB5 : t5s.2.1 = 0
                  case neg =>
                    have hbs : (boxS false id s0).2 = t5s := by
                      rw [HBX3.out]
                      exact HEND.out (fun s => s = t5s) (fun s h => by subst h; exact msg_bad hB5) (by rw [str_b (by rw [HT5.out]; exact hB5), HT5.out])
                    have HP := Lib.hid (parse_bad (id := id) hb (by rw [← HS0.out]) (by rw [hbs]; exact hB5) (by rw [hbs]; exact HOT.out))
                    rw [hbs] at HP
                    obtain ⟨er, her⟩ : ∃ er, er = t5s.2.1 := ⟨_, rfl⟩
                    rw [← her] at HP t1
                    have hne : er ≠ 0 := by rw [her]; exact hB5
                    have he1 : ((er : Int) == 0) = false := by simpa using hne
                    have he2 : ((er : Int) != 0) = true := by simpa using hne
                    have he3 : ¬ (er : Int) = 0 := by omega
                    clear her hB5 hbs
                    go_upto_region 37 with fail
                    obtain ⟨z0, z1, z2, z3, z4, z5, zf⟩ := zcells6 Qk.out.res
                    have f0 := zf 0
                    have f1 := zf 1
                    have f2 := zf 2
                    have f3 := zf 3
                    have f4 := zf 4
                    have f5 := zf 5
                    clear zf
                    have y0 := fun c0 c1 c2 c3 c4 c5 => (cell_drew _ _).trans <| (six_cell (wr := wk) (P := w.heap.size) (p := { block := T, off := 1 }) (by show T ≠ w.heap.size; omega) c0 c1 c2 c3 c4 c5).trans t1
                    go_region_held3 (fun wx => wx.cell? { block := T, off := 1 } = some (.int .i64 (er : Nat))) (with_reducible first | exact t1 | exact y0 _ _ _ _ _ _ | go_keep) (fail)
                    rename_i hHeld
                    clear hHeld y0
                    go_wp2_with fail
                    obtain ⟨W, hW, q0, q1, q2, q3, q4, q5, hO⟩ := Qk.out.tell (er : Nat)
                    rw [← hW]
                    exact bodyPost_ret (v := .tuple #[.agg #[.string ⟨#[]⟩, .int .i64 0, .int .i64 0, .int .i64 0, .slice none 0 0, .slice none 0 0], .int .i64 (er : Nat)]) (by simp [results, Tryd.results16, go_sem, q0, q1, q2, q3, q4, q5]) rfl (by rw [HP.out]; exact out_drew hO)
                  case pos =>
                    rw [hB5] at t1
                    by_cases hC : n5 < kk
                    · have hC' : (n5 : Int) < (kk : Int) := by omega
                      have h5e : fixS t4s = (kk, (t5s.1, 0, false)) := by
                        rw [HT5.out]
                        have h1 := HOT.out
                        obtain ⟨l5, er5, ov5⟩ := t5s
                        simp only at hB5 h1
                        rw [hB5, h1]
                      have hbs : (boxS false id s0).2.2 = (2, false) := by
                        rw [HBX3.out]
                        exact HEND.out (fun s => s.2 = (2, false)) (fun s h => by rw [msg_bad (by rw [h]; exact Nat.succ_ne_zero 1)]; exact h) (str_c h5e (by omega) (by omega))
                      have HP := Lib.hid (parse_bad (id := id) (s := (boxS false id s0).2) hb (by rw [← HS0.out]) (by rw [hbs]; exact Nat.succ_ne_zero 1) (by rw [hbs]))
                      rw [hbs] at HP
                      replace HP := Lib.hid (show parseS false l id = (nB, 2) from HP.out)
                      have KF := Lib.hid (RrA.fail_any (w := wk) (T := T) (l := t5s.1) (by have := Qk.out.rd; rwa [hB5] at this) 2)
                      clear hbs h5e
                      go_upto_region 36 with (go_at_call 35; go_loud (
                         refine KF.out.mono ?_
                         rintro e' wm ⟨rfl, hr, hgr⟩
                         have Qm := Lib.hid (Qk.out.keep (s' := (t5s.1, 2, false)) hgr hr)
                         clear hr hgr t0 t1 tf0 tf1))
                      obtain ⟨_, _, _, _, _, _, t1, _, _, _⟩ := Qm.out.rd.cells
                      go_upto_region 37 with fail
                      obtain ⟨z0, z1, z2, z3, z4, z5, zf⟩ := zcells6 Qm.out.res
                      have f0 := zf 0
                      have f1 := zf 1
                      have f2 := zf 2
                      have f3 := zf 3
                      have f4 := zf 4
                      have f5 := zf 5
                      clear zf
                      have y0 := fun c0 c1 c2 c3 c4 c5 => (cell_drew _ _).trans <| (six_cell (wr := wm) (P := w.heap.size) (p := { block := T, off := 1 }) (by show T ≠ w.heap.size; omega) c0 c1 c2 c3 c4 c5).trans t1
                      go_region_held3 (fun wx => wx.cell? { block := T, off := 1 } = some (.int .i64 2)) (with_reducible first | exact t1 | exact y0 _ _ _ _ _ _ | go_keep) (fail)
                      rename_i hHeld
                      clear hHeld y0
                      go_wp2_with fail
                      obtain ⟨W, hW, q0, q1, q2, q3, q4, q5, hO⟩ := Qm.out.tell 2
                      rw [← hW]
                      exact bodyPost_ret (v := .tuple #[.agg #[.string ⟨#[]⟩, .int .i64 0, .int .i64 0, .int .i64 0, .slice none 0 0, .slice none 0 0], .int .i64 2]) (by simp [results, Tryd.results16, go_sem, q0, q1, q2, q3, q4, q5]) rfl (by rw [HP.out]; exact out_drew hO)
                    · have hC' : ¬ (n5 : Int) < (kk : Int) := by omega
                      have hC2 : kk ≤ n5 := by omega
                      have h5e : fixS t4s = (kk, (t5s.1, 0, false)) := by
                        rw [HT5.out]
                        have h1 := HOT.out
                        obtain ⟨l5, er5, ov5⟩ := t5s
                        simp only at hB5 h1
                        rw [hB5, h1]
                      have hstr := str_d h5e (by omega) (by rw [hl5]; exact hC2)
                      obtain ⟨TX, hTX⟩ : ∃ TX : ByteArray, TX = ⟨(t5s.1.take kk).toArray⟩ := ⟨_, rfl⟩
                      rw [← hTX] at hstr
                      have HSTR := Lib.hid hstr
                      have hcv := (HZ5.out.take (k := kk) hC2).conv c5
                      rw [← hTX] at hcv
                      have HB5 := Lib.hid hB5
                      have hkci : (kk : Int) ≤ (c5 : Int) := by omega
                      have hkc5 : kk ≤ c5 := by omega
                      have hkn5 : (kk : Int) ≤ (n5 : Int) := by omega
                      have m6 := Mk.out.cells.2.2.2.2.2.2
                      have g6 := O1Pj.free_blk Mk.out 6
                      clear h5e hstr hTX hB5 HEND
                      go_upto_region 39 with fail
                      have Ql := Lib.hid (Qk.out.aside (i := 6) hLX Mk.out hnL (.string TX))
                      have Ml := Lib.hid (O1Pj.set_blk Mk.out 6 (.string TX) rfl)
                      have HOl := Lib.hid (ownsRow_setCell_below HOk.out (a := { block := L, off := 6 }) (by show L < L + 1; omega) (.string TX))
                      clear hcv m6 g6 t0 t1 tf0 tf1 Qk Mk HOk HZ5
                      generalize (World.setCell wk _ _) = wl at Ql Ml HOl ⊢
                      obtain ⟨A6, n6, c6, hl6, ⟨hn6, hn6b⟩, t0, t1, tf0, tf1, hz6⟩ := Ql.out.rd.cells
                      obtain rfl : n5 = n6 := by omega
                      have hcut := hz6.cut (k := kk) (cp := c6) hC2 hn6
                      have hkci : (kk : Int) ≤ (c6 : Int) := by omega
                      have hkc6 : kk ≤ c6 := by omega
                      have hnc6 : (n5 : Int) ≤ (c6 : Int) := by omega
                      go_upto_region 40 with fail
                      obtain ⟨A7, hA7⟩ : ∃ A7, A7 = (if c6 = kk then A6 else Option.map (fun x => x.add kk) A6) := ⟨_, rfl⟩
                      replace hcut : BytesAt wl T A7 (n5 - kk) (t5s.1.drop kk) := by rw [hA7]; exact hcut
                      rw [← hA7]
                      have Qn := Lib.hid (Ql.out.rest (s' := (t5s.1.drop kk, 0, false)) (by
                        have h1 := HB5.out
                        have h2 := HOT.out
                        obtain ⟨l5, er5, ov5⟩ := t5s
                        simp only at h1 h2
                        rw [h1, h2]) hcut (show n5 - kk ≤ c6 - kk by omega) (by omega))
                      have hTL : T ≠ L := by omega
                      have Mn := Lib.hid (Ml.out.keep (w' := wl.setCell { block := T, off := 0 } (.slice A7 (n5 - kk) (c6 - kk))) (Below.heap_setCell _ _ _ _ (by show L ≠ T; omega)))
                      have HOn := Lib.hid (ownsRow_setCell_below HOl.out (a := { block := T, off := 0 }) (by show T < L + 1; omega) (.slice A7 (n5 - kk) (c6 - kk)))
                      clear t0 t1 tf0 tf1 hz6 hcut hA7 Ql Ml HOl
                      generalize (World.setCell wl _ _) = wn at Qn Mn HOn ⊢
                      have KO := Lib.hid (BxO.refOwn_any (id := id) (u := (u : Int)) (HT.out.below Qn.out.low (Nat.le_refl _)) (by omega) (by omega))
                      obtain ⟨OW, hOW⟩ : ∃ OW, OW = ownT id (u : Int) := ⟨_, rfl⟩
                      rw [← hOW] at KO
                      have HOW := Lib.hid hOW
                      clear hOW
                      have m0 := Mn.out.cells.1
                      go_upto_region 41 with (go_at_call 19; go_loud (
                         refine KO.out.mono ?_
                         rintro e' wp ⟨rfl, hbp⟩
                         have Qp := Lib.hid (Qn.out.go hbp)
                         have Mp := Lib.hid (Mn.out.keep (hbp.block L (O1Pj.lt_blk Mn.out)))
                         have HOp := Lib.hid (own_block HOn.out fun g e => hbp.block g (HOn.out.lt g e).2)
                         have m3 := Mp.out.cells.2.2.2.1
                         have g3 := O1Pj.free_blk Mp.out 3
                         clear hbp m0))
                      have Qq := Lib.hid (Qp.out.aside (i := 3) hLX Mp.out hnL (.string OW))
                      have Mq := Lib.hid (O1Pj.set_blk Mp.out 3 (.string OW) rfl)
                      have HOq := Lib.hid (ownsRow_setCell_below HOp.out (a := { block := L, off := 3 }) (by show L < L + 1; omega) (.string OW))
                      clear m3 g3 Qn Mn HOn Qp Mp HOp KO
                      generalize (World.setCell wp _ _) = wq at Qq Mq HOq ⊢
                      obtain ⟨m0, m1, m2, m3, m4, m5, m6⟩ := Mq.out.cells
                      have x5 := Qq.out.cells.2.2.2.2.2.1
                      have hzq := Qq.out.size
                      have Qr := Lib.hid (Qq.out.go ((Below.refl wq.heap.size wq).alloc (Nat.le_refl _) (.cells #[.int .i64 (u : Nat), .int .i64 1, .int .i64 (d : Nat), .string OW, .int .i64 (f : Nat), .slice K nk kc, .string TX] 41)))
                      have OMr := Lib.hid (Qq.out.om.alloc (.cells #[.int .i64 (u : Nat), .int .i64 1, .int .i64 (d : Nat), .string OW, .int .i64 (f : Nat), .slice K nk kc, .string TX] 41))
                      have SR := Lib.hid (src_new wq #[.int .i64 (u : Nat), .int .i64 1, .int .i64 (d : Nat), .string OW, .int .i64 (f : Nat), .slice K nk kc, .string TX] 41 (b := wq.heap.size) (m := 1) (sz := 7) rfl rfl (by intro u hu; simp at hu; rcases hu with h | h | h | h | h | h | h <;> (subst h; rfl)))
                      have HOr0 : wq.ownsRow (X + 1) 3 1 (.slice K (keysN bb).length kc) (keysN bb).length ((keysN bb).map (Value.int .i64)) := by
                        have h1 := HOq.out
                        rw [HN.out] at h1
                        exact own_base h1 (by omega)
                      have HOr := Lib.hid (HOr0.alloc (.cells #[.int .i64 (u : Nat), .int .i64 1, .int .i64 (d : Nat), .string OW, .int .i64 (f : Nat), .slice K nk kc, .string TX] 41))
                      clear HOr0
                      go_wp2_with (at_builtin; go_loud (
                         refine wpList_rows elM (c := 1) rfl _ _ rfl rfl rfl OMr.out SR.out (by unfold maxLen; omega) (by omega) (by simp; omega) ?_
                         intro v8 w8 hown8 hg8 _
                         obtain ⟨A8, k8, rfl, hk8⟩ := own_slice hown8
                         have B8 := Lib.hid (Qr.out.msg (r := ⟨⟨u, ((1 : Nat) : Int), d, ownT id u, f, keysN bb, TX⟩, K, kc⟩) HOr.out (by
                             rw [mc_append]
                             unfold mc cell7
                             simp only [List.flatMap_cons, List.flatMap_nil, List.append_nil]
                             rw [← HN.out, ← HOW.out]
                             exact hown8) hg8)
                         have hlo : ∀ p : Addr, p.block < X + 1 → w8.cell? p = wq.cell? p ∧ w8.frozen? p = wq.frozen? p := fun p hp => by
                           have h1 : w8.heap[p.block]? = wq.heap[p.block]? := (hg8.block p.block (by simp; omega) (fun e2 => by have := (OMr.out.lt _ e2.symm).1; omega)).trans (heap_alloc_old wq _ (by omega))
                           exact ⟨World.cell?_of_block h1, World.frozen?_of_block h1⟩
                         have z5 := ((hlo { block := X, off := 5 } (by show X < _; omega)).1).trans x5
                         have zf := ((hlo { block := X, off := 5 } (by show X < _; omega)).2).trans (Qq.out.cells.2.2.2.2.2.2 5)
                         clear hlo hown8 hg8 m0 m1 m2 m3 m4 m5 m6 x5))
                      clear Qq Mq HOq Qr OMr SR HOr z5 zf
                      go_roundw
                      case rel =>
                        refine ⟨i + 1, A8, k8, rs ++ [⟨⟨u, ((1 : Nat) : Int), d, ownT id u, f, keysN bb, TX⟩, K, kc⟩], by omega, by go_num, ?_, ?_, ?_, ?_⟩
                        · show QS w _ T X (itS (msgS false id) (i + 1) s5).2 id v n 1 WA c wc A8 (i + 1) k8 ws _
                          rw [HJ.out.2, HMS.out]
                          show QS w _ T X (strS t4s).2 id v n 1 WA c wc A8 (i + 1) k8 ws _
                          rw [HSTR.out]
                          exact B8.out
                        · show List.map Raw.m (rs ++ [_]) = (itS (msgS false id) (i + 1) s5).1
                          rw [HJ.out.1, List.map_append, HR.out, HMS.out, HSTR.out]
                          rfl
                        · show (itS (msgS false id) (i + 1) s5).2.2.1 = 0
                          rw [HJ.out.2, HMS.out]
                          show (strS t4s).2.2.1 = 0
                          rw [HSTR.out]
                        · show (itS (msgS false id) (i + 1) s5).2.2.2 = false
                          rw [HJ.out.2, HMS.out]
                          show (strS t4s).2.2.2 = false
                          rw [HSTR.out]
                      case measure => simp [intOf]; omega
          · obtain rfl : e = i := by omega
            have hbx : boxS false id s0 = (⟨id, v, n, ((1 : Nat) : Int), ws, (itS (msgS false id) e s5).1⟩, si) := by rw [HBX3.out, HSI.out]
            obtain ⟨ms, hms⟩ : ∃ ms, ms = (itS (msgS false id) e s5).1 := ⟨_, rfl⟩
            have hps := parse_rest (id := id) (b := ⟨id, v, n, ((1 : Nat) : Int), ws, ms⟩) (s := si) hb (by rw [← HS0.out, hbx, hms]) HE6.out HO6.out
            have HRM := Lib.hid (show rs.map Raw.m = ms by rw [hms]; exact HR.out)
            have hml : ms.length = e := by rw [hms]; exact OlS.it_len _ _ _
            have HM3 := Lib.hid (show ∀ m ∈ ms, m.keys.length ≤ 32 ∧ m.id.size ≤ 300 ∧ m.text.size ≤ 300 from fun m hm => by
              rw [hms] at hm
              obtain ⟨s', rfl⟩ := PtK.it_mem _ _ _ hm
              exact OlY.msg_size false id s' hid)
            obtain ⟨A6, n6, c6, hl6, ⟨hn6, hn6b⟩, t0, t1, _, _, _⟩ := Q6.out.rd.cells
            rw [HE6.out] at t1
            rw [hl6] at hps
            clear hbx hms HBX3 HSI HR HO5 HP5
            by_cases hl0 : 0 < n6
            · rw [if_pos (.inl hl0)] at hps
              have HP := Lib.hid hps
              have hl0' : (0 : Int) < (n6 : Int) := by omega
              clear hps
              obtain ⟨z0, z1, z2, z3, z4, z5, zf⟩ := zcells6 Q6.out.res
              have f0 := zf 0
              have f1 := zf 1
              have f2 := zf 2
              have f3 := zf 3
              have f4 := zf 4
              have f5 := zf 5
              clear zf
              go_wp2_with fail
              obtain ⟨W, hW, q0, q1, q2, q3, q4, q5, hO⟩ := Q6.out.tell 3
              rw [← hW]
              exact bodyPost_ret (v := .tuple #[.agg #[.string ⟨#[]⟩, .int .i64 0, .int .i64 0, .int .i64 0, .slice none 0 0, .slice none 0 0], .int .i64 3]) (by simp [results, Tryd.results16, go_sem, q0, q1, q2, q3, q4, q5]) rfl (by rw [HP.out]; exact hO)
            · obtain rfl : n6 = 0 := by omega
              have hwc : c ≤ wc := by
                obtain ⟨Aw, cw, ew, h⟩ := own_slice Q6.out.ow
                injection ew with _ _ e3
                omega
              have hmc : e ≤ mcc := by
                obtain ⟨Am, cm, em, h⟩ := own_slice Q6.out.om
                injection em with _ _ e3
                omega
              have rows : ∀ W : World, W.ownsRow (X + 1) 9 1 (.slice WA c wc) c (ws.map Value.string) → W.ownsRow (X + 1) 41 7 (.slice MA e mcc) e (mc rs) → (∀ r ∈ rs, W.ownsRow (X + 1) 3 1 (.slice r.K r.m.keys.length r.c) r.m.keys.length (r.m.keys.map (Value.int .i64))) → StrsAt W W.heap.size WA c ws ∧ MsgsAt W W.heap.size MA e ms := fun W o1 o2 o3 => by
                have hkeys : KeysOk W W.heap.size rs := fun r hr => by
                  have hm : r.m ∈ ms := by rw [← HRM.out]; exact List.mem_map_of_mem hr
                  obtain ⟨k1, k2, k3⟩ := HM3.out r.m hm
                  obtain ⟨A9, c9, e9, h9⟩ := own_slice (o3 r hr)
                  injection e9 with e1 e2 e3
                  exact ⟨intsAt_own (o3 r hr) (by omega), by omega, by omega, by omega⟩
                have hm5 := msgsAt_own o2 (by omega) hkeys
                rw [HRM.out] at hm5
                exact ⟨strsAt_own o1 (by omega) (fun x hx => by have := HW24.out x hx; omega), hm5⟩
              obtain ⟨hx5, hm5⟩ := rows wr Q6.out.ow Q6.out.om Q6.out.ko
              have HROWS := Lib.hid rows
              have km := BxB.ref_may (bid := id) (bv := (v : Nat)) (bn := (n : Nat)) (bh := 1) (mc := mcc) hx5 hm5 (Nat.le_refl _) hwc
              obtain ⟨er, her⟩ : ∃ er, er = mbE ⟨id, v, n, ((1 : Nat) : Int), ws, ms⟩ := ⟨_, rfl⟩
              rw [← her] at hps
              rw [show mbE ⟨id, ((v : Nat) : Int), ((n : Nat) : Int), 1, ws, ms⟩ = er from her.symm] at km
              have KM := Lib.hid km
              obtain ⟨x0, x1, x2, x3, x4, x5, xf⟩ := Q6.out.cells
              clear hx5 hm5 rows km her xf
              by_cases he0 : er = 0
              · subst he0
                rw [if_neg (by simp)] at hps
                have HP := Lib.hid hps
                clear hps
                go_upto_region 47 with (go_at_call 18; go_loud (
                   refine KM.out.mono ?_
                   rintro e' wm ⟨rfl, hbm⟩
                   have Qm := Lib.hid (Q6.out.go hbm)
                   clear hbm x0 x1 x2 x3 x4 x5 t0 t1))
                obtain ⟨x0, x1, x2, x3, x4, x5, xf⟩ := Qm.out.cells
                obtain ⟨z0, z1, z2, z3, z4, z5, zf⟩ := zcells6 Qm.out.res
                have f0 := zf 0
                have f1 := zf 1
                have f2 := zf 2
                have f3 := zf 3
                have f4 := zf 4
                have f5 := zf 5
                clear zf xf
                go_wp2_with fail
                obtain ⟨W, hW, p0, p1, p2, p3, p4, p5, hWg⟩ := ret6 Qm.out.res (.string id) (.int .i64 (v : Nat)) (.int .i64 (n : Nat)) (.int .i64 1) (.slice WA c wc) (.slice MA e mcc)
                rw [← hW]
                refine bodyPost_ret (v := .tuple #[.agg #[.string id, .int .i64 (v : Nat), .int .i64 (n : Nat), .int .i64 1, .slice WA c wc, .slice MA e mcc], .int .i64 0]) (by simp [results, Tryd.results16, go_sem, p0, p1, p2, p3, p4, p5]) rfl ?_
                rw [HP.out]
                have keep : ∀ {ty sz k : Nat} {x : Value} {xs : List Value}, wm.ownsRow (X + 1) ty sz x k xs → W.ownsRow (X + 1) ty sz x k xs := fun {_ _ _ _ _} ho =>
                  ho.kept hWg (.inr (fun e2 => by have := (ho.lt _ e2).1; omega))
                obtain ⟨h1, h2⟩ := HROWS.out W (keep Qm.out.ow) (keep Qm.out.om) (fun r hr => keep (Qm.out.ko r hr))
                exact ⟨WA, c, wc, MA, e, mcc, rfl, hwc, hmc, h1, h2, Qm.out.low.grown hWg Qm.out.low.size (fun k e => by have : w.heap.size = k := Option.some.inj e; omega)⟩
              · rw [if_pos (.inr he0)] at hps
                have HP := Lib.hid hps
                have he1 : (er == 0) = false := by simpa using he0
                have he2 : (er != 0) = true := by simpa using he0
                clear hps
                go_upto_region 46 with (go_at_call 18; go_loud (
                   refine KM.out.mono ?_
                   rintro e' wm ⟨rfl, hbm⟩
                   have Qm := Lib.hid (Q6.out.go hbm)
                   clear hbm x0 x1 x2 x3 x4 x5 t0 t1))
                obtain ⟨z0, z1, z2, z3, z4, z5, zf⟩ := zcells6 Qm.out.res
                have f0 := zf 0
                have f1 := zf 1
                have f2 := zf 2
                have f3 := zf 3
                have f4 := zf 4
                have f5 := zf 5
                clear zf
                go_wp2_with fail
                obtain ⟨W, hW, q0, q1, q2, q3, q4, q5, hO⟩ := Qm.out.tell 3
                rw [← hW]
                exact bodyPost_ret (v := .tuple #[.agg #[.string ⟨#[]⟩, .int .i64 0, .int .i64 0, .int .i64 0, .slice none 0 0, .slice none 0 0], .int .i64 3]) (by simp [results, Tryd.results16, go_sem, q0, q1, q2, q3, q4, q5]) rfl (by rw [HP.out]; exact hO)
end Go.Proofs.YtfhdoecackdflaaDoor.OlQ1
