/-
  The document's put and cut.
-/
import Derived.Test.YtefgcckdlebfaaaRfA
namespace Go.Proofs.Ytefgcckdlebfaaa.RfP
open Go.RowKit Go.Proofs.Ytefgcckdlebfaaa.BxD Go.Proofs.Ytefgcckdlebfaaa.BxKit Go.Proofs.Ytefgcckdlebfaaa.RkO Go.Proofs.Ytefgcckdlebfaaa.RkC Go.Proofs.Ytefgcckdlebfaaa.RkD Go.Proofs.Ytefgcckdlebfaaa.RkR Go.Proofs.Ytefgcckdlebfaaa.RkK Go.Proofs.Ytefgcckdlebfaaa.RkP Go.Proofs.Ytefgcckdlebfaaa.RkQ Go.Proofs.Ytefgcckdlebfaaa.RkE Go.Proofs.Ytefgcckdlebfaaa.RfA

theorem dok_snoc {w : World} {rs : List RF} {r : RF} (h : ∀ x ∈ rs, DOk w x) (hr : DOk w r) : ∀ x ∈ rs ++ [r], DOk w x := fun x hx => by
  rcases List.mem_append.1 hx with hx | hx
  · exact h x hx
  · obtain rfl := List.mem_singleton.1 hx; exact hr
/-- A row of the call's own as an answer. -/
theorem dn_own {w wr : World} {v : Value} {q : Nat} {rs : List RF} {l : List F} (ho : wr.ownsRow w.heap.size 50 2 v q (fc rs)) (hd : ∀ r ∈ rs, DOk w r) (he : rs.map fOf = l) (hb : Below w.heap.size w wr) : DnPost l w (.returned v) wr := by
  obtain ⟨A, c, rfl, hc⟩ := RkR.own_slice ho
  have hq : q = l.length := by
    have := ho.1
    rw [fc_length] at this
    rw [← he, List.length_map]; omega
  subst hq
  exact ⟨A, c, rfl, hc, ⟨rs, he, filesR_own ho fun r hr => ⟨(hd r hr).1.kp (Kp.below hb (Nat.le_refl _)), (hd r hr).2⟩⟩, hb⟩
theorem drop_at {l : List F} {k : Nat} {f : F} (h : l[k]? = some f) : l.drop k = f :: l.drop (k + 1) := by
  obtain ⟨hl, rfl⟩ := List.getElem?_eq_some_iff.1 h
  exact List.drop_eq_getElem_cons hl
theorem rp_step {n : ByteArray} {d : List UInt8} {l : List F} {k : Nat} {x : ByteArray} {kd : List UInt8} {b : Bool} (h : l[k]? = some (x, kd)) :
    rp n d (l.drop k) b = (if !b && ge x n then [(n, d)] else []) ++ ((if decide (x = n) then [] else [(x, kd)]) ++ rp n d (l.drop (k + 1)) (b || ge x n)) := by
  rw [drop_at h]; rfl
theorem rc_step {n : ByteArray} {l : List F} {k : Nat} {x : ByteArray} {kd : List UInt8} (h : l[k]? = some (x, kd)) :
    rc n (l.drop k) = (if decide (x = n) then [] else [(x, kd)]) ++ rc n (l.drop (k + 1)) := by
  rw [drop_at h]
  unfold rc
  by_cases e : x = n
  · rw [List.filter_cons_of_neg (by simpa using e), decide_eq_true e]; rfl
  · rw [List.filter_cons_of_pos (by simpa using e), decide_eq_false e]; rfl
set_option maxHeartbeats 2000000 in
theorem cut_any {A : Option Addr} {n cap : Nat} {w : World} {ps : List F} (k0 : ByteArray) (hn : n ≤ 1000) (hs : SrtF ps) (hr : FilesT w A n ps) :
    Calls Try.prog 44 #[.slice A n cap, .string k0] w (DnPost (cutF k0 ps) w) := by
  rw [← rc_cut hs]
  have HC := Lib.hid hr
  clear hr hs
  go_enter Try.func44, Try.ntmps44
  go_upto_region 3 with fail
  go_loopw [10, 5] (fun s10 s5 wr => ∃ (k q : Nat) (v : Value) (rs : List RF), v = s5 ∧ k ≤ n ∧ q ≤ k ∧ s10 = .int .i64 k ∧ Hid (rs.map fOf ++ rc k0 (ps.drop k) = rc k0 ps) ∧ Hid (∀ r ∈ rs, DOk w r) ∧ Hid (wr.ownsRow w.heap.size 50 2 v q (fc rs)) ∧ Hid (Below w.heap.size w wr)) (fun s10 _ _ => n - (intOf s10).toNat)
  case atStart => exact ⟨0, 0, _, [], rfl, Nat.zero_le _, Nat.le_refl _, rfl, Lib.hid rfl, Lib.hid (fun r hr => by simp at hr), Lib.hid (World.ownsRow_nil _ _ _ _), Lib.hid (Below.refl _ _)⟩
  case round =>
    obtain ⟨k, q, v, rs, rfl, hk, hq, rfl, HE, HD, HO, HB⟩ := hrel
    by_cases hlt : k < n
    · obtain ⟨ad, x, K, kd, kc, rfl, hp, hc1, hc2, hle, _⟩ := HC.out.sp (Kp.below HB.out (Nat.le_refl _)) (j := k) hlt
      obtain ⟨ad', x', K', kd', kc', e1, hp', hc1', hc2', hle', hby⟩ := HC.out.sp (Kp.below (Below.refl w.heap.size w) (Nat.le_refl _)) (j := k) hlt
      obtain rfl := Option.some.inj e1
      rw [hp] at hp'
      obtain ⟨rfl, rfl⟩ := Prod.mk.inj (Option.some.inj hp')
      have e2 := (HB.out.cell (p := { block := (ad.add (k * 2)).block, off := (ad.add (k * 2)).off + 1 }) (World.block_lt_of_cell? w _ hc2')).trans hc2'
      rw [hc2] at e2
      injection e2 with e2
      injection e2 with e3 _ e4
      subst e3 e4
      have HST := Lib.hid (rc_step (n := k0) hp)
      have HDK := Lib.hid (show DOk w (x, ⟨K, kc, kd⟩) from ⟨hby, hle⟩)
      have hbb := Lib.hid (HB.out.alloc HB.out.size (.cells #[.string x, .slice K kd.length kc] 50))
      have HOb := Lib.hid (HO.out.alloc (.cells #[.string x, .slice K kd.length kc] 50))
      have HX := Lib.hid (heap_alloc_new wr (.cells #[.string x, .slice K kd.length kc] 50))
      have HM2 := Lib.hid (show cell2 (x, ⟨K, kc, kd⟩) = [.string x, .slice K kd.length kc] from rfl)
      obtain ⟨m, hm⟩ : ∃ m, m = kd.length := ⟨_, rfl⟩
      rw [← hm] at hc2 hbb hle HOb HX HM2
      have HMD := Lib.hid hm
      clear hp hm hc1' hc2' hle' hby
      by_cases he : x = k0
      · have hq0 : (x.toList == k0.toList) = true := by rw [beqN]; exact decide_eq_true he
        have hq1 : (x.toList != k0.toList) = false := by unfold bne; rw [hq0]; rfl
        have HE2 := Lib.hid (show rs.map fOf ++ rc k0 (ps.drop (k + 1)) = rc k0 ps by
          have h := HE.out
          rw [HST.out, decide_eq_true he] at h
          simpa using h)
        clear he
        go_wp2
        go_roundw
        case measure => simp [intOf]; omega
        case rel => exact ⟨k + 1, q, _, rs, rfl, by omega, by omega, by go_num, HE2, HD, HOb, hbb⟩
      · have hq0 : (x.toList == k0.toList) = false := by rw [beqN]; exact decide_eq_false he
        have hq1 : (x.toList != k0.toList) = true := by unfold bne; rw [hq0]; rfl
        have HE2 := Lib.hid (show (rs ++ [((x, ⟨K, kc, kd⟩) : RF)]).map fOf ++ rc k0 (ps.drop (k + 1)) = rc k0 ps by
          have h := HE.out
          rw [HST.out, decide_eq_false he] at h
          rw [← h, List.map_append, List.append_assoc]
          rfl)
        have HD2 := Lib.hid (dok_snoc HD.out HDK.out)
        clear he
        go_upto_region 5 with fail
        obtain ⟨B, hB⟩ : ∃ B, B = wr.heap.size := ⟨_, rfl⟩
        rw [← hB] at HX ⊢
        clear hB hc1 hc2
        generalize (World.alloc wr _) = w5 at hbb HOb HX ⊢
        have c := fun o => cell_of_row _ B o _ _ _ HX.out
        have x0 := (c 0).trans (show _ = some (Value.string x) from rfl)
        have x1 := (c 1).trans (show _ = some (Value.slice K m kc) from rfl)
        clear c
        have CAPP := Lib.hid (fun (v' : Value) (w' : World) (h : w'.ownsRow w.heap.size 50 2 v' (q + 1) (fc rs ++ [.string x, .slice K m kc])) => show w'.ownsRow w.heap.size 50 2 v' (q + 1) (fc (rs ++ [((x, ⟨K, kc, kd⟩) : RF)])) by rw [fc_append, one_eq, HM2.out]; exact h)
        go_wp2_with (at_builtin; go_loud (
           refine wpList_rows elF rfl _ _ rfl rfl rfl (HOb.out.alloc (.cells #[.string x, .slice K m kc] 50)) (src_new _ #[.string x, .slice K m kc] 50 (m := 1) (sz := 2) rfl rfl (fun u hu => by simp at hu; rcases hu with rfl | rfl <;> rfl)) (by unfold maxLen; omega) (by omega) (by have := hbb.out.size; simp at this ⊢; omega) ?_
           intro v6 w6 hown hg6 _
           have HO6 := Lib.hid (CAPP.out v6 w6 hown)
           have HB6 := Lib.hid ((hbb.out.alloc hbb.out.size (.cells #[.string x, .slice K m kc] 50)).grown hg6 (by have := hbb.out.size; simp at this ⊢; omega) (fun g e => (HOb.out.lt g e).1))
           clear hown hg6))
        go_roundw
        case measure => simp [intOf]; omega
        case rel => exact ⟨k + 1, q + 1, _, _, rfl, by omega, by omega, by go_num, HE2, HD2, HO6, HB6⟩
    · obtain rfl : k = n := by omega
      have HP := Lib.hid (dn_own HO.out HD.out (show rs.map fOf = rc k0 ps by
        have h := HE.out
        rw [List.drop_eq_nil_of_le (by rw [HC.out.len]; exact Nat.le_refl _)] at h
        rw [← h]
        exact (List.append_nil _).symm) HB.out)
      go_wp2
      go_ret
      exact HP.out
set_option maxHeartbeats 4000000 in
theorem put_any {A DA : Option Addr} {n cap dc dn : Nat} {w : World} {ps : List F} {d : List UInt8} (k0 : ByteArray) (hn : n ≤ 1000) (hs : SrtF ps) (hr : FilesT w A n ps) (hd : ByT w DA dn d) (hdc : dn ≤ dc) :
    Calls Try.prog 39 #[.slice A n cap, .string k0, .slice DA dn dc] w (DnPost (putF k0 d ps) w) := by
  rw [← rp_put hs]
  have HC := Lib.hid hr
  have HDN := Lib.hid (show DOk w (k0, ⟨DA, dc, d⟩) from by have e := hd.1; subst e; exact ⟨hd, hdc⟩)
  have HMN := Lib.hid (show cell2 (k0, ⟨DA, dc, d⟩) = [.string k0, .slice DA dn dc] by have e := hd.1; subst e; rfl)
  clear hr hs hd
  go_enter Try.func39, Try.ntmps39
  go_upto_region 4 with fail
  go_loopw [13, 7, 8] (fun s13 s7 s8 wr => ∃ (k q : Nat) (v : Value) (rs : List RF) (b : Bool), v = s7 ∧ s8 = .bool b ∧ k ≤ n ∧ q ≤ k + 1 ∧ s13 = .int .i64 k ∧ Hid (b = false → q ≤ k) ∧ Hid (rs.map fOf ++ rp k0 d (ps.drop k) b = rp k0 d ps false) ∧ Hid (∀ r ∈ rs, DOk w r) ∧ Hid (wr.ownsRow w.heap.size 50 2 v q (fc rs)) ∧ Hid (Below w.heap.size w wr)) (fun s13 _ _ _ => n - (intOf s13).toNat)
  case atStart => exact ⟨0, 0, _, [], false, rfl, rfl, Nat.zero_le _, by omega, rfl, Lib.hid (fun _ => Nat.le_refl _), Lib.hid rfl, Lib.hid (fun r hr => by simp at hr), Lib.hid (World.ownsRow_nil _ _ _ _), Lib.hid (Below.refl _ _)⟩
  case round =>
    obtain ⟨k, q, v, rs, b, rfl, rfl, hk, hq, rfl, HQK, HE, HD, HO, HB⟩ := hrel
    by_cases hlt : k < n
    · obtain ⟨ad, x, K, kd, kc, rfl, hp, hc1, hc2, hle, _⟩ := HC.out.sp (Kp.below HB.out (Nat.le_refl _)) (j := k) hlt
      obtain ⟨ad', x', K', kd', kc', e1, hp', hc1', hc2', hle', hby⟩ := HC.out.sp (Kp.below (Below.refl w.heap.size w) (Nat.le_refl _)) (j := k) hlt
      obtain rfl := Option.some.inj e1
      rw [hp] at hp'
      obtain ⟨rfl, rfl⟩ := Prod.mk.inj (Option.some.inj hp')
      have e2 := (HB.out.cell (p := { block := (ad.add (k * 2)).block, off := (ad.add (k * 2)).off + 1 }) (World.block_lt_of_cell? w _ hc2')).trans hc2'
      rw [hc2] at e2
      injection e2 with e2
      injection e2 with e3 _ e4
      subst e3 e4
      have HST := Lib.hid (fun b => rp_step (n := k0) (d := d) (b := b) hp)
      have HDK := Lib.hid (show DOk w (x, ⟨K, kc, kd⟩) from ⟨hby, hle⟩)
      have hbb := Lib.hid (HB.out.alloc HB.out.size (.cells #[.string x, .slice K kd.length kc] 50))
      have HOb := Lib.hid (HO.out.alloc (.cells #[.string x, .slice K kd.length kc] 50))
      have HX := Lib.hid (heap_alloc_new wr (.cells #[.string x, .slice K kd.length kc] 50))
      have HM2 := Lib.hid (show cell2 (x, ⟨K, kc, kd⟩) = [.string x, .slice K kd.length kc] from rfl)
      have HLT := Lib.hid (fun g (e : v.ownBlock = some g) => (HO.out.lt g e).2)
      obtain ⟨m, hm⟩ : ∃ m, m = kd.length := ⟨_, rfl⟩
      rw [← hm] at hc2 hbb hle HOb HX HM2
      clear hp hm hc1' hc2' hle' hby
      go_upto_region 6 with fail
      obtain ⟨B, hB⟩ : ∃ B, B = wr.heap.size := ⟨_, rfl⟩
      have HS5 := Lib.hid (show (wr.alloc (.cells #[.string x, .slice K m kc] 50)).heap.size = B + 1 by simp [hB])
      rw [← hB] at HX HLT ⊢
      clear hB hc1 hc2
      generalize (World.alloc wr _) = w5 at hbb HOb HX HS5 ⊢
      have c := fun o => cell_of_row _ B o _ _ _ HX.out
      have x0 := (c 0).trans (show _ = some (Value.string x) from rfl)
      have x1 := (c 1).trans (show _ = some (Value.slice K m kc) from rfl)
      clear c
      obtain ⟨gg, hgg⟩ : ∃ gg, gg = Op.bytesLess x.toList k0.toList := ⟨_, rfl⟩
      have HG := Lib.hid (show ge x k0 = !gg by rw [hgg]; rfl)
      by_cases he : x = k0
      · have hq0 : (x.toList == k0.toList) = true := by rw [beqN]; exact decide_eq_true he
        have hq1 : (x.toList != k0.toList) = false := by unfold bne; rw [hq0]; rfl
        have HEQ := Lib.hid (show decide (x = k0) = true from decide_eq_true he)
        clear he
        cases b
        · have hqk := HQK.out rfl
          cases gg
          · have hbl : Op.bytesLess x.toList k0.toList = false := hgg.symm
            clear hgg
            have CN := Lib.hid (fun (v' : Value) (w' : World) (h : w'.ownsRow w.heap.size 50 2 v' (q + 1) (fc (rs) ++ [.string k0, .slice DA dn dc])) => show w'.ownsRow w.heap.size 50 2 v' (q + 1) (fc ((rs) ++ [((k0, ⟨DA, dc, d⟩) : RF)])) by rw [fc_append _ [((k0, ⟨DA, dc, d⟩) : RF)], one_eq, HMN.out]; exact h)
            have HD2 := Lib.hid (dok_snoc HD.out HDN.out)
            have HE2 := Lib.hid (show (rs ++ [((k0, ⟨DA, dc, d⟩) : RF)]).map fOf ++ rp k0 d (ps.drop (k + 1)) true = rp k0 d ps false by
              have h := HE.out
              rw [HST.out, HEQ.out, HG.out] at h
              rw [← h, List.map_append, List.append_assoc]
              rfl)
            go_upto_region 8 with (at_builtin; go_loud (
                   refine wpList_rows elF rfl _ _ rfl rfl rfl (HOb.out.alloc (.cells #[.string k0, .slice DA dn dc] 50)) (src_new _ #[.string k0, .slice DA dn dc] 50 (m := 1) (sz := 2) rfl rfl (fun u hu => by simp at hu; rcases hu with rfl | rfl <;> rfl)) (by unfold maxLen; omega) (by omega) (by have := hbb.out.size; simp at this ⊢; omega) ?_
                   intro v6 w6 hown hg6 _
                   have HO6 := Lib.hid (CN.out v6 w6 hown)
                   have HB6 := Lib.hid ((hbb.out.alloc hbb.out.size (.cells #[.string k0, .slice DA dn dc] 50)).grown hg6 (by have := hbb.out.size; simp at this ⊢; omega) (fun g e => (HOb.out.lt g e).1))
                   have HX6 := Lib.hid ((hg6.block B (by simp; have := HS5.out; omega) (fun e => by have := HLT.out B e.symm; omega)).trans ((heap_alloc_old _ _ (by have := HS5.out; omega)).trans HX.out))
                   clear hown hg6 x0 x1))
            have c := fun o => cell_of_row _ B o _ _ _ HX6.out
            have x0 := (c 0).trans (show _ = some (Value.string x) from rfl)
            have x1 := (c 1).trans (show _ = some (Value.slice K m kc) from rfl)
            clear c
            go_wp2_with fail
            go_roundw
            case measure => simp [intOf]; omega
            case rel => exact ⟨k + 1, q + 1, _, _, true, rfl, rfl, by omega, by omega, by go_num, Lib.hid (fun h => by cases h), HE2, HD2, HO6, HB6⟩
          · have hbl : Op.bytesLess x.toList k0.toList = true := hgg.symm
            clear hgg
            exact absurd hbl (by rw [show x = k0 from of_decide_eq_true HEQ.out, bl_irrefl]; decide)
        · clear hgg
          have HE2 := Lib.hid (show rs.map fOf ++ rp k0 d (ps.drop (k + 1)) true = rp k0 d ps false by
            have h := HE.out
            rw [HST.out, HEQ.out] at h
            rw [← h]
            rfl)
          go_wp2
          go_roundw
          case measure => simp [intOf]; omega
          case rel => exact ⟨k + 1, q, _, rs, true, rfl, rfl, by omega, by omega, by go_num, Lib.hid (fun h => by cases h), HE2, HD, HOb, hbb⟩
      · have hq0 : (x.toList == k0.toList) = false := by rw [beqN]; exact decide_eq_false he
        have hq1 : (x.toList != k0.toList) = true := by unfold bne; rw [hq0]; rfl
        have HEQ := Lib.hid (show decide (x = k0) = false from decide_eq_false he)
        clear he
        cases b
        · have hqk := HQK.out rfl
          cases gg
          · have hbl : Op.bytesLess x.toList k0.toList = false := hgg.symm
            clear hgg
            have CN := Lib.hid (fun (v' : Value) (w' : World) (h : w'.ownsRow w.heap.size 50 2 v' (q + 1) (fc (rs) ++ [.string k0, .slice DA dn dc])) => show w'.ownsRow w.heap.size 50 2 v' (q + 1) (fc ((rs) ++ [((k0, ⟨DA, dc, d⟩) : RF)])) by rw [fc_append _ [((k0, ⟨DA, dc, d⟩) : RF)], one_eq, HMN.out]; exact h)
            have HD2 := Lib.hid (dok_snoc HD.out HDN.out)
            have CO := Lib.hid (fun (v' : Value) (w' : World) (h : w'.ownsRow w.heap.size 50 2 v' ((q + 1) + 1) (fc (rs ++ [((k0, ⟨DA, dc, d⟩) : RF)]) ++ [.string x, .slice K m kc])) => show w'.ownsRow w.heap.size 50 2 v' ((q + 1) + 1) (fc ((rs ++ [((k0, ⟨DA, dc, d⟩) : RF)]) ++ [((x, ⟨K, kc, kd⟩) : RF)])) by rw [fc_append _ [((x, ⟨K, kc, kd⟩) : RF)], one_eq, HM2.out]; exact h)
            have HD3 := Lib.hid (dok_snoc HD2.out HDK.out)
            have HE2 := Lib.hid (show ((rs ++ [((k0, ⟨DA, dc, d⟩) : RF)]) ++ [((x, ⟨K, kc, kd⟩) : RF)]).map fOf ++ rp k0 d (ps.drop (k + 1)) true = rp k0 d ps false by
              have h := HE.out
              rw [HST.out, HEQ.out, HG.out] at h
              rw [← h, List.map_append, List.map_append, List.append_assoc, List.append_assoc]
              rfl)
            go_upto_region 8 with (at_builtin; go_loud (
                   refine wpList_rows elF rfl _ _ rfl rfl rfl (HOb.out.alloc (.cells #[.string k0, .slice DA dn dc] 50)) (src_new _ #[.string k0, .slice DA dn dc] 50 (m := 1) (sz := 2) rfl rfl (fun u hu => by simp at hu; rcases hu with rfl | rfl <;> rfl)) (by unfold maxLen; omega) (by omega) (by have := hbb.out.size; simp at this ⊢; omega) ?_
                   intro v6 w6 hown hg6 _
                   have HO6 := Lib.hid (CN.out v6 w6 hown)
                   have HB6 := Lib.hid ((hbb.out.alloc hbb.out.size (.cells #[.string k0, .slice DA dn dc] 50)).grown hg6 (by have := hbb.out.size; simp at this ⊢; omega) (fun g e => (HOb.out.lt g e).1))
                   have HX6 := Lib.hid ((hg6.block B (by simp; have := HS5.out; omega) (fun e => by have := HLT.out B e.symm; omega)).trans ((heap_alloc_old _ _ (by have := HS5.out; omega)).trans HX.out))
                   clear hown hg6 x0 x1))
            have c := fun o => cell_of_row _ B o _ _ _ HX6.out
            have x0 := (c 0).trans (show _ = some (Value.string x) from rfl)
            have x1 := (c 1).trans (show _ = some (Value.slice K m kc) from rfl)
            clear c
            go_wp2_with (at_builtin; go_loud (
                   refine wpList_rows elF rfl _ _ rfl rfl rfl (HO6.out.alloc (.cells #[.string x, .slice K m kc] 50)) (src_new _ #[.string x, .slice K m kc] 50 (m := 1) (sz := 2) rfl rfl (fun u hu => by simp at hu; rcases hu with rfl | rfl <;> rfl)) (by unfold maxLen; omega) (by omega) (by have := HB6.out.size; simp at this ⊢; omega) ?_
                   intro v7 w7 hown hg7 _
                   have HO7 := Lib.hid (CO.out v7 w7 hown)
                   have HB7 := Lib.hid ((HB6.out.alloc HB6.out.size (.cells #[.string x, .slice K m kc] 50)).grown hg7 (by have := HB6.out.size; simp at this ⊢; omega) (fun g e => (HO6.out.lt g e).1))
                   clear hown hg7))
            go_roundw
            case measure => simp [intOf]; omega
            case rel => exact ⟨k + 1, q + 1 + 1, _, _, true, rfl, rfl, by omega, by omega, by go_num, Lib.hid (fun h => by cases h), HE2, HD3, HO7, HB7⟩
          · have hbl : Op.bytesLess x.toList k0.toList = true := hgg.symm
            clear hgg
            have CO := Lib.hid (fun (v' : Value) (w' : World) (h : w'.ownsRow w.heap.size 50 2 v' (q + 1) (fc (rs) ++ [.string x, .slice K m kc])) => show w'.ownsRow w.heap.size 50 2 v' (q + 1) (fc ((rs) ++ [((x, ⟨K, kc, kd⟩) : RF)])) by rw [fc_append _ [((x, ⟨K, kc, kd⟩) : RF)], one_eq, HM2.out]; exact h)
            have HD3 := Lib.hid (dok_snoc HD.out HDK.out)
            have HE2 := Lib.hid (show (rs ++ [((x, ⟨K, kc, kd⟩) : RF)]).map fOf ++ rp k0 d (ps.drop (k + 1)) false = rp k0 d ps false by
              have h := HE.out
              rw [HST.out, HEQ.out, HG.out] at h
              rw [← h, List.map_append, List.append_assoc]
              rfl)
            go_wp2_with (at_builtin; go_loud (
                   refine wpList_rows elF rfl _ _ rfl rfl rfl (HOb.out.alloc (.cells #[.string x, .slice K m kc] 50)) (src_new _ #[.string x, .slice K m kc] 50 (m := 1) (sz := 2) rfl rfl (fun u hu => by simp at hu; rcases hu with rfl | rfl <;> rfl)) (by unfold maxLen; omega) (by omega) (by have := hbb.out.size; simp at this ⊢; omega) ?_
                   intro v6 w6 hown hg6 _
                   have HO6 := Lib.hid (CO.out v6 w6 hown)
                   have HB6 := Lib.hid ((hbb.out.alloc hbb.out.size (.cells #[.string x, .slice K m kc] 50)).grown hg6 (by have := hbb.out.size; simp at this ⊢; omega) (fun g e => (HOb.out.lt g e).1))
                   clear hown hg6))
            go_roundw
            case measure => simp [intOf]; omega
            case rel => exact ⟨k + 1, q + 1, _, _, false, rfl, rfl, by omega, by omega, by go_num, Lib.hid (fun _ => by omega), HE2, HD3, HO6, HB6⟩
        · clear hgg
          have CO := Lib.hid (fun (v' : Value) (w' : World) (h : w'.ownsRow w.heap.size 50 2 v' (q + 1) (fc (rs) ++ [.string x, .slice K m kc])) => show w'.ownsRow w.heap.size 50 2 v' (q + 1) (fc ((rs) ++ [((x, ⟨K, kc, kd⟩) : RF)])) by rw [fc_append _ [((x, ⟨K, kc, kd⟩) : RF)], one_eq, HM2.out]; exact h)
          have HD3 := Lib.hid (dok_snoc HD.out HDK.out)
          have HE2 := Lib.hid (show (rs ++ [((x, ⟨K, kc, kd⟩) : RF)]).map fOf ++ rp k0 d (ps.drop (k + 1)) true = rp k0 d ps false by
            have h := HE.out
            rw [HST.out, HEQ.out] at h
            rw [← h, List.map_append, List.append_assoc]
            rfl)
          go_wp2_with (at_builtin; go_loud (
                 refine wpList_rows elF rfl _ _ rfl rfl rfl (HOb.out.alloc (.cells #[.string x, .slice K m kc] 50)) (src_new _ #[.string x, .slice K m kc] 50 (m := 1) (sz := 2) rfl rfl (fun u hu => by simp at hu; rcases hu with rfl | rfl <;> rfl)) (by unfold maxLen; omega) (by omega) (by have := hbb.out.size; simp at this ⊢; omega) ?_
                 intro v6 w6 hown hg6 _
                 have HO6 := Lib.hid (CO.out v6 w6 hown)
                 have HB6 := Lib.hid ((hbb.out.alloc hbb.out.size (.cells #[.string x, .slice K m kc] 50)).grown hg6 (by have := hbb.out.size; simp at this ⊢; omega) (fun g e => (HOb.out.lt g e).1))
                 clear hown hg6))
          go_roundw
          case measure => simp [intOf]; omega
          case rel => exact ⟨k + 1, q + 1, _, _, true, rfl, rfl, by omega, by omega, by go_num, Lib.hid (fun h => by cases h), HE2, HD3, HO6, HB6⟩
    · obtain rfl : k = n := by omega
      have hdr : ps.drop k = [] := List.drop_eq_nil_of_le (by rw [HC.out.len]; exact Nat.le_refl _)
      have HE1 := HE.out
      rw [hdr] at HE1
      cases b
      · have CN := Lib.hid (fun (v' : Value) (w' : World) (h : w'.ownsRow w.heap.size 50 2 v' (q + 1) (fc (rs) ++ [.string k0, .slice DA dn dc])) => show w'.ownsRow w.heap.size 50 2 v' (q + 1) (fc ((rs) ++ [((k0, ⟨DA, dc, d⟩) : RF)])) by rw [fc_append _ [((k0, ⟨DA, dc, d⟩) : RF)], one_eq, HMN.out]; exact h)
        have HD2 := Lib.hid (dok_snoc HD.out HDN.out)
        have HE2 := Lib.hid (show (rs ++ [((k0, ⟨DA, dc, d⟩) : RF)]).map fOf = rp k0 d ps false by
          rw [← HE1, List.map_append]
          rfl)
        clear HE1 hdr
        go_wp2_with (at_builtin; go_loud (
           refine wpList_rows elF rfl _ _ rfl rfl rfl (HO.out.alloc (.cells #[.string k0, .slice DA dn dc] 50)) (src_new _ #[.string k0, .slice DA dn dc] 50 (m := 1) (sz := 2) rfl rfl (fun u hu => by simp at hu; rcases hu with rfl | rfl <;> rfl)) (by unfold maxLen; omega) (by omega) (by have := HB.out.size; simp at this ⊢; omega) ?_
           intro v6 w6 hown hg6 _
           have HO6 := Lib.hid (CN.out v6 w6 hown)
           have HB6 := Lib.hid ((HB.out.alloc HB.out.size (.cells #[.string k0, .slice DA dn dc] 50)).grown hg6 (by have := HB.out.size; simp at this ⊢; omega) (fun g e => (HO.out.lt g e).1))
           clear hown hg6))
        go_ret
        exact dn_own HO6.out HD2.out HE2.out HB6.out
      · have HP := Lib.hid (dn_own HO.out HD.out (show rs.map fOf = rp k0 d ps false by rw [← HE1]; exact (List.append_nil _).symm) HB.out)
        clear HE1 hdr
        go_wp2
        go_ret
        exact HP.out
end Go.Proofs.Ytefgcckdlebfaaa.RfP
