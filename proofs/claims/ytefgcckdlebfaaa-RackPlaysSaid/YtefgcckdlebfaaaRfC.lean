/-
  The document's Crash.
-/
import Derived.Test.YtefgcckdlebfaaaRfF
import Derived.Test.YtefgcckdlebfaaaRkT
import Derived.Deep.RegionLaw
namespace Go.Proofs.Ytefgcckdlebfaaa.RfC
open Go.RowKit Go.Proofs.Ytefgcckdlebfaaa.BxD Go.Proofs.Ytefgcckdlebfaaa.BxKit Go.Proofs.Ytefgcckdlebfaaa.RkO Go.Proofs.Ytefgcckdlebfaaa.RkC Go.Proofs.Ytefgcckdlebfaaa.RkD Go.Proofs.Ytefgcckdlebfaaa.RkR Go.Proofs.Ytefgcckdlebfaaa.RkK Go.Proofs.Ytefgcckdlebfaaa.RkP Go.Proofs.Ytefgcckdlebfaaa.RkQ Go.Proofs.Ytefgcckdlebfaaa.RkE Go.Proofs.Ytefgcckdlebfaaa.RkS Go.Proofs.Ytefgcckdlebfaaa.RkV Go.Proofs.Ytefgcckdlebfaaa.RkU Go.Proofs.Ytefgcckdlebfaaa.RkT Go.Proofs.Ytefgcckdlebfaaa.RfA Go.Proofs.Ytefgcckdlebfaaa.RfP Go.Proofs.Ytefgcckdlebfaaa.RfS Go.Proofs.Ytefgcckdlebfaaa.RfW
section
variable {w : World} {base T : Nat} {s : St} {SA NA LA : Option Addr} {sn sc nn nc ln lc : Nat}
theorem bit1 (c : UInt8) : (bits .and .u8 (c.toNat : Int) 1 == 0) = !(c.toNat % 2 == 1) := by
  have h : ∀ k : Fin 256, (bits .and .u8 ((k : Nat) : Int) 1 == 0) = !((k : Nat) % 2 == 1) := by decide +kernel
  exact h ⟨c.toNat, c.toNat_lt⟩
/-- The sure files stored anew. -/
theorem sure_set {w w1 w7 : World} {cur nx : List F} {A3 : Option Addr} {q3 k3 : Nat} (hF : Fr w w1 T LA) (h : Rf w1 base T { s with sure := cur } NA nn nc SA sn sc LA ln lc) (hb : Below w1.heap.size w1 w7) (hf : FilesT w7 A3 q3 nx) (hk : q3 ≤ k3) :
    Rf (w7.setCell { block := T, off := 2 } (.slice A3 q3 k3)) base T { s with sure := nx } NA nn nc A3 q3 k3 LA ln lc ∧ Fr w (w7.setCell { block := T, off := 2 } (.slice A3 q3 k3)) T LA := by
  have h7 := h.below hb
  have hF7 : Fr w7 (w7.setCell { block := T, off := 2 } (.slice A3 q3 k3)) T LA := (Fr.of (Below.refl _ _)).set 2 _
  exact ⟨h7.turn hF7 (h7.head.stored 2 _) h7.files h7.ncap hf hk (loose_set h7.loose h7.head 2 _), fr_trans (hF.below hb) hF7⟩
set_option maxHeartbeats 4000000 in
theorem crash_any (h : Rf w base T s NA nn nc SA sn sc LA ln lc) {k : Nat} (hk : Ok k s) (h6 : k ≤ 900) {D : Option Addr} {dn dc : Nat} {ps : List UInt8} (hD : ∀ wr, Fr w wr T LA → PkKit.BytesAt wr wr.heap.size D dn ps) (hdn : dn ≤ 100000000) :
    Calls Try.prog 19 #[ptr T, .slice D dn dc] w (RfPost w base T LA (crS s ps) (.returned (.tuple #[]))) := by
  obtain ⟨c0, c1, c2, c3, c4, c5, c6, cf⟩ := h.cells rfl
  have HH := Lib.hid h
  have HD := Lib.hid hD
  have HKK := Lib.hid hk
  have hl9 : ln ≤ 900 := by have := h.loose.len; have := hk.loose; omega
  have HPL := Lib.hid (hD w (Fr.of (Below.refl _ _))).1
  clear h hD cf
  unfold ptr
  go_enter Try.func19, Try.ntmps19
  go_upto_region 1 with fail
  clear c0 c1 c2 c3 c4 c5 c6
  go_loopw [11] (fun s11 wr => ∃ (q n c : Nat) (A : Option Addr) (cur : List F), q ≤ ln ∧ s11 = .int .i64 q ∧ Hid (Rf wr base T { s with sure := cur } NA nn nc A n c LA ln lc) ∧ Hid (Fr w wr T LA) ∧ Hid (Fok (s.sure.length + q) cur) ∧ Hid (cr ps (s.loose.drop q) q cur = cr ps s.loose 0 s.sure)) (fun s11 _ => ln - (intOf s11).toNat)
  case atStart => exact ⟨0, sn, sc, SA, s.sure, Nat.zero_le _, rfl, HH, Fr.of (Below.refl _ _), HKK.out.sure, rfl⟩
  case round =>
    obtain ⟨q, n, c, A, cur, hq, rfl, HR, HF, HO, HC⟩ := hrel
    by_cases hlt : q < ln
    · obtain ⟨ad, x, b, K, kd, kc, rfl, hp, d0, d1, d2, hle, hby⟩ := HR.out.loose.sp (Below.refl _ _) hlt
      have hp2 : s.loose[q]? = some ⟨x, b, kd⟩ := hp
      have hcd := cr_done (ps := ps) (l := cur) hp2
      rw [HC.out] at hcd
      have HDN := Lib.hid hcd
      have HCH := Lib.hid (HKK.out.ch _ (List.mem_of_getElem? hp2))
      have HBY := Lib.hid hby
      obtain ⟨m, hm⟩ : ∃ m, m = kd.length := ⟨_, rfl⟩
      rw [← hm] at d2
      have HM := Lib.hid hm
      have hn9 : n ≤ 900 := by have h1 := HO.out.len; have h2 : cur.length = n := HR.out.sure.len; have := HKK.out.loose; have h3 : s.loose.length = ln := HH.out.loose.len; omega
      have HLE := Lib.hid hle
      have HX := Lib.hid (heap_alloc_new wr (.cells #[.string x, .bool b, .slice K m kc] 64))
      have HBB := Lib.hid (RkP.below_alloc wr (.cells #[.string x, .bool b, .slice K m kc] 64))
      have HRA := Lib.hid (HR.out.below HBB.out)
      have HFA := Lib.hid (HF.out.below HBB.out)
      clear hp hp2 hcd hby hm hle
      go_upto_region 3 with fail
      obtain ⟨B, hB⟩ : ∃ B, B = wr.heap.size := ⟨_, rfl⟩
      rw [← hB] at HX ⊢
      clear hB d0 d1 d2
      obtain ⟨w1, hw1⟩ : ∃ w1, w1 = wr.alloc (.cells #[.string x, .bool b, .slice K m kc] 64) := ⟨_, rfl⟩
      have HBY1 := Lib.hid (HBY.out.kp (Kp.below HBB.out (Nat.le_refl _)))
      rw [← hw1] at HX HRA HFA HBB HBY1 ⊢
      clear hw1
      have cc := fun o => cell_of_row _ B o _ _ _ HX.out
      have x0 := (cc 0).trans (show _ = some (Value.string x) from rfl)
      have x1 := (cc 1).trans (show _ = some (Value.bool b) from rfl)
      have x2 := (cc 2).trans (show _ = some (Value.slice K m kc) from rfl)
      clear cc
      have HNX := Lib.hid (fun (hpk : picked ps q = false) => show ∃ (q' n' c' : Nat) (A' : Option Addr) (cur' : List F), q' ≤ ln ∧ Value.int .i64 ((q : Int) + 1) = .int .i64 q' ∧ Hid (Rf w1 base T { s with sure := cur' } NA nn nc A' n' c' (some ad) ln lc) ∧ Hid (Fr w w1 T (some ad)) ∧ Hid (Fok (s.sure.length + q') cur') ∧ Hid (cr ps (s.loose.drop q') q' cur' = cr ps s.loose 0 s.sure) by
        refine ⟨q + 1, n, c, A, cur, by omega, by push_cast; rfl, HRA, HFA, HO.out.mono (by omega), ?_⟩
        have := HDN.out
        rw [hpk] at this
        exact this.symm)
      by_cases hqd : q < dn
      · obtain ⟨pa, pc, rfl, e1, e2⟩ := (HD.out w1 HFA.out).at_ hqd
        have hbit := bit1 pc
        have hpk : picked ps q = (pc.toNat % 2 == 1) := by unfold picked; rw [e1]
        have hqi : (q : Int) < (dn : Int) := by omega
        have hqi2 : decide ((dn : Int) ≤ (q : Int)) = false := decide_eq_false (by omega)
        have hq0 : (0 : Int) ≤ (q : Int) := by omega
        cases hb1 : (pc.toNat % 2 == 1) with
        | false =>
          rw [hb1] at hbit hpk
          have HN2 := HNX.out hpk
          rw [Bool.not_false] at hbit
          clear HNX hpk hb1 e1
          go_wp2_with fail
          go_roundw
          case rel => exact HN2
          case measure => simp [intOf]; omega
        | true =>
          rw [hb1] at hbit hpk
          rw [Bool.not_true] at hbit
          have hds := HDN.out
          rw [hpk, if_pos rfl] at hds
          have hok := HO.out.done (c := ⟨x, b, kd⟩) HCH.out
          obtain ⟨nx, hnx⟩ : ∃ nx, nx = doneC cur ⟨x, b, kd⟩ := ⟨_, rfl⟩
          rw [← hnx] at hok hds
          have HOK := Lib.hid hok
          have HDS2 := Lib.hid hds
          have HNXX := Lib.hid hnx
          obtain ⟨n2, hn2⟩ : ∃ n2, n2 = nx.length := ⟨_, rfl⟩
          have HN2 := Lib.hid hn2
          obtain ⟨c0, c1, c2, c3, c4, c5, c6, cf⟩ := HRA.out.cells rfl
          have f2 := cf 2
          have HCL := Lib.hid (fun (w7 : World) (hb : Below w1.heap.size w1 w7) => (HRA.out.below hb).cells rfl)
          clear HNX hpk hb1 e1 hok hds hnx hn2 cf
          cases b
          · have KX := Lib.hid (fun (wq : World) (hb : Below w1.heap.size w1 wq) => show Calls Try.prog 39 #[.slice A n c, .string x, .slice K m kc] wq (fun e w' => ∃ A3 k3, e = .returned (.slice A3 n2 k3) ∧ n2 ≤ k3 ∧ FilesT w' A3 n2 nx ∧ Below w1.heap.size w1 w') from
              (put_any (w := wq) (cap := c) (ps := cur) x (by omega) HO.out.srt (HRA.out.sure.kp (Kp.below hb (Nat.le_refl _))) (by have e := HM.out; subst e; exact HBY1.out.kp (Kp.below hb (Nat.le_refl _))) (by have e := HM.out; subst e; exact HLE.out)).mono fun e w' (hh : DnPost (putF x kd cur) wq e w') => by
                rw [show putF x kd cur = nx from HNXX.out.symm] at hh
                obtain ⟨A3, k3, he, hk3, hf3, hw3⟩ := hh
                rw [← HN2.out] at he hk3 hf3
                exact ⟨A3, k3, he, hk3, hf3, hb.trans (hw3.mono hb.size)⟩)
            go_upto_region 6 with fail
            go_region_law (first
              | (go_simp; go_at_call 39; go_loud (
                 refine (KX.out _ (by (repeat (with_reducible first | exact Below.refl _ _ | refine Below.drew ?_)); done)).mono ?_
                 rintro e w7 ⟨A3, k3, rfl, hk3, hf3, hw3⟩
                 have HS7 := Lib.hid (sure_set HFA.out HRA.out hw3 hf3 hk3)
                 obtain ⟨z0, z1, z2, z3, z4, z5, z6, zf⟩ := HCL.out w7 hw3
                 have zf2 := zf 2
                 clear zf hf3 hw3
                 dsimp only)))
            all_goals
              go_wp2_with fail
              go_roundw
              case rel => exact ⟨q + 1, n2, k3, A3, nx, by omega, by go_num, HS7.out.1, HS7.out.2, by rw [show s.sure.length + (q + 1) = s.sure.length + q + 1 by omega]; exact HOK, HDS2.out.symm⟩
              case measure => simp [intOf]; omega
          · have KX := Lib.hid (fun (wq : World) (hb : Below w1.heap.size w1 wq) => show Calls Try.prog 44 #[.slice A n c, .string x] wq (fun e w' => ∃ A3 k3, e = .returned (.slice A3 n2 k3) ∧ n2 ≤ k3 ∧ FilesT w' A3 n2 nx ∧ Below w1.heap.size w1 w') from
              (cut_any (w := wq) (cap := c) (ps := cur) x (by omega) HO.out.srt (HRA.out.sure.kp (Kp.below hb (Nat.le_refl _)))).mono fun e w' (hh : DnPost (cutF x cur) wq e w') => by
                rw [show cutF x cur = nx from HNXX.out.symm] at hh
                obtain ⟨A3, k3, he, hk3, hf3, hw3⟩ := hh
                rw [← HN2.out] at he hk3 hf3
                exact ⟨A3, k3, he, hk3, hf3, hb.trans (hw3.mono hb.size)⟩)
            go_upto_region 5 with fail
            go_region_law (first
              | (go_simp; go_at_call 44; go_loud (
                 refine (KX.out _ (by (repeat (with_reducible first | exact Below.refl _ _ | refine Below.drew ?_)); done)).mono ?_
                 rintro e w7 ⟨A3, k3, rfl, hk3, hf3, hw3⟩
                 have HS7 := Lib.hid (sure_set HFA.out HRA.out hw3 hf3 hk3)
                 obtain ⟨z0, z1, z2, z3, z4, z5, z6, zf⟩ := HCL.out w7 hw3
                 have zf2 := zf 2
                 clear zf hf3 hw3
                 dsimp only)))
            all_goals
              go_wp2_with fail
              go_roundw
              case rel => exact ⟨q + 1, n2, k3, A3, nx, by omega, by go_num, HS7.out.1, HS7.out.2, by rw [show s.sure.length + (q + 1) = s.sure.length + q + 1 by omega]; exact HOK, HDS2.out.symm⟩
              case measure => simp [intOf]; omega
      · have hpk : picked ps q = false := by unfold picked; rw [List.getElem?_eq_none (by rw [HPL.out]; omega)]
        have HN2 := HNX.out hpk
        have hqi2 : decide ((dn : Int) ≤ (q : Int)) = true := decide_eq_true (by omega)
        clear HNX hpk
        go_wp2_with fail
        go_roundw
        case rel => exact HN2
        case measure => simp [intOf]; omega
    · obtain rfl : q = ln := by omega
      have hcur : cur = cr ps s.loose 0 s.sure := by
        have h1 := HC.out
        have h2 : s.loose.length = q := HH.out.loose.len
        rw [List.drop_of_length_le (by omega)] at h1
        exact h1
      have HCU := Lib.hid hcur
      have hn9 : n ≤ 900 := by have h1 := HO.out.len; have h2 : cur.length = n := HR.out.sure.len; have := HKK.out.loose; have h3 : s.loose.length = q := HH.out.loose.len; omega
      obtain ⟨rs, he, hRR⟩ := HR.out.sure
      have HS := Lib.hid hRR.src
      have HP := Lib.hid (fun (w1 : World) (A1 : Option Addr) (k1 : Nat) (hk : n ≤ k1) (hb : Below wr.heap.size wr w1) (ho : w1.ownsRow wr.heap.size 50 2 (.slice A1 n k1) n (fc rs)) => show RfPost w base T LA (crS s ps) (.returned (.tuple #[])) (.returned (.tuple #[])) ((((w1.setCell { block := T, off := 1 } (.slice A1 n k1)).setCell { block := T, off := 3 } (.slice none 0 0)).setCell { block := T, off := 4 } (.int .i64 0)).setCell { block := T, off := 5 } (.bool false)) by
        have hr1 := HR.out.below hb
        have hf : FilesT w1 A1 n cur := ⟨rs, he, filesR_own ho fun r hr => ⟨(hRR.2.1 r hr).1.kp (Kp.below hb (Nat.le_refl _)), (hRR.2.1 r hr).2⟩⟩
        have hFx : Fr w1 ((((w1.setCell { block := T, off := 1 } (.slice A1 n k1)).setCell { block := T, off := 3 } (.slice none 0 0)).setCell { block := T, off := 4 } (.int .i64 0)).setCell { block := T, off := 5 } (.bool false)) T LA := ((((Fr.of (Below.refl _ _)).set 1 _).set 3 _).set 4 _).set 5 _
        have e7 : crS s ps = { s with sure := cur, files := cur, loose := [], down := false, fuse := none } := by unfold crS; rw [← HCU.out]
        rw [e7]
        refine RfPost.lift (HF.out.below hb) ⟨rfl, none, ⟨A1, n, k1, A, n, c, 0, 0, hr1.turn (s' := { s with sure := cur, files := cur, loose := [], down := false, fuse := none }) hFx ?_ hf hk hr1.sure hr1.scap (LooseAt.nil _ _)⟩, hFx, fun ad e => by cases e⟩
        exact (((hr1.head.stored 1 _).stored 3 _).stored 4 _).stored 5 _)
      have HCL := Lib.hid (fun (w7 : World) (hb : Below wr.heap.size wr w7) => (HR.out.below hb).cells rfl)
      obtain ⟨c0, c1, c2, c3, c4, c5, c6, cf⟩ := HR.out.cells rfl
      clear cf hcur hRR he
      go_wp2_with (at_builtin; go_loud (
         refine wpList_rows elF rfl _ _ rfl rfl rfl (World.ownsRow_nil _ wr.heap.size 50 2) HS.out (by unfold maxLen; omega) (by omega) (Nat.le_refl _) ?_
         intro v6 w6 hown hg6 _
         rw [Nat.zero_add, List.nil_append] at hown
         obtain ⟨A1, k1, rfl, hk1⟩ := RkR.own_slice hown
         have HB6 := RkP.below_none hg6
         have HP6 := Lib.hid (HP.out w6 A1 k1 hk1 HB6 hown)
         obtain ⟨d0, d1, d2, d3, d4, d5, d6, df⟩ := HCL.out w6 HB6
         have f1 := df 1
         have f3 := df 3
         have f4 := df 4
         have f5 := df 5
         clear df hown hg6 HB6 c0 c1 c2 c3 c4 c5 c6))
      go_end0
      exact HP6.out
end
end Go.Proofs.Ytefgcckdlebfaaa.RfC
