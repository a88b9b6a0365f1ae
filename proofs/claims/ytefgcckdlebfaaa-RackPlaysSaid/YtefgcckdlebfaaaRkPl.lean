/-
  RackPlays: call by call a rack says what the document says.
-/
import Derived.Test.YtefgcckdlebfaaaRfI
import Derived.Test.YtefgcckdlebfaaaRkAw
import Derived.Deep.RegionHeld3
namespace Go.Proofs.Ytefgcckdlebfaaa.RkPl
open Go.RowKit Go.Proofs.Ytefgcckdlebfaaa.BxD Go.Proofs.Ytefgcckdlebfaaa.BxKit Go.Proofs.Ytefgcckdlebfaaa.RkO Go.Proofs.Ytefgcckdlebfaaa.RkC Go.Proofs.Ytefgcckdlebfaaa.RkD Go.Proofs.Ytefgcckdlebfaaa.RkR Go.Proofs.Ytefgcckdlebfaaa.RkK Go.Proofs.Ytefgcckdlebfaaa.RkP Go.Proofs.Ytefgcckdlebfaaa.RkQ Go.Proofs.Ytefgcckdlebfaaa.RkE Go.Proofs.Ytefgcckdlebfaaa.RkS Go.Proofs.Ytefgcckdlebfaaa.RkN Go.Proofs.Ytefgcckdlebfaaa.RkV Go.Proofs.Ytefgcckdlebfaaa.RkW Go.Proofs.Ytefgcckdlebfaaa.RkU Go.Proofs.Ytefgcckdlebfaaa.RkT Go.Proofs.Ytefgcckdlebfaaa.RkG Go.Proofs.Ytefgcckdlebfaaa.RkL Go.Proofs.Ytefgcckdlebfaaa.RkH Go.Proofs.Ytefgcckdlebfaaa.RkAw Go.Proofs.Ytefgcckdlebfaaa.RfA Go.Proofs.Ytefgcckdlebfaaa.RfP Go.Proofs.Ytefgcckdlebfaaa.RfS Go.Proofs.Ytefgcckdlebfaaa.RfT Go.Proofs.Ytefgcckdlebfaaa.RfL Go.Proofs.Ytefgcckdlebfaaa.RfI

/-! ## The block of a call stays -/
def Kc (w w' : World) : Prop := ∀ (k : Nat) cs fr, w.heap[k]? = some (Obj.cells cs 31 fr) → w'.heap[k]? = w.heap[k]?
theorem kc_of {w w' : World} {base T : Nat} {s : St} {SA FA LA : Option Addr} {sn sc fn fcp ln lc : Nat} (h : Rk w base T s SA sn sc FA fn fcp LA ln lc) (hf : Fr w w' T LA) : Kc w w' := by
  intro k cs fr h1
  refine hf.block k (Array.getElem?_eq_some_iff.1 h1).1 ?_ ?_
  · rintro rfl
    have h3 := h.head
    unfold Row at h3
    rw [h3] at h1
    injection h1 with h1
    injection h1 with _ e2
    exact absurd e2 (by decide)
  · rintro ad e rfl
    obtain ⟨_, _, cs', h3⟩ := h.loose.blk e
    rw [h3] at h1
    injection h1 with h1
    injection h1 with _ e2
    exact absurd e2 (by decide)
theorem kc_ref {w w' : World} {base T : Nat} {s : St} {SA FA LA : Option Addr} {sn sc fn fcp ln lc : Nat} (h : Rf w base T s SA sn sc FA fn fcp LA ln lc) (hf : Fr w w' T LA) : Kc w w' := by
  intro k cs fr h1
  refine hf.block k (Array.getElem?_eq_some_iff.1 h1).1 ?_ ?_
  · rintro rfl
    have h3 := h.head
    unfold Row at h3
    rw [h3] at h1
    injection h1 with h1
    injection h1 with _ e2
    exact absurd e2 (by decide)
  · rintro ad e rfl
    obtain ⟨_, _, cs', h3⟩ := h.loose.blk e
    rw [h3] at h1
    injection h1 with h1
    injection h1 with _ e2
    exact absurd e2 (by decide)
section
variable {w0 w : World} {T T2 k : Nat} {s t : St}
theorem WriteD (h : Two w0 w T T2 k s t) (h6 : k ≤ 900) {D : Option Addr} {dn dc B : Nat} (n : ByteArray) {d : List UInt8} (hD : PkKit.BytesAt w B D dn d) (hB : B ≤ w.heap.size) {m : Nat} (hm : k = m + 1) (okm : Ok m t) (okr : Ok k (wrR t n d)) :
    Calls Try.prog 13 #[RfS.ptr T2, .string n, .slice D dn dc] w fun e w' => e = .returned (.int .i64 (wrE t n d)) ∧ Two w0 w' T T2 k s (wrR t n d) ∧ Kc w w' := by
  obtain ⟨h1, h2, h3, h4, h5, SA, sn, sc, FA, fn, fcp, LA, ln, lc, NA, nn, nc, SA2, sn2, sc2, LA2, ln2, lc2, h6', h7, h8⟩ := h
  refine (RfW.Write_any h7 okm (by omega) hD hB h1.size h5).mono fun e w' p => ?_
  have q := Two.ref h1 h6' h7 h8 h2 okr h4 (h5.wr n d) p
  obtain ⟨_, LA', _, hf, _⟩ := p
  exact ⟨q.1, q.2, kc_ref h7 hf⟩
theorem CutD (h : Two w0 w T T2 k s t) (h6 : k ≤ 900) (n : ByteArray) {m : Nat} (hm : k = m + 1) (okm : Ok m t) (okr : Ok k (ctR t n)) :
    Calls Try.prog 15 #[RfS.ptr T2, .string n] w fun e w' => e = .returned (.int .i64 (ctE t n)) ∧ Two w0 w' T T2 k s (ctR t n) ∧ Kc w w' := by
  obtain ⟨h1, h2, h3, h4, h5, SA, sn, sc, FA, fn, fcp, LA, ln, lc, NA, nn, nc, SA2, sn2, sc2, LA2, ln2, lc2, h6', h7, h8⟩ := h
  refine (RfW.Cut_any h7 okm (by omega) h1.size h5).mono fun e w' p => ?_
  have q := Two.ref h1 h6' h7 h8 h2 okr h4 (h5.ct n) p
  obtain ⟨_, LA', _, hf, _⟩ := p
  exact ⟨q.1, q.2, kc_ref h7 hf⟩
theorem WriteC (h : Two w0 w T T2 k s t) (h6 : k ≤ 900) {D : Option Addr} {dn dc B : Nat} (n : ByteArray) {d : List UInt8} (hD : PkKit.BytesAt w B D dn d) (hB : B ≤ w.heap.size) :
    Calls Try.prog 12 #[RfS.ptr T, .string n, .slice D dn dc] w fun e w' => e = .returned (.int .i64 (wrE s n d)) ∧ Two w0 w' T T2 (k + 1) (wrS s n d) t ∧ Kc w w' := by
  obtain ⟨h1, h2, h3, h4, h5, SA, sn, sc, FA, fn, fcp, LA, ln, lc, NA, nn, nc, SA2, sn2, sc2, LA2, ln2, lc2, h6', h7, h8⟩ := h
  refine (Write_any h6' h2 h6 hD hB h1.size h4).mono fun e w' p => ?_
  have q := Two.prog h1 h6' h7 h8 (h2.wr n d) (h3.mono (Nat.le_succ k)) (h4.wr n d) h5 p
  obtain ⟨_, LA', _, hf, _⟩ := p
  exact ⟨q.1, q.2, kc_of h6' hf⟩
theorem CutC (h : Two w0 w T T2 k s t) (h6 : k ≤ 900) (n : ByteArray) :
    Calls Try.prog 14 #[RfS.ptr T, .string n] w fun e w' => e = .returned (.int .i64 (ctE s n)) ∧ Two w0 w' T T2 (k + 1) (ctS s n) t ∧ Kc w w' := by
  obtain ⟨h1, h2, h3, h4, h5, SA, sn, sc, FA, fn, fcp, LA, ln, lc, NA, nn, nc, SA2, sn2, sc2, LA2, ln2, lc2, h6', h7, h8⟩ := h
  refine (Cut_any h6' h2 h6 h1.size h4).mono fun e w' p => ?_
  have q := Two.prog h1 h6' h7 h8 (h2.ct n) (h3.mono (Nat.le_succ k)) (h4.ct n) h5 p
  obtain ⟨_, LA', _, hf, _⟩ := p
  exact ⟨q.1, q.2, kc_of h6' hf⟩
theorem CrashC (h : Two w0 w T T2 k s t) (h6 : k ≤ 900) {D : Option Addr} {dn dc B : Nat} {ps : List UInt8} (hD : PkKit.BytesAt w B D dn ps) (hB : B ≤ w.heap.size) (hdn : dn ≤ 100000000) :
    Calls Try.prog 18 #[RfS.ptr T, .slice D dn dc] w fun e w' => e = .returned (.tuple #[]) ∧ Two w0 w' T T2 k (crS s ps) t ∧ Kc w w' := by
  obtain ⟨h1, h2, h3, h4, h5, SA, sn, sc, FA, fn, fcp, LA, ln, lc, NA, nn, nc, SA2, sn2, sc2, LA2, ln2, lc2, h6', h7, h8⟩ := h
  refine (crash_any h6' h2 h6 hD hB hdn).mono fun e w' p => ?_
  have q := Two.prog h1 h6' h7 h8 (h2.cr ps) h3 (FuOk.cr s ps) h5 p
  obtain ⟨_, LA', _, hf, _⟩ := p
  exact ⟨q.1, q.2, kc_of h6' hf⟩
theorem FuseC (h : Two w0 w T T2 k s t) (n : Int) (hn : n ≤ 9223372036854775807) :
    Calls Try.prog 20 #[RfS.ptr T, .int .i64 n] w fun e w' => e = .returned (.tuple #[]) ∧ Two w0 w' T T2 k (fuS s (fuO n)) t ∧ Kc w w' := by
  obtain ⟨h1, h2, h3, h4, h5, SA, sn, sc, FA, fn, fcp, LA, ln, lc, NA, nn, nc, SA2, sn2, sc2, LA2, ln2, lc2, h6', h7, h8⟩ := h
  refine (fuse_any h6' n).mono fun e w' p => ?_
  have q := Two.prog h1 h6' h7 h8 (h2.fu _) h3 (FuOk.fu s n hn) h5 p
  obtain ⟨_, LA', _, hf, _⟩ := p
  exact ⟨q.1, q.2, kc_of h6' hf⟩
end
theorem Two.mono {w0 w : World} {T T2 k m : Nat} {s t : St} (h : Two w0 w T T2 k s t) (hk : k ≤ m) : Two w0 w T T2 m s t := ⟨h.bel, h.ok.mono hk, h.okR.mono hk, h.fu, h.fuR, h.rk⟩
theorem two_new {w0 w1 w2 w3 : World} {T T2 : Nat} {room : Int} (h0 : Below w0.heap.size w0 w1) (hr : Rk w2 w0.heap.size T (newS room) none 0 0 none 0 0 none 0 0) (h1 : Below w1.heap.size w1 w2) (hf : Rf w3 w0.heap.size T2 (newS room) none 0 0 none 0 0 none 0 0) (h2 : Below w2.heap.size w2 w3) : Two w0 w3 T T2 0 (newS room) (newS room) :=
  ⟨h0.trans ((h1.mono h0.size).trans (h2.mono (Nat.le_trans h0.size h1.size))), Ok.new room, Ok.new room, FuOk.new room, FuR.new room, _, _, _, _, _, _, _, _, _, _, _, _, _, _, _, _, _, _, hr.below h2, hf, fun a b e => by cases e⟩
theorem bytes_move {w wr w3 : World} {B n : Nat} {D : Option Addr} {l : List UInt8} (h : PkKit.BytesAt wr B D n l) (b1 : Below B w wr) (b2 : Below B w w3) : PkKit.BytesAt w3 B D n l := h.keep fun _ hp => (b2.cell hp).trans (b1.cell hp).symm
theorem len_wgt {l : List Cl} {j : Nat} {c : Cl} (h : l[j]? = some c) (ht : tot l ≤ 300000) : c.data.length ≤ 300000 ∧ c.picks.length ≤ 300000 := by
  have := wgt_le (List.mem_of_getElem? h)
  unfold wgt at this
  omega
set_option maxHeartbeats 16000000 in
set_option maxRecDepth 100000 in
theorem walk {w : World} {x : Int} {A1 : Option Addr} {n1 c1 : Nat} {l : List Cl} (h1 : CallsAt w w.heap.size A1 n1 l) :
    Calls Try.prog 3 #[.int .i64 x, .slice A1 n1 c1] w fun e w' => e = .returned (.bool true) ∧ Below w.heap.size w w' := by
  have H1 := Lib.hid h1
  have L1 := Lib.hid h1.len
  have KH1 := Lib.hid (heavy_any (c := c1) h1)
  unfold HvPost at KH1
  clear h1
  go_enter Try.func3, Try.ntmps3
  go_upto_region 1 with fail
  go_cut [16] (fun s16 wx => ∃ h : Int, s16 = .bool (decide (0 < h)) ∧ Hid (¬ 0 < h → n1 ≤ 100 ∧ tot l ≤ 300000) ∧ Hid (Below w.heap.size w wx))
  case first =>
    go_wp2_with (go_at_call 8; go_loud (refine KH1.out.mono ?_; rintro e w2 ⟨q1, rfl, q2, q3, q4, hb⟩; have HBa := Lib.hid hb; have HQ := Lib.hid q4; clear hb q4))
    go_meet
    exact ⟨q1, rfl, fun hn => ⟨by have := (HQ.out (by omega)).1; rw [L1.out] at this; exact this, (HQ.out (by omega)).2⟩, HBa⟩
  case rest =>
    obtain ⟨h, rfl, HN, HB0⟩ := hcut
    clear KH1
    by_cases hh : 0 < h
    · have KA := Lib.hid (awake wc)
      go_wp2_with (go_at_call 9; go_loud (refine KA.out.mono ?_; rintro e w3 ⟨rfl, hb⟩))
      go_ret
      exact ⟨rfl, HB0.out.trans (hb.mono HB0.out.size)⟩
    obtain ⟨hn1, htt⟩ := HN.out hh
    clear HN
    have HTT := Lib.hid htt
    obtain ⟨T, hT⟩ : ∃ T, T = wc.heap.size := ⟨_, rfl⟩
    have KN := Lib.hid (RkM.new_any wc w.heap.size x HB0.out.size)
    unfold RkM.NwPost at KN
    rw [← hT] at KN
    unfold RkM.ptr at KN
    have HTE := Lib.hid hT
    clear hT htt
    go_upto_region 4 with (first
      | (go_at_call 10; go_loud (refine KN.out.mono ?_; rintro e w1 ⟨rfl, g1, g2⟩; have R1 := Lib.hid g1; have B1 := Lib.hid g2; clear g1 g2; have KN2 := Lib.hid (RfF.new_any w1 w.heap.size x (Nat.le_trans HB0.out.size B1.out.size)); unfold RfF.NwR RfS.ptr at KN2))
      | (go_at_call 11; go_loud (refine KN2.out.mono ?_; rintro e w2 ⟨T2, rfl, _, g1, g2⟩; have R2 := Lib.hid (two_new HB0.out R1.out (show Below wc.heap.size wc w1 by have h9 := B1.out; rw [HTE.out] at h9; exact h9) g1 g2); clear g1 g2)))
    clear KN KN2 R1 B1
    go_upto_region 7 with fail
    go_loopw [26] (fun s26 wr => ∃ (i : Nat) (s t : St), i ≤ n1 ∧ s26 = .int .i64 i ∧ Hid (Two w wr T T2 i s t) ∧ Hid (Rel i s t)) (fun s26 _ => n1 - (intOf s26).toNat)
    case atStart => exact ⟨0, _, _, Nat.zero_le _, rfl, R2, Rel.new x⟩
    case round =>
      clear R2
      obtain ⟨i, s, t, hi, rfl, HR, HE⟩ := hrel
      by_cases hlt : i < n1
      · obtain ⟨ad, dd, nn, nm, D, dl, dc, ds, P0, pl, pc, ps, rfl, hx, c0, c1', c2', c3, c4, hD, hPk, hnn, hnm, hdl, hpl, _⟩ := CallsAt.sp H1.out HR.out.bel hlt
        have HX := Lib.hid (heap_alloc_new wr (.cells #[.int .i64 dd, .int .i64 nn, .string nm, .slice D dl dc, .slice P0 pl pc] 31))
        have hba := Lib.hid (below_alloc wr (.cells #[.int .i64 dd, .int .i64 nn, .string nm, .slice D dl dc, .slice P0 pl pc] 31))
        have HRa := Lib.hid (Two.below HR.out hba.out)
        have HD1 := Lib.hid (fun (w3 : World) (b2 : Below w.heap.size w w3) => bytes_move hD HR.out.bel b2)
        have HP1 := Lib.hid (fun (w3 : World) (b2 : Below w.heap.size w w3) => bytes_move hPk HR.out.bel b2)
        have hpl2 : pl ≤ 300000 := by
          have h9 := (len_wgt hx HTT.out).2
          have h8 := hPk.1
          dsimp only at h9
          omega
        have HOK := Lib.hid HR.out.okR
        clear hx hD hPk
        go_upto_region 10 with fail
        obtain ⟨B, hB⟩ : ∃ B, B = wr.heap.size := ⟨_, rfl⟩
        have HBL := Lib.hid (show B < (wr.alloc (.cells #[.int .i64 dd, .int .i64 nn, .string nm, .slice D dl dc, .slice P0 pl pc] 31)).heap.size by simp [hB])
        rw [← hB] at HX ⊢
        clear hB c0 c1' c2' c3 c4
        generalize (World.alloc wr _) = w1 at HX hba HRa HBL ⊢
        clear hba
        have HCB := Lib.hid (fun (wq : World) (e : wq.heap[B]? = w1.heap[B]?) => show (wq.cell? { block := B, off := 0 } = some (.int .i64 dd) ∧ wq.cell? { block := B, off := 1 } = some (.int .i64 nn) ∧ wq.cell? { block := B, off := 2 } = some (.string nm) ∧ wq.cell? { block := B, off := 3 } = some (.slice D dl dc) ∧ wq.cell? { block := B, off := 4 } = some (.slice P0 pl pc)) from by
          have cc := fun o => cell_of_row wq B o _ _ _ (e.trans HX.out)
          exact ⟨(cc 0).trans rfl, (cc 1).trans rfl, (cc 2).trans rfl, (cc 3).trans rfl, (cc 4).trans rfl⟩)
        obtain ⟨b0, b1, b2, b3, b4⟩ := HCB.out w1 rfl
        by_cases q0 : dd = 0
        · have hd0 : (dd == 0) = true := by rw [beq_iff_eq]; omega
          clear q0
          have HE1 := Lib.hid (HE.out.wr (by omega) nm ds)
          obtain ⟨E, hEE⟩ : ∃ E, E = wrE s nm ds := ⟨_, rfl⟩
          have hE2 : wrE t nm ds = E := by rw [hEE]; exact HE.out.wrE (by omega) nm ds
          have hee : (E == E) = true := beq_self_eq_true E
          have K1 := Lib.hid (fun (wq : World) (hb : Below w1.heap.size w1 wq) => show Calls Try.prog 12 #[.pointer (some ⟨T, 0, none⟩), .string nm, .slice D dl dc] wq (fun e w' => e = .returned (.int .i64 E) ∧ Two w w' T T2 (i + 1) (wrS s nm ds) t ∧ Kc wq w') from by rw [hEE]; exact (WriteC (HRa.out.below hb) (by omega) nm (HD1.out wq ((HRa.out.below hb).bel)) ((HRa.out.below hb).bel.size)))
          have K2 := Lib.hid (fun (wp wq : World) (h : Two w wp T T2 (i + 1) (wrS s nm ds) t) (hb : Below wp.heap.size wp wq) => show Calls Try.prog 13 #[.pointer (some ⟨T2, 0, none⟩), .string nm, .slice D dl dc] wq (fun e w' => e = .returned (.int .i64 E) ∧ Two w w' T T2 (i + 1) (wrS s nm ds) (wrR t nm ds) ∧ Kc wq w') from by rw [← hE2]; exact (WriteD (h.below hb) (by omega) nm (HD1.out wq ((h.below hb).bel)) ((h.below hb).bel.size) rfl HOK.out (HE1.out.ok h.ok)))
          have F0 := (show w1.cell? { block := B, off := 2 } = some (.string nm) ∧ w1.cell? { block := B, off := 3 } = some (.slice D dl dc) from ⟨b2, b3⟩)
          clear hEE hE2
          go_upto_region 15 with fail
          go_region_held3 (fun wx => wx.cell? { block := B, off := 2 } = some (.string nm) ∧ wx.cell? { block := B, off := 3 } = some (.slice D dl dc)) (with_reducible first | exact F0 | exact F1 | exact F2 | go_keep) (first
            | (go_simp; go_at_call 12; go_loud (
               refine (K1.out _ (by (repeat (with_reducible first | exact Below.refl _ _ | refine Below.drew ?_)); done)).mono ?_
               rintro e w3 ⟨rfl, g1, g2⟩
               have R3 := Lib.hid g1
               have HW3 := Lib.hid (show w3.heap[B]? = w1.heap[B]? from g2 B _ _ HX.out)
               have hc := HCB.out w3 HW3.out
               have F1 := (show w3.cell? { block := B, off := 2 } = some (.string nm) ∧ w3.cell? { block := B, off := 3 } = some (.slice D dl dc) from ⟨hc.2.2.1, hc.2.2.2.1⟩)
               clear g1 g2 hc
               dsimp only))
            | (go_simp; go_at_call 13; go_loud (
               refine (K2.out w3 _ R3.out (by (repeat (with_reducible first | exact Below.refl _ _ | refine Below.drew ?_)); done)).mono ?_
               rintro e w4 ⟨rfl, g1, g2⟩
               have R4 := Lib.hid g1
               have hc := HCB.out w4 ((g2 B _ _ ((HW3.out).trans HX.out)).trans HW3.out)
               have F2 := (show w4.cell? { block := B, off := 2 } = some (.string nm) ∧ w4.cell? { block := B, off := 3 } = some (.slice D dl dc) from ⟨hc.2.2.1, hc.2.2.2.1⟩)
               clear g1 g2 hc
               dsimp only)))
          rename_i hHeld
          clear hHeld
          have KLk := Lib.hid (like_any R4.out HE1.out (by omega))
          unfold RfS.ptr at KLk
          go_wp2_with (go_at_call 24; go_loud (refine KLk.out.mono ?_; rintro e w9 ⟨rfl, hb9⟩; have HR9 := Lib.hid (Two.below R4.out hb9); clear hb9))
          go_roundw
          case rel => exact ⟨i + 1, _, _, hlt, by go_num, HR9, HE1⟩
          case measure => simp [intOf]; omega
        by_cases q1 : dd = 1
        · have hd0 : (dd == 0) = false := by rw [beq_eq_false_iff_ne]; omega
          have hd1 : (dd == 1) = true := by rw [beq_iff_eq]; omega
          clear q0 q1
          have HE1 := Lib.hid (HE.out.ct (by omega) nm)
          obtain ⟨E, hEE⟩ : ∃ E, E = ctE s nm := ⟨_, rfl⟩
          have hE2 : ctE t nm = E := by rw [hEE]; exact HE.out.ctE (by omega) nm
          have hee : (E == E) = true := beq_self_eq_true E
          have K1 := Lib.hid (fun (wq : World) (hb : Below w1.heap.size w1 wq) => show Calls Try.prog 14 #[.pointer (some ⟨T, 0, none⟩), .string nm] wq (fun e w' => e = .returned (.int .i64 E) ∧ Two w w' T T2 (i + 1) (ctS s nm) t ∧ Kc wq w') from by rw [hEE]; exact (CutC (HRa.out.below hb) (by omega) nm))
          have K2 := Lib.hid (fun (wp wq : World) (h : Two w wp T T2 (i + 1) (ctS s nm) t) (hb : Below wp.heap.size wp wq) => show Calls Try.prog 15 #[.pointer (some ⟨T2, 0, none⟩), .string nm] wq (fun e w' => e = .returned (.int .i64 E) ∧ Two w w' T T2 (i + 1) (ctS s nm) (ctR t nm) ∧ Kc wq w') from by rw [← hE2]; exact (CutD (h.below hb) (by omega) nm rfl HOK.out (HE1.out.ok h.ok)))
          have F0 := (show w1.cell? { block := B, off := 2 } = some (.string nm) from b2)
          clear hEE hE2
          go_upto_region 17 with fail
          go_region_held3 (fun wx => wx.cell? { block := B, off := 2 } = some (.string nm)) (with_reducible first | exact F0 | exact F1 | exact F2 | go_keep) (first
            | (go_simp; go_at_call 14; go_loud (
               refine (K1.out _ (by (repeat (with_reducible first | exact Below.refl _ _ | refine Below.drew ?_)); done)).mono ?_
               rintro e w3 ⟨rfl, g1, g2⟩
               have R3 := Lib.hid g1
               have HW3 := Lib.hid (show w3.heap[B]? = w1.heap[B]? from g2 B _ _ HX.out)
               have hc := HCB.out w3 HW3.out
               have F1 := (show w3.cell? { block := B, off := 2 } = some (.string nm) from hc.2.2.1)
               clear g1 g2 hc
               dsimp only))
            | (go_simp; go_at_call 15; go_loud (
               refine (K2.out w3 _ R3.out (by (repeat (with_reducible first | exact Below.refl _ _ | refine Below.drew ?_)); done)).mono ?_
               rintro e w4 ⟨rfl, g1, g2⟩
               have R4 := Lib.hid g1
               have hc := HCB.out w4 ((g2 B _ _ ((HW3.out).trans HX.out)).trans HW3.out)
               have F2 := (show w4.cell? { block := B, off := 2 } = some (.string nm) from hc.2.2.1)
               clear g1 g2 hc
               dsimp only)))
          rename_i hHeld
          clear hHeld
          have KLk := Lib.hid (like_any R4.out HE1.out (by omega))
          unfold RfS.ptr at KLk
          go_wp2_with (go_at_call 24; go_loud (refine KLk.out.mono ?_; rintro e w9 ⟨rfl, hb9⟩; have HR9 := Lib.hid (Two.below R4.out hb9); clear hb9))
          go_roundw
          case rel => exact ⟨i + 1, _, _, hlt, by go_num, HR9, HE1⟩
          case measure => simp [intOf]; omega
        by_cases q2 : dd = 2
        · have hd0 : (dd == 0) = false := by rw [beq_eq_false_iff_ne]; omega
          have hd1 : (dd == 1) = false := by rw [beq_eq_false_iff_ne]; omega
          have hd2 : (dd == 2) = true := by rw [beq_iff_eq]; omega
          clear q0 q1 q2
          have HE1 := Lib.hid (Rel.mono HE.out.fl (Nat.le_succ i))
          obtain ⟨E, hEE⟩ : ∃ E, E = flE s := ⟨_, rfl⟩
          have hE2 : flE t = E := by rw [hEE]; exact HE.out.flE
          have hee : (E == E) = true := beq_self_eq_true E
          have K1 := Lib.hid (Flush1 HRa.out)
          rw [← hEE] at K1
          unfold RfS.ptr at K1
          go_upto_region 26 with (first
            | (go_at_call 16; go_loud (refine K1.out.mono ?_; rintro e w3 ⟨rfl, g1⟩; have K2 := Lib.hid (Flush2 g1 (by omega)); rw [hE2] at K2; unfold RfS.ptr at K2; clear g1))
            | (go_at_call 17; go_loud (refine K2.out.mono ?_; rintro e w4 ⟨rfl, g1⟩; have R4 := Lib.hid (Two.mono g1 (Nat.le_succ i)); clear g1)))
          have KLk := Lib.hid (like_any R4.out HE1.out (by omega))
          unfold RfS.ptr at KLk
          go_wp2_with (go_at_call 24; go_loud (refine KLk.out.mono ?_; rintro e w9 ⟨rfl, hb9⟩; have HR9 := Lib.hid (Two.below R4.out hb9); clear hb9))
          go_roundw
          case rel => exact ⟨i + 1, _, _, hlt, by go_num, HR9, HE1⟩
          case measure => simp [intOf]; omega
        by_cases q3 : dd = 3
        · have hd0 : (dd == 0) = false := by rw [beq_eq_false_iff_ne]; omega
          have hd1 : (dd == 1) = false := by rw [beq_eq_false_iff_ne]; omega
          have hd2 : (dd == 2) = false := by rw [beq_eq_false_iff_ne]; omega
          have hd3 : (dd == 3) = true := by rw [beq_iff_eq]; omega
          clear q0 q1 q2 q3
          have HE1 := Lib.hid (Rel.mono (HE.out.cr ps) (Nat.le_succ i))
          have K1 := Lib.hid (CrashC (dc := pc) HRa.out (by omega) (HP1.out w1 HRa.out.bel) HRa.out.bel.size (by omega))
          unfold RfS.ptr at K1
          go_upto_region 22 with (go_at_call 18; go_loud (
            refine K1.out.mono ?_
            rintro e w3 ⟨rfl, g1, g2⟩
            have K2 := Lib.hid (Crash2 (dc := pc) g1 (by omega) (HP1.out w3 g1.bel) (by omega))
            unfold RfS.ptr at K2
            clear b0 b1 b2 b3 b4
            obtain ⟨b0, b1, b2, b3, b4⟩ := HCB.out w3 (g2 B _ _ HX.out)
            clear g1 g2))
          go_upto_region 26 with (go_at_call 19; go_loud (refine K2.out.mono ?_; rintro e w4 ⟨rfl, g1⟩; have R4 := Lib.hid (Two.mono g1 (Nat.le_succ i)); clear g1))
          have KLk := Lib.hid (like_any R4.out HE1.out (by omega))
          unfold RfS.ptr at KLk
          go_wp2_with (go_at_call 24; go_loud (refine KLk.out.mono ?_; rintro e w9 ⟨rfl, hb9⟩; have HR9 := Lib.hid (Two.below R4.out hb9); clear hb9))
          go_roundw
          case rel => exact ⟨i + 1, _, _, hlt, by go_num, HR9, HE1⟩
          case measure => simp [intOf]; omega
        by_cases q4 : dd = 4
        · have hd0 : (dd == 0) = false := by rw [beq_eq_false_iff_ne]; omega
          have hd1 : (dd == 1) = false := by rw [beq_eq_false_iff_ne]; omega
          have hd2 : (dd == 2) = false := by rw [beq_eq_false_iff_ne]; omega
          have hd3 : (dd == 3) = false := by rw [beq_eq_false_iff_ne]; omega
          have hd4 : (dd == 4) = true := by rw [beq_iff_eq]; omega
          clear q0 q1 q2 q3 q4
          have HE1 := Lib.hid (Rel.mono (HE.out.fu nn) (Nat.le_succ i))
          have K1 := Lib.hid (FuseC HRa.out nn hnn)
          unfold RfS.ptr at K1
          go_upto_region 25 with (go_at_call 20; go_loud (
            refine K1.out.mono ?_
            rintro e w3 ⟨rfl, g1, g2⟩
            have K2 := Lib.hid (Fuse2 g1 nn)
            unfold RfS.ptr at K2
            clear b0 b1 b2 b3 b4
            obtain ⟨b0, b1, b2, b3, b4⟩ := HCB.out w3 (g2 B _ _ HX.out)
            clear g1 g2))
          go_upto_region 26 with (go_at_call 21; go_loud (refine K2.out.mono ?_; rintro e w4 ⟨rfl, g1⟩; have R4 := Lib.hid (Two.mono g1 (Nat.le_succ i)); clear g1))
          have KLk := Lib.hid (like_any R4.out HE1.out (by omega))
          unfold RfS.ptr at KLk
          go_wp2_with (go_at_call 24; go_loud (refine KLk.out.mono ?_; rintro e w9 ⟨rfl, hb9⟩; have HR9 := Lib.hid (Two.below R4.out hb9); clear hb9))
          go_roundw
          case rel => exact ⟨i + 1, _, _, hlt, by go_num, HR9, HE1⟩
          case measure => simp [intOf]; omega
        have hd0 : (dd == 0) = false := by rw [beq_eq_false_iff_ne]; omega
        have hd1 : (dd == 1) = false := by rw [beq_eq_false_iff_ne]; omega
        have hd2 : (dd == 2) = false := by rw [beq_eq_false_iff_ne]; omega
        have hd3 : (dd == 3) = false := by rw [beq_eq_false_iff_ne]; omega
        have hd4 : (dd == 4) = false := by rw [beq_eq_false_iff_ne]; omega
        clear q0 q1 q2 q3 q4
        have HE1 := Lib.hid (Rel.mono HE.out (Nat.le_succ i))
        have hrd : rdF t nm = rdF s nm := by unfold rdF; rw [HE.out.down, HE.out.files]
        obtain ⟨o, ho⟩ : ∃ o, o = rdF s nm := ⟨_, rfl⟩
        have K1 := Lib.hid (Read1 HRa.out (by omega) nm)
        have K2 := Lib.hid (fun (wq : World) (hb : Below w1.heap.size w1 wq) => Read2 (HRa.out.below hb) (by omega) nm)
        rw [← ho] at K1
        rw [hrd, ← ho] at K2
        unfold RfS.ptr RdPost at K1 K2
        obtain ⟨ob, hob⟩ : ∃ ob, ob = o.isSome := ⟨_, rfl⟩
        obtain ⟨og, hog⟩ : ∃ og, og = o.getD [] := ⟨_, rfl⟩
        rw [← hob, ← hog] at K1 K2
        have hbo : (ob == ob) = true := beq_self_eq_true ob
        obtain ⟨X, hX⟩ : ∃ X : ByteArray, X = ⟨og.toArray⟩ := ⟨_, rfl⟩
        have hXX : (X.toList == X.toList) = true := beq_self_eq_true _
        have HXE := Lib.hid hX
        clear ho hrd hob hog hX
        go_upto_region 12 with (go_at_call 22; go_loud (
          refine K1.out.mono ?_
          rintro e w3 ⟨A3, m3, k3, rfl, hb3, hk3, hw3⟩
          have HY3 := Lib.hid hb3
          have HW3 := Lib.hid hw3
          clear b0 b1 b2 b3 b4
          obtain ⟨b0, b1, b2, b3, b4⟩ := HCB.out w3 (hw3.block B HBL.out)
          clear hb3 hw3))
        go_upto_region 13 with (go_at_call 23; go_loud (
          refine (K2.out _ HW3.out).mono ?_
          rintro e w4 ⟨A4, m4, k4, rfl, hb4, hk4, hw4⟩
          have hcv := PkKit.BytesAt.conv (HY3.out.kp (Kp.below hw4 (Nat.le_refl _))).at_ k3
          have hcv' := PkKit.BytesAt.conv hb4.at_ k4
          rw [← HXE.out] at hcv hcv'
          have R4 := Lib.hid (Two.mono (Two.below HRa.out (HW3.out.trans (hw4.mono HW3.out.size))) (Nat.le_succ i))
          clear b0 b1 b2 b3 b4 hb4 hw4))
        go_upto_region 26 with fail
        have KLk := Lib.hid (like_any R4.out HE1.out (by omega))
        unfold RfS.ptr at KLk
        go_wp2_with (go_at_call 24; go_loud (refine KLk.out.mono ?_; rintro e w9 ⟨rfl, hb9⟩; have HR9 := Lib.hid (Two.below R4.out hb9); clear hb9))
        go_roundw
        case rel => exact ⟨i + 1, _, _, hlt, by go_num, HR9, HE1⟩
        case measure => simp [intOf]; omega
      · have KA := Lib.hid (awake wr)
        go_wp2_with (go_at_call 9; go_loud (refine KA.out.mono ?_; rintro e w3 ⟨rfl, hb⟩; have HBz := Lib.hid (HR.out.bel.trans (hb.mono HR.out.bel.size)); clear hb))
        go_ret
        exact ⟨rfl, HBz.out⟩
end Go.Proofs.Ytefgcckdlebfaaa.RkPl
