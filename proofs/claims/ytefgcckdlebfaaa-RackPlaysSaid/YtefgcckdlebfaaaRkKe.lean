/-
  RackKeeps: what is sure stays; if all that is loose stays, it is as one read it.
-/
import Derived.Test.YtefgcckdlebfaaaRkFu
import Derived.Test.YtefgcckdlebfaaaRkH
namespace Go.Proofs.Ytefgcckdlebfaaa.RkKe
open Go.RowKit Go.Proofs.Ytefgcckdlebfaaa.BxD Go.Proofs.Ytefgcckdlebfaaa.BxKit Go.Proofs.Ytefgcckdlebfaaa.RkO Go.Proofs.Ytefgcckdlebfaaa.RkC Go.Proofs.Ytefgcckdlebfaaa.RkD Go.Proofs.Ytefgcckdlebfaaa.RkR Go.Proofs.Ytefgcckdlebfaaa.RkK Go.Proofs.Ytefgcckdlebfaaa.RkP Go.Proofs.Ytefgcckdlebfaaa.RkQ Go.Proofs.Ytefgcckdlebfaaa.RkE Go.Proofs.Ytefgcckdlebfaaa.RkS Go.Proofs.Ytefgcckdlebfaaa.RkM Go.Proofs.Ytefgcckdlebfaaa.RkN Go.Proofs.Ytefgcckdlebfaaa.RkV Go.Proofs.Ytefgcckdlebfaaa.RkW Go.Proofs.Ytefgcckdlebfaaa.RkU Go.Proofs.Ytefgcckdlebfaaa.RkT Go.Proofs.Ytefgcckdlebfaaa.RkG Go.Proofs.Ytefgcckdlebfaaa.RkAw Go.Proofs.Ytefgcckdlebfaaa.RkL Go.Proofs.Ytefgcckdlebfaaa.RkH Go.Proofs.Ytefgcckdlebfaaa.RkFu

theorem KpB {w0 w w' : World} {T k : Nat} {s s' : St} {e0 e : Ending} {SA FA LA : Option Addr} {sn sc fn fcp ln lc : Nat} (hb : Below w0.heap.size w0 w) (h : Rk w w0.heap.size T s SA sn sc FA fn fcp LA ln lc) (ok : Ok k s') (fu : FuOk s') (p : RkPost w w0.heap.size T LA s' e0 e w') : e = e0 ∧ RkB w0 w' T k s' ∧ Kp w w' := by
  have q := RkB.post hb h ok fu p
  obtain ⟨_, LA', _, hf, _⟩ := p
  exact ⟨q.1, q.2, h.kp hf⟩
section
variable {w0 w : World} {T k : Nat} {s : St}
theorem WriteK (h : RkB w0 w T k s) (h6 : k ≤ 900) {D : Option Addr} {dn dc B : Nat} (n : ByteArray) {d : List UInt8} (hD : PkKit.BytesAt w B D dn d) (hB : B ≤ w.heap.size) :
    Calls Try.prog 12 #[ptr T, .string n, .slice D dn dc] w fun e w' => e = .returned (.int .i64 (wrE s n d)) ∧ RkB w0 w' T (k + 1) (wrS s n d) ∧ Kp w w' := by
  obtain ⟨h1, h2, h3, SA, sn, sc, FA, fn, fcp, LA, ln, lc, h4⟩ := h
  exact (Write_any h4 h2 h6 hD hB h1.size h3).mono fun _ _ p => KpB h1 h4 (h2.wr n d) (h3.wr n d) p
theorem CutK (h : RkB w0 w T k s) (h6 : k ≤ 900) (n : ByteArray) : Calls Try.prog 14 #[ptr T, .string n] w fun e w' => e = .returned (.int .i64 (ctE s n)) ∧ RkB w0 w' T (k + 1) (ctS s n) ∧ Kp w w' := by
  obtain ⟨h1, h2, h3, SA, sn, sc, FA, fn, fcp, LA, ln, lc, h4⟩ := h
  exact (Cut_any h4 h2 h6 h1.size h3).mono fun _ _ p => KpB h1 h4 (h2.ct n) (h3.ct n) p
theorem CrashK (h : RkB w0 w T k s) (h6 : k ≤ 900) {D : Option Addr} {dn dc B : Nat} {ps : List UInt8} (hD : PkKit.BytesAt w B D dn ps) (hB : B ≤ w.heap.size) (hdn : dn ≤ 100000000) :
    Calls Try.prog 18 #[ptr T, .slice D dn dc] w fun e w' => e = .returned (.tuple #[]) ∧ RkB w0 w' T k (crS s ps) ∧ Kp w w' := by
  obtain ⟨h1, h2, h3, SA, sn, sc, FA, fn, fcp, LA, ln, lc, h4⟩ := h
  exact (crash_any h4 h2 h6 hD hB hdn).mono fun _ _ p => KpB h1 h4 (h2.cr ps) (FuOk.cr s ps) p
end
/-- Power, no fuse; what one reads is what is loose done on what is sure. -/
structure NF (j : Nat) (s : St) : Prop where
  down : s.down = false
  fuse : s.fuse = none
  files : s.files = s.loose.foldl doneC s.sure
  few : s.loose.length ≤ j
theorem NF.go {j : Nat} {s : St} (h : NF j s) (c : Ch) : NF (j + 1) (goS s c (doneC s.files c)) ∧ (goS s c (doneC s.files c)).sure = s.sure := by
  have hz : ¬ s.fuse = some 0 := by rw [h.fuse]; simp
  have hS : goS s c (doneC s.files c) = { s with files := doneC s.files c, loose := s.loose ++ [c], writes := s.writes + 1, fuse := s.fuse.map (· - 1) } := if_neg hz
  rw [hS]
  refine ⟨⟨h.down, by show s.fuse.map (· - 1) = none; rw [h.fuse]; rfl, ?_, ?_⟩, rfl⟩
  · show doneC s.files c = (s.loose ++ [c]).foldl doneC s.sure
    rw [List.foldl_append, ← h.files]; rfl
  · have := h.few
    simp; omega
theorem NF.mono {j k : Nat} {s : St} (h : NF j s) (hk : j ≤ k) : NF k s := ⟨h.down, h.fuse, h.files, Nat.le_trans h.few hk⟩
theorem NF.wr {j : Nat} {s : St} (h : NF j s) (n : ByteArray) (d : List UInt8) : NF (j + 1) (wrS s n d) ∧ (wrS s n d).sure = s.sure := by
  have hm := h.mono (Nat.le_succ j)
  unfold wrS
  split
  · exact ⟨hm, rfl⟩
  · split
    · exact ⟨hm, rfl⟩
    · split
      · exact ⟨hm, rfl⟩
      · exact h.go ⟨n, false, d⟩
theorem NF.ct {j : Nat} {s : St} (h : NF j s) (n : ByteArray) : NF (j + 1) (ctS s n) ∧ (ctS s n).sure = s.sure := by
  have hm := h.mono (Nat.le_succ j)
  unfold ctS
  split
  · exact ⟨hm, rfl⟩
  · split
    · exact ⟨hm, rfl⟩
    · split
      · exact ⟨hm, rfl⟩
      · exact h.go ⟨n, true, []⟩
theorem NF.fl {j : Nat} {s : St} (h : NF j s) : flE s = 0 ∧ NF 0 (flS s) ∧ (flS s).loose = [] := by
  have hE : flE s = 0 := by unfold flE; rw [h.down]; rfl
  have hS : flS s = { s with sure := s.files, loose := [] } := by unfold flS; rw [h.down]; rfl
  rw [hS]
  exact ⟨hE, ⟨h.down, h.fuse, rfl, Nat.le_refl _⟩, rfl⟩
theorem NF.cr (s : St) (ps : List UInt8) : NF 0 (crS s ps) ∧ (crS s ps).loose = [] := ⟨⟨rfl, rfl, rfl, Nat.le_refl _⟩, rfl⟩
theorem sure_none (s : St) : (crS s []).sure = s.sure := cr_none _ _ _
theorem read_at {s : St} {i : Nat} {x : ByteArray} (hs : SrtF s.files) (hd : s.down = false) (h : (s.files.map (·.1))[i]? = some x) : ∃ d, s.files[i]? = some (x, d) ∧ rdF s x = some d := by
  rw [List.getElem?_map] at h
  cases hf : s.files[i]? with
  | none => rw [hf] at h; cases h
  | some f =>
    rw [hf] at h
    obtain ⟨y, d⟩ := f
    obtain rfl : y = x := Option.some.inj h
    obtain ⟨hi, e⟩ := List.getElem?_eq_some_iff.1 hf
    have hlo : lo cmpS y s.files = i := lo_eq cmpS y s.files i (by omega) (fun j p hj hp => by
      obtain ⟨hj1, e1⟩ := List.getElem?_eq_some_iff.1 hp
      have := List.pairwise_iff_getElem.1 hs j i hj1 hi hj
      rw [e, e1] at this
      exact this) (fun p hp => by
      rw [hf] at hp
      obtain rfl := Option.some.inj hp
      rw [cmp_self]; decide)
    refine ⟨d, rfl, ?_⟩
    unfold rdF
    rw [if_neg (by rw [hd]; decide), hlo, hf]
    simp
/-- So many ones, then noughts. -/
def ozs (i : Nat) : List Value := List.replicate i (.int .u8 1) ++ List.replicate (100 - i) (.int .u8 0)
theorem oz0 : ozs 0 = List.replicate 100 (.int .u8 0) := rfl
theorem oz_at {i : Nat} (h : i < 100) : (ozs i)[i]? = some (.int .u8 0) := by
  unfold ozs
  rw [List.getElem?_append_right (by simp), List.getElem?_replicate, if_pos (by simp; omega)]
theorem oz_set {i : Nat} (h : i < 100) : (ozs i).set i (.int .u8 1) = ozs (i + 1) := by
  unfold ozs
  rw [List.set_append, if_neg (by simp)]
  simp only [List.length_replicate, Nat.sub_self]
  rw [show 100 - i = (100 - (i + 1)) + 1 by omega, List.replicate_succ, List.set_cons_zero, List.replicate_succ', List.append_assoc]; rfl
theorem mk100 (w : World) : (Instr.makeSlice 29 (.int .i64 100) (.int .i64 100)).run Try.prog w = .ok (.slice (some ⟨w.heap.size, 0, none⟩) 100 100) (w.alloc (.cells (Array.replicate 100 (.int .u8 0)) 5)) := by kernel_rfl
def ones : List UInt8 := List.replicate 100 1
theorem ones_at {w : World} {G : Nat} (h : Row w G 5 (ozs 100)) : PkKit.BytesAt w w.heap.size (some ⟨G, 0, none⟩) 100 ones := by
  refine ⟨rfl, fun _ => ⟨_, rfl, h.lt, fun j c hj => ?_⟩⟩
  rw [RkR.add_new, h.cell]
  unfold ones at hj
  have hjl : j < 100 := by have := (List.getElem?_eq_some_iff.1 hj).1; simpa using this
  rw [List.getElem?_replicate, if_pos hjl] at hj
  obtain rfl := Option.some.inj hj
  unfold ozs
  rw [List.getElem?_append_left (by simpa using hjl), List.getElem?_replicate, if_pos hjl]; rfl
theorem picked_ones {k : Nat} (h : k < 100) : picked ones k = true := by
  unfold picked ones
  rw [List.getElem?_replicate, if_pos h]; rfl
theorem cr_ones : ∀ (l : List Ch) (k : Nat) (f : List F), k + l.length ≤ 100 → cr ones l k f = l.foldl doneC f
  | [], _, _, _ => rfl
  | c :: r, k, f, h => by
    rw [List.length_cons] at h
    unfold RkD.cr
    rw [picked_ones (by omega), if_pos rfl, List.foldl_cons]
    exact cr_ones r (k + 1) _ (by omega)
theorem sure_all {j : Nat} {s : St} (h : NF j s) (hj : j ≤ 100) : (crS s ones).sure = s.files := by
  rw [h.files]
  exact cr_ones _ _ _ (by have := h.few; omega)
theorem NF.new (r : Int) : NF 0 (newS r) := ⟨rfl, rfl, rfl, Nat.le_refl _⟩

set_option maxRecDepth 100000 in
set_option maxHeartbeats 8000000 in
theorem walk {w : World} {A1 A2 : Option Addr} {n1 n2 c1 c2 : Nat} {l m : List Cl} (h1 : CallsAt w w.heap.size A1 n1 l) (h2 : CallsAt w w.heap.size A2 n2 m) :
    Calls Try.prog 5 #[.slice A1 n1 c1, .slice A2 n2 c2] w fun e w' => e = .returned (.bool true) ∧ Below w.heap.size w w' := by
  have H1 := Lib.hid h1
  have H2 := Lib.hid h2
  have L1 := Lib.hid h1.len
  have L2 := Lib.hid h2.len
  have KH1 := Lib.hid (heavy_any (c := c1) h1)
  have KH2 := Lib.hid (fun (w2 : World) (hb : Below w.heap.size w w2) => heavy_any (c := c2) (calls_later h2 hb))
  unfold HvPost at KH1 KH2
  clear h1 h2
  go_enter Try.func5, Try.ntmps5
  go_upto_region 1 with fail
  go_cut [26] (fun s26 wx => ∃ h : Int, s26 = .bool (decide (0 < h)) ∧ Hid (¬ 0 < h → n1 ≤ 100 ∧ n2 ≤ 100) ∧ Hid (Below w.heap.size w wx))
  case first =>
    go_wp2_with (first
      | (go_at_call 8; go_loud (refine (KH2.out _ HBa.out).mono ?_; rintro e w3 ⟨r1, rfl, r2, r3, r4, hb⟩; have HBb := Lib.hid hb; have HR := Lib.hid r4; clear hb r4))
      | (go_at_call 8; go_loud (refine KH1.out.mono ?_; rintro e w2 ⟨q1, rfl, q2, q3, q4, hb⟩; have HBa := Lib.hid hb; have HQ := Lib.hid q4; clear hb q4)))
    go_meet
    exact ⟨q1 + r1, rfl, fun hn => ⟨by have := (HQ.out (by omega)).1; rw [L1.out] at this; exact this, by have := (HR.out (by omega)).1; rw [L2.out] at this; exact this⟩, HBa.out.trans (HBb.out.mono HBa.out.size)⟩
  case rest =>
    obtain ⟨h, rfl, HN, HB0⟩ := hcut
    clear KH1 KH2
    by_cases hh : 0 < h
    · have KA := Lib.hid (awake wc)
      go_wp2_with (go_at_call 9; go_loud (refine KA.out.mono ?_; rintro e w3 ⟨rfl, hb⟩))
      go_ret
      exact ⟨rfl, HB0.out.trans (hb.mono HB0.out.size)⟩
    obtain ⟨hn1, hn2⟩ := HN.out hh
    clear HN
    obtain ⟨T, hT⟩ : ∃ T, T = wc.heap.size := ⟨_, rfl⟩
    have KN := Lib.hid (newB w wc HB0.out 1000000)
    rw [← hT] at KN
    unfold ptr at KN
    clear hT
    go_upto_region 4 with (go_at_call 10; go_loud (refine KN.out.mono ?_; rintro e w1 ⟨rfl, g⟩; have R1 := Lib.hid g; clear g))
    go_wp2_with fail
    go_loopw [31] (fun s31 wr => ∃ (i : Nat) (s : St), i ≤ n1 ∧ s31 = .int .i64 i ∧ Hid (RkB w wr T i s) ∧ Hid (NF i s)) (fun s31 _ => n1 - (intOf s31).toNat)
    case atStart => exact ⟨0, _, Nat.zero_le _, rfl, R1, NF.new _⟩
    case round =>
      clear R1 KN
      obtain ⟨i, s, hi, rfl, HR, HF⟩ := hrel
      by_cases hlt : i < n1
      · obtain ⟨ad, dd, nn, nm, D, dl, dc, ds, P0, pl, pc, ps, rfl, hx, c0, c1', c2', c3, c4, hD, hPk, hnn, hnm, hdl, hpl, _⟩ := CallsAt.sp H1.out HR.out.bel hlt
        have HRa := Lib.hid (HR.out.alloc (.cells #[.int .i64 dd, .int .i64 nn, .string nm, .slice D dl dc, .slice P0 pl pc] 31))
        have hDa := hD.below (below_alloc wr (.cells #[.int .i64 dd, .int .i64 nn, .string nm, .slice D dl dc, .slice P0 pl pc] 31)) HR.out.bel.size
        by_cases hdo : dd = 1
        · have KC := Lib.hid (CutK HRa.out (by omega) nm)
          have HF1 := Lib.hid (HF.out.ct nm).1
          have hdb : (dd == 1) = true := by simpa using hdo
          unfold ptr at KC
          clear hx hD hDa hPk hdo
          go_wp2_with (go_at_call 14; go_loud (refine KC.out.mono ?_; rintro e w3 ⟨rfl, g, _⟩; have R3 := Lib.hid g; clear g))
          go_roundw
          case measure => simp [intOf]; omega
          case rel => exact ⟨i + 1, _, by omega, by go_num, R3, HF1⟩
        · have KW := Lib.hid (WriteK (dc := dc) HRa.out (by omega) nm hDa HRa.out.bel.size)
          have HF1 := Lib.hid (HF.out.wr nm ds).1
          have hdb : (dd == 1) = false := by simpa using hdo
          unfold ptr at KW
          clear hx hD hDa hPk hdo
          go_wp2_with (go_at_call 12; go_loud (refine KW.out.mono ?_; rintro e w3 ⟨rfl, g, _⟩; have R3 := Lib.hid g; clear g))
          go_roundw
          case measure => simp [intOf]; omega
          case rel => exact ⟨i + 1, _, by omega, by go_num, R3, HF1⟩
      · obtain rfl : i = n1 := by omega
        obtain ⟨e1, f1, f2⟩ := HF.out.fl
        have KF := Lib.hid (FlushB HR.out)
        rw [e1] at KF
        obtain ⟨S1, hS1⟩ : ∃ S1, S1 = flS s := ⟨_, rfl⟩
        rw [← hS1] at KF f1 f2
        have F1 := Lib.hid f1
        have F2 := Lib.hid f2
        unfold ptr at KF
        clear e1 f1 f2 hS1 HF HR
        go_upto_region 13 with (first
          | (go_at_call 16; go_loud (refine KF.out.mono ?_; rintro e w3 ⟨rfl, g⟩; have R3 := Lib.hid g; clear g; have KL := Lib.hid (LooseB R3.out); rw [F2.out] at KL; rw [show ((([] : List Ch).length : Nat) : Int) = 0 from rfl] at KL; unfold ptr at KL))
          | (go_at_call 28; go_loud (refine KL.out.mono ?_; rintro e w4 ⟨rfl, rfl⟩)))
        have KS := Lib.hid (SureB R3.out (by omega))
        unfold ptr SuPost at KS
        obtain ⟨n8, hn8⟩ : ∃ n8, n8 = S1.sure.length := ⟨_, rfl⟩
        rw [← hn8] at KS
        have HN8 := Lib.hid (show n8 ≤ 1000 by have := R3.out.ok.loose; omega)
        clear hn8
        go_upto_region 14 with (go_at_call 31; go_loud (refine KS.out.mono ?_; rintro e w5 ⟨A8, c8, rfl, hc8, hf8, hb5⟩; have F8 := Lib.hid hf8; have R5 := Lib.hid (R3.out.below hb5); clear hf8 hb5))
        have hi0 : ∀ w, (Instr.index 48 (.agg #[.bool true, .bool false]) (.int .i64 0)).run Try.prog w = .ok (.bool true) w := fun _ => by kernel_rfl
        have hi1 : ∀ w, (Instr.index 48 (.agg #[.bool true, .bool false]) (.int .i64 1)).run Try.prog w = .ok (.bool false) w := fun _ => by kernel_rfl
        have HI0 := Lib.hid hi0
        have HI1 := Lib.hid hi1
        obtain ⟨SU, hSU⟩ : ∃ SU, SU = S1.sure := ⟨_, rfl⟩
        rw [← hSU] at F8
        have HSU := Lib.hid hSU
        clear hi0 hi1 KS KF R3 hSU
        go_wp2_with fail
        go_loopw [60] (fun s60 wr => ∃ (p : Nat) (s : St), p ≤ 2 ∧ s60 = .int .i64 p ∧ Hid (RkB w wr T (100 + p * 100) s) ∧ Hid (NF 0 s) ∧ Hid (p < 2 → s.sure = SU) ∧ Hid (FilesT wr A8 n8 SU)) (fun s60 _ => 2 - (intOf s60).toNat)
        case atStart => exact ⟨0, S1, by omega, rfl, Lib.hid (R5.out.mono (by omega)), F1, Lib.hid (fun _ => HSU.out.symm), F8⟩
        case round =>
          clear R5 F8 F1 F2
          obtain ⟨p, s, hp, rfl, HR, HF, HSS, HF8⟩ := hrel
          by_cases hp2 : p < 2
          · obtain ⟨b, hb1, hb2⟩ : ∃ b : Bool, b = decide (p = 0) ∧ Hid (∀ w, (Instr.index 48 (.agg #[.bool true, .bool false]) (.int .i64 (p : Int))).run Try.prog w = .ok (.bool b) w) := by
              by_cases h0 : p = 0
              · subst h0; exact ⟨true, rfl, HI0.out⟩
              · obtain rfl : p = 1 := by omega
                exact ⟨false, rfl, HI1.out⟩
            have HBP := Lib.hid hb1
            have hix := hb2.out
            obtain ⟨k0, hk0⟩ : ∃ k0, k0 = 100 + p * 100 := ⟨_, rfl⟩
            rw [← hk0] at HR
            have HK0 := Lib.hid hk0
            have hk9 : k0 ≤ 300 := by omega
            have hss := HSS.out hp2
            have HS0 := Lib.hid hss
            have hpd : decide ((p : Int) < 2) = true := decide_eq_true (by omega)
            clear hb1 hb2 hk0 hss
            go_wp2_with fail
            clear hix
            go_loopw [65] (fun s65 wr => ∃ (i : Nat) (s : St), i ≤ n2 ∧ s65 = .int .i64 i ∧ Hid (RkB w wr T (k0 + i) s) ∧ Hid (NF i s) ∧ Hid (s.sure = SU) ∧ Hid (FilesT wr A8 n8 SU)) (fun s65 _ => n2 - (intOf s65).toNat)
            case atStart => exact ⟨0, s, Nat.zero_le _, rfl, HR, HF, HS0, HF8⟩
            case round =>
              clear HR HF HSS HF8 HS0
              obtain ⟨i, s, hi, rfl, HR, HF, HSS, HF8⟩ := hrel
              by_cases hlt : i < n2
              · obtain ⟨ad, dd, nn, nm, D, dl, dc, ds, P0, pl, pc, ps, rfl, hx, c0, c1', c2', c3, c4, hD, hPk, hnn, hnm, hdl, hpl, _⟩ := CallsAt.sp H2.out HR.out.bel hlt
                have HRa := Lib.hid (HR.out.alloc (.cells #[.int .i64 dd, .int .i64 nn, .string nm, .slice D dl dc, .slice P0 pl pc] 31))
                have hDa := hD.below (below_alloc wr (.cells #[.int .i64 dd, .int .i64 nn, .string nm, .slice D dl dc, .slice P0 pl pc] 31)) HR.out.bel.size
                have HF8a := Lib.hid (HF8.out.kp (Kp.alloc wr (.cells #[.int .i64 dd, .int .i64 nn, .string nm, .slice D dl dc, .slice P0 pl pc] 31)))
                by_cases hdo : dd = 1
                · have KC := Lib.hid (CutK HRa.out (by omega) nm)
                  have HF1 := Lib.hid (HF.out.ct nm).1
                  have HS1 := Lib.hid ((HF.out.ct nm).2.trans HSS.out)
                  have hdb : (dd == 1) = true := by simpa using hdo
                  unfold ptr at KC
                  clear hx hD hDa hPk hdo
                  go_wp2_with (go_at_call 14; go_loud (refine KC.out.mono ?_; rintro e w3 ⟨rfl, g, gk⟩; have R3 := Lib.hid g; have F3 := Lib.hid (HF8a.out.kp gk); clear g gk))
                  go_roundw
                  case measure => simp [intOf]; omega
                  case rel => exact ⟨i + 1, _, by omega, by go_num, R3, HF1, HS1, F3⟩
                · have KW := Lib.hid (WriteK (dc := dc) HRa.out (by omega) nm hDa HRa.out.bel.size)
                  have HF1 := Lib.hid (HF.out.wr nm ds).1
                  have HS1 := Lib.hid ((HF.out.wr nm ds).2.trans HSS.out)
                  have hdb : (dd == 1) = false := by simpa using hdo
                  unfold ptr at KW
                  clear hx hD hDa hPk hdo
                  go_wp2_with (go_at_call 12; go_loud (refine KW.out.mono ?_; rintro e w3 ⟨rfl, g, gk⟩; have R3 := Lib.hid g; have F3 := Lib.hid (HF8a.out.kp gk); clear g gk))
                  go_roundw
                  case measure => simp [intOf]; omega
                  case rel => exact ⟨i + 1, _, by omega, by go_num, R3, HF1, HS1, F3⟩
              · obtain rfl : i = n2 := by omega
                have KM := Lib.hid (NamesB HR.out (by omega))
                unfold ptr NmPost at KM
                rw [List.length_map] at KM
                obtain ⟨fn, hfn⟩ : ∃ fn, fn = s.files.length := ⟨_, rfl⟩
                rw [← hfn] at KM
                have HFN := Lib.hid hfn
                have hf1 : fn ≤ 1000 := by have := HR.out.ok.files.len; omega
                clear hfn
                go_upto_region 26 with (go_at_call 25; go_loud (refine KM.out.mono ?_; rintro e wN ⟨NA, nc, rfl, hns, hbn⟩; have HNS := Lib.hid hns; have RN := Lib.hid (HR.out.below hbn); have FN := Lib.hid (HF8.out.kp (Kp.below hbn (Nat.le_refl _))); clear hns hbn))
                clear KM HR HF8
                go_wp2_with fail
                go_loopw [87, 14] (fun s87 s14 wr => ∃ (q : Nat) (v : Value) (rs : List RF), v = s14 ∧ q ≤ fn ∧ s87 = .int .i64 q ∧ Hid (Below wN.heap.size wN wr) ∧ Hid (rs.map fOf = s.files.take q) ∧ Hid (∀ r ∈ rs, DOk wr r) ∧ Hid (wr.ownsRow wN.heap.size 50 2 v q (fc rs))) (fun s87 _ _ => fn - (intOf s87).toNat)
                case atStart => exact ⟨0, _, [], rfl, Nat.zero_le _, rfl, Below.refl _ _, rfl, fun r hr => by simp at hr, World.ownsRow_nil _ _ _ _⟩
                case round =>
                  obtain ⟨q, v, rs, rfl, hq, rfl, HB, HE, HD, HO⟩ := hrel
                  have hsz := HB.out.size
                  by_cases hlq : q < fn
                  · obtain ⟨na, x, rfl, hxq, hcx⟩ := StrsAt.at_ HNS.out HB.out (Nat.le_refl _) hlq
                    obtain ⟨d, hdq, hrd⟩ := read_at RN.out.ok.files.srt HF.out.down hxq
                    have KR := Lib.hid (ReadB (RN.out.below HB.out) (by omega) x)
                    rw [hrd] at KR
                    unfold ptr RdPost at KR
                    rw [Option.isSome_some] at KR
                    have HDQ := Lib.hid hdq
                    clear hxq hdq hrd
                    go_upto_region 32 with (go_at_call 22; go_loud (refine KR.out.mono ?_; rintro e w2 ⟨A2', m2, k2, rfl, hb2, hk2, hw2⟩; have HD2 := Lib.hid hb2; have HW2 := Lib.hid hw2; clear hb2 hw2))
                    have HM := Lib.hid (show m2 = d.length by have := HD2.out.1; rw [show (some d).getD [] = d from rfl] at this; exact this.symm)
                    have HO2 := Lib.hid ((HO.out.kept (RkO.grown_below HW2.out (row := none)) (by cases hv : v.ownBlock <;> simp)).alloc (.cells #[.string x, .slice A2' m2 k2] 50))
                    have HB2 := Lib.hid (HB.out.trans (HW2.out.mono hsz))
                    have HS2 := Lib.hid (src_new w2 #[.string x, .slice A2' m2 k2] 50 (m := 1) (sz := 2) rfl rfl (fun u hu => by simp at hu; rcases hu with rfl | rfl <;> rfl))
                    go_wp2_with (at_builtin; go_loud (
                       refine wpList_rows elF rfl _ _ rfl rfl rfl HO2.out HS2.out (by unfold maxLen; omega) (by omega) (by have := HB2.out.size; simp; omega) ?_
                       intro v6 w6 hown hg6 _
                       have HO6 := Lib.hid (show w6.ownsRow wN.heap.size 50 2 v6 (q + 1) (fc (rs ++ [(x, ⟨A2', k2, d⟩)])) by rw [fc_append, one_eq]; unfold cell2; rw [← HM.out]; exact hown)
                       have hku : Ku w2 w6 := (Kp.alloc w2 (.cells #[.string x, .slice A2' m2 k2] 50)).ku.trans (Ku.grown hg6 (own_ty HO2.out))
                       have HDn : Hid (∀ r ∈ rs ++ [((x, ⟨A2', k2, d⟩) : RF)], DOk w6 r) := by
                         intro r hr
                         rcases List.mem_append.1 hr with hr | hr
                         · exact ⟨((HD.out r hr).1.kp (Kp.below HW2.out (Nat.le_refl _))).ku hku, (HD.out r hr).2⟩
                         · obtain rfl := List.mem_singleton.1 hr
                           have h1 := HD2.out.ku hku
                           have h2 := HM.out
                           subst h2
                           exact ⟨h1, hk2⟩
                       have HB6 := Lib.hid ((HB2.out.alloc HB2.out.size (.cells #[.string x, .slice A2' m2 k2] 50)).grown hg6 (by have := HB2.out.size; simp; omega) (fun g e => (HO.out.lt g e).1))
                       clear hown hg6 hku))
                    go_roundw
                    case measure => simp [intOf]; omega
                    case rel =>
                      refine ⟨q + 1, _, rs ++ [(x, ⟨A2', k2, d⟩)], rfl, by omega, by go_num, HB6, ?_, HDn, HO6⟩
                      show List.map fOf (rs ++ [((x, ⟨A2', k2, d⟩) : RF)]) = s.files.take (q + 1)
                      obtain ⟨hl1, e1⟩ := List.getElem?_eq_some_iff.1 HDQ.out
                      rw [List.map_append, HE.out, List.take_succ_eq_append_getElem hl1, e1]; rfl
                  · obtain rfl : q = fn := by omega
                    obtain ⟨wq, hwq⟩ : ∃ wq, wq = wr := ⟨_, rfl⟩
                    subst hwq
                    have ho := HO.out
                    have he := HE.out
                    rw [List.take_of_length_le (by rw [← HFN.out]; exact Nat.le_refl _)] at he
                    obtain ⟨A9, k9, rfl, hk9'⟩ := RkR.own_slice ho
                    have F9 := Lib.hid (show FilesT wq A9 q s.files from ⟨rs, he, filesR_own ho HD.out⟩)
                    have FR := Lib.hid (FN.out.kp (Kp.below HB.out (Nat.le_refl _)))
                    have R9 := Lib.hid (RN.out.below HB.out)
                    have KS := Lib.hid (SureB R9.out (by omega))
                    unfold ptr SuPost at KS
                    rw [HSS.out] at KS
                    have HLS := Lib.hid FR.out.len
                    rw [HLS.out] at KS
                    have KE := Lib.hid (fun (wx : World) (B1 : Option Addr) (k1 : Nat) (hb : Below wq.heap.size wq wx) (hf : FilesT wx B1 n8 SU) => same_files (c1 := k1) (c2 := c8) hf (FR.out.kp (Kp.below hb (Nat.le_refl _))) (by have := HN8.out; omega))
                    rw [show decide (SU = SU) = true from decide_eq_true rfl] at KE
                    clear ho he HO HE HD RN FN HNS
                    go_upto_region 36 with (first
                      | (go_at_call 31; go_loud (refine KS.out.mono ?_; rintro e wa ⟨Aa, ca, rfl, hca, hfa, hba⟩; have FA := Lib.hid hfa; have BA := Lib.hid hba; clear hfa hba))
                      | (go_at_call 32; go_loud (refine (KE.out _ _ _ BA.out FA.out).mono ?_; rintro e wb ⟨rfl, hbb⟩; have BB := Lib.hid (BA.out.trans (hbb.mono BA.out.size)); clear hbb)))
                    clear KS KE
                    obtain ⟨G, hG⟩ : ∃ G, G = wb.heap.size := ⟨_, rfl⟩
                    have hmk := mk100 wb
                    rw [← hG] at hmk
                    have R0 := Lib.hid (show Row (wb.alloc (.cells (Array.replicate 100 (.int .u8 0)) 5)) G 5 (ozs 0) by rw [hG, oz0]; exact heap_alloc_new wb _)
                    have HG := Lib.hid hG
                    have B0 := Lib.hid (below_alloc wb (.cells (Array.replicate 100 (.int .u8 0)) 5))
                    clear hG
                    go_wp2_with fail
                    clear hmk
                    generalize (World.alloc wb _) = wz at R0 B0 ⊢
                    go_loopw [114] (fun s114 wr => ∃ (i : Nat), i ≤ 100 ∧ s114 = .int .i64 i ∧ Hid (Row wr G 5 (ozs i)) ∧ Hid (Below wb.heap.size wb wr)) (fun s114 _ => 100 - (intOf s114).toNat)
                    case atStart => exact ⟨0, by omega, rfl, R0, B0⟩
                    case round =>
                      clear R0 B0
                      obtain ⟨i, hi, rfl, HR0, HB0'⟩ := hrel
                      by_cases hli : i < 100
                      · have g0 := HR0.out.cell i
                        rw [oz_at hli] at g0
                        have gf := HR0.out.frozen i
                        have HR1 := Lib.hid (HR0.out.stored i (.int .u8 1))
                        rw [oz_set hli] at HR1
                        have HB1 := Lib.hid (HB0'.out.setCell (p := ⟨G, i, none⟩) (by show wb.heap.size ≤ G; rw [HG.out]; exact Nat.le_refl _) (.int .u8 1))
                        have gi : (i : Int) < 100 := by omega
                        go_wp2_with fail
                        go_roundw
                        case measure => simp [intOf]; omega
                        case rel => exact ⟨i + 1, by omega, by go_num, HR1, HB1⟩
                      · obtain rfl : i = 100 := by omega
                        have RZ := Lib.hid ((R9.out.below BB.out).below HB0'.out)
                        have hkz : Kp wq wr := (Kp.below BB.out (Nat.le_refl _)).trans (Kp.below HB0'.out (Nat.le_refl _))
                        have F9Z := Lib.hid (F9.out.kp hkz)
                        have FRZ := Lib.hid (FR.out.kp hkz)
                        have hq10 : q ≤ 1000 := hf1
                        clear hkz
                        cases b with
                        | true =>
                          have KX := Lib.hid (CrashK (dc := 0) RZ.out (by omega) (PkKit.BytesAt.nil wr 0 none) (Nat.zero_le _) (by omega))
                          obtain ⟨f1, f2⟩ := NF.cr s []
                          have hsu : (crS s []).sure = SU := (sure_none s).trans HSS.out
                          obtain ⟨S2, hS2⟩ : ∃ S2, S2 = crS s [] := ⟨_, rfl⟩
                          rw [← hS2] at KX f1 f2 hsu
                          have F1' := Lib.hid f1
                          have HSU2 := Lib.hid hsu
                          have HLO := Lib.hid f2
                          unfold ptr at KX
                          clear f1 f2 hsu hS2
                          go_upto_region 46 with (go_at_call 18; go_loud (refine KX.out.mono ?_; rintro e wd ⟨rfl, g, gk⟩; have RD := Lib.hid g; have FD := Lib.hid (FRZ.out.kp gk); have F8D := Lib.hid (FRZ.out.kp gk); clear g gk))
                          have KD := Lib.hid (DownB RD.out)
                          rw [F1'.out.down] at KD
                          have KL := Lib.hid (LooseB RD.out)
                          rw [HLO.out] at KL
                          rw [show ((([] : List Ch).length : Nat) : Int) = 0 from rfl] at KL
                          have KS := Lib.hid (SureB RD.out (by omega))
                          unfold SuPost at KS
                          rw [HSU2.out] at KS
                          have HLE := Lib.hid FD.out.len
                          rw [HLE.out] at KS
                          unfold ptr at KD KL KS
                          have KE := Lib.hid (fun (wx : World) (B1 : Option Addr) (k1 : Nat) (hb : Below wd.heap.size wd wx) (hf : FilesT wx B1 n8 SU) => same_files (c1 := k1) (c2 := c8) hf (FD.out.kp (Kp.below hb (Nat.le_refl _))) (by have := HN8.out; omega))
                          rw [show decide (SU = SU) = true from decide_eq_true rfl] at KE
                          go_wp2_with (first
                            | (go_at_call 29; go_loud (refine KD.out.mono ?_; rintro e wx ⟨rfl, rfl⟩))
                            | (go_at_call 28; go_loud (refine KL.out.mono ?_; rintro e wx ⟨rfl, rfl⟩))
                            | (go_at_call 31; go_loud (refine KS.out.mono ?_; rintro e wx ⟨Ab, cb, rfl, _, hfa, hba⟩; have FE := Lib.hid hfa; have BE := Lib.hid hba; clear hfa hba))
                            | (go_at_call 32; go_loud (refine (KE.out _ _ _ BE.out FE.out).mono ?_; rintro e wy ⟨rfl, hbb⟩; have BF := Lib.hid (BE.out.trans (hbb.mono BE.out.size)); clear hbb)))
                          go_roundw
                          case measure => simp [intOf]; omega
                          case rel => exact ⟨p + 1, S2, by omega, by go_num, Lib.hid ((RD.out.below BF.out).mono (by have := HK0.out; omega)), F1', Lib.hid (fun _ => HSU2.out), Lib.hid (F8D.out.kp (Kp.below BF.out (Nat.le_refl _)))⟩
                        | false =>
                          have KX := Lib.hid (CrashK (dc := 100) RZ.out (by omega) (ones_at HR0.out) (Nat.le_refl _) (by omega))
                          obtain ⟨f1, f2⟩ := NF.cr s ones
                          have hsu : (crS s ones).sure = s.files := sure_all HF.out (by omega)
                          obtain ⟨S2, hS2⟩ : ∃ S2, S2 = crS s ones := ⟨_, rfl⟩
                          rw [← hS2] at KX f1 f2 hsu
                          have F1' := Lib.hid f1
                          have HSU2 := Lib.hid hsu
                          have HLO := Lib.hid f2
                          unfold ptr at KX
                          clear f1 f2 hsu hS2
                          go_upto_region 46 with (go_at_call 18; go_loud (refine KX.out.mono ?_; rintro e wd ⟨rfl, g, gk⟩; have RD := Lib.hid g; have FD := Lib.hid (F9Z.out.kp gk); have F8D := Lib.hid (FRZ.out.kp gk); clear g gk))
                          have KD := Lib.hid (DownB RD.out)
                          rw [F1'.out.down] at KD
                          have KL := Lib.hid (LooseB RD.out)
                          rw [HLO.out] at KL
                          rw [show ((([] : List Ch).length : Nat) : Int) = 0 from rfl] at KL
                          have KS := Lib.hid (SureB RD.out (by omega))
                          unfold SuPost at KS
                          rw [HSU2.out] at KS
                          have HLE := Lib.hid FD.out.len
                          rw [HLE.out] at KS
                          unfold ptr at KD KL KS
                          have KE := Lib.hid (fun (wx : World) (B1 : Option Addr) (k1 : Nat) (hb : Below wd.heap.size wd wx) (hf : FilesT wx B1 q s.files) => same_files (c1 := k1) (c2 := k9) hf (FD.out.kp (Kp.below hb (Nat.le_refl _))) (by have := HN8.out; omega))
                          rw [show decide (s.files = s.files) = true from decide_eq_true rfl] at KE
                          go_wp2_with (first
                            | (go_at_call 29; go_loud (refine KD.out.mono ?_; rintro e wx ⟨rfl, rfl⟩))
                            | (go_at_call 28; go_loud (refine KL.out.mono ?_; rintro e wx ⟨rfl, rfl⟩))
                            | (go_at_call 31; go_loud (refine KS.out.mono ?_; rintro e wx ⟨Ab, cb, rfl, _, hfa, hba⟩; have FE := Lib.hid hfa; have BE := Lib.hid hba; clear hfa hba))
                            | (go_at_call 32; go_loud (refine (KE.out _ _ _ BE.out FE.out).mono ?_; rintro e wy ⟨rfl, hbb⟩; have BF := Lib.hid (BE.out.trans (hbb.mono BE.out.size)); clear hbb)))
                          go_roundw
                          case measure => simp [intOf]; omega
                          case rel => exact ⟨p + 1, S2, by omega, by go_num, Lib.hid ((RD.out.below BF.out).mono (by have := HK0.out; omega)), F1', Lib.hid (fun h => absurd h (by have := of_decide_eq_false HBP.out.symm; omega)), Lib.hid (F8D.out.kp (Kp.below BF.out (Nat.le_refl _)))⟩
          · obtain rfl : p = 2 := by omega
            have KA := Lib.hid (awake wr)
            go_wp2_with (go_at_call 9; go_loud (refine KA.out.mono ?_; rintro e w3 ⟨rfl, hb⟩))
            go_ret
            exact ⟨rfl, HR.out.bel.trans (hb.mono HR.out.bel.size)⟩
end Go.Proofs.Ytefgcckdlebfaaa.RkKe
