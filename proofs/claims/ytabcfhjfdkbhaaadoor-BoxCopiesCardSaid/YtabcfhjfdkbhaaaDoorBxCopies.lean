/-
  BoxCopies: a copy is the same; the copy may be spoilt, the box is not.
-/
import Derived.Test.YtabcfhjfdkbhaaaDoorBxAw
import Derived.Test.YtabcfhjfdkbhaaaDoorBxH
import Derived.Test.YtabcfhjfdkbhaaaDoorBxX
import Derived.Test.YtabcfhjfdkbhaaaDoorBxV
import Derived.Test.YtabcfhjfdkbhaaaDoorBxCp
import Derived.Test.YtabcfhjfdkbhaaaDoorBxCq
import Derived.Test.YtabcfhjfdkbhaaaDoorBxCs
import Derived.Deep.RegionHeld3
namespace Go.Proofs.YtabcfhjfdkbhaaaDoor.BxCopies
open Go.RowKit Go.Proofs.YtabcfhjfdkbhaaaDoor.BxD Go.Proofs.YtabcfhjfdkbhaaaDoor.BxKit Go.Proofs.YtabcfhjfdkbhaaaDoor.BxA Go.Proofs.YtabcfhjfdkbhaaaDoor.BxX Go.Proofs.YtabcfhjfdkbhaaaDoor.BxS Go.Proofs.YtabcfhjfdkbhaaaDoor.BxV Go.Proofs.YtabcfhjfdkbhaaaDoor.BxO Go.Proofs.YtabcfhjfdkbhaaaDoor.BxR Go.Proofs.YtabcfhjfdkbhaaaDoor.BxH Go.Proofs.YtabcfhjfdkbhaaaDoor.BxAw Go.Proofs.YtabcfhjfdkbhaaaDoor.BxC Go.Proofs.YtabcfhjfdkbhaaaDoor.BxCp Go.Proofs.YtabcfhjfdkbhaaaDoor.BxCq Go.Proofs.YtabcfhjfdkbhaaaDoor.BxCs

set_option maxHeartbeats 4000000 in
set_option maxRecDepth 100000 in
theorem walk {bid : ByteArray} {bv bn bh x : Int} {WA MA : Option Addr} {wn wcp mn mcp : Nat} {ws : List ByteArray} {ms : List Msg} {w : World} (ht : Tab w)
    (h1 : StrsAt w w.heap.size WA wn ws) (h2 : MsgsAt w w.heap.size MA mn ms) (z1 : bid.size ≤ 140737488355328) :
    Calls Tryd.prog 4 #[.agg #[.string bid, .int .i64 bv, .int .i64 bn, .int .i64 bh, .slice WA wn wcp, .slice MA mn mcp], .int .i64 x] w fun e w' => e = .returned (.bool true) ∧ Below w.heap.size w w' := by
  have KH := fun o => heavy_any (bid := bid) (bv := bv) (bn := bn) (bh := bh) (wc := wcp) (mc := mcp) (StrsAt.below h1 ((Below.refl _ w).alloc (Nat.le_refl _) o) (Nat.le_refl _)) (MsgsAt.below h2 ((Below.refl _ w).alloc (Nat.le_refl _) o) (Nat.le_refl _)) (by simp) (by simp) z1
  have HAW := Lib.hid (fun (wr : World) (h : Below w.heap.size w wr) => awake (ht.below h (Nat.le_refl _)))
  have HS := Lib.hid (After.start w (.cells #[.string bid, .int .i64 bv, .int .i64 bn, .int .i64 bh, .slice WA wn wcp, .slice MA mn mcp] 25))
  have HX := Lib.hid h1
  have HM := Lib.hid h2
  clear h1 h2 ht
  rcases hv_or bid ws ms with hh | ⟨hh, hw1, hm1, hk1⟩
  · simp only [hh] at KH
    have K1 := Lib.hid KH
    clear KH hh
    go_enter Tryd.func4, Tryd.ntmps4
    go_wp2_with fail
    refine (K1.out _).mono ?_
    rintro e w1 ⟨rfl, hb1⟩
    have HB := Lib.hid (HS.out.go hb1).below
    clear hb1
    go_wp2_with (go_at_call 10; refine (HAW.out _ HB.out).mono ?_; rintro e w2 ⟨rfl, hb2⟩)
    go_ret
    exact ⟨rfl, HB.out.trans (hb2.mono HB.out.size)⟩
  simp only [hh] at KH
  have K1 := Lib.hid KH
  clear KH hh
  rw [HX.out.len] at hw1
  rw [HM.out.len] at hm1
  have HK1 := Lib.hid hk1
  clear hk1
  go_enter Tryd.func4, Tryd.ntmps4
  go_wp2_with fail
  refine (K1.out _).mono ?_
  rintro e w1 ⟨rfl, hb1⟩
  have HB := Lib.hid (HS.out.go hb1)
  clear hb1 HS K1
  obtain ⟨b0, b1, b2, b3, b4, b5⟩ := HB.out.box
  go_upto_region 3 with fail
  have hcp := fun (wr : World) (h : After w (.cells #[.string bid, .int .i64 bv, .int .i64 bn, .int .i64 bh, .slice WA wn wcp, .slice MA mn mcp] 25) wr) => copy_any (bid := bid) (bv := bv) (bn := bn) (bh := bh) (wc := wcp) (mcp := mcp) (StrsAt.below HX.out h.below (Nat.le_refl _)) (MsgsAt.below HM.out h.below (Nat.le_refl _)) h.below.size hw1 hm1 HK1.out
  have hcq := fun (wr : World) (h : After w (.cells #[.string bid, .int .i64 bv, .int .i64 bn, .int .i64 bh, .slice WA wn wcp, .slice MA mn mcp] 25) wr) => copyBox_any (bid := bid) (bv := bv) (bn := bn) (bh := bh) (wc := wcp) (mcp := mcp) (StrsAt.below HX.out h.below (Nat.le_refl _)) (MsgsAt.below HM.out h.below (Nat.le_refl _)) h.below.size hw1 hm1 HK1.out
  have KC := Lib.hid hcp
  have KD := Lib.hid hcq
  clear hcp hcq
  have hs1 := HB.out.size
  go_cut [5, 6] (fun s5 s6 wx => ∃ (P5 P6 : Nat) (A1 : Option Addr) (k1 : Nat) (A2 : Option Addr) (k2 : Nat) (A3 : Option Addr) (k3 : Nat) (A4 : Option Addr) (k4 : Nat) (rs rs' : List Raw), s5 = .pointer (some { block := P5, off := 0 }) ∧ s6 = .pointer (some { block := P6, off := 0 }) ∧ Hid (∃ s0 s1, St bid bv bn bh wn mn ws ms w wx (.cells #[.string bid, .int .i64 bv, .int .i64 bn, .int .i64 bh, .slice WA wn wcp, .slice MA mn mcp] 25) P5 P6 s0 s1 (.slice A1 wn k1) (.slice A2 mn k2) (.slice A3 wn k3) (.slice A4 mn k4) rs rs'))
  case first =>
    go_region_held3 (fun wr => wr.cell? { block := w.heap.size, off := 0 } = some (.string bid) ∧ wr.cell? { block := w.heap.size, off := 1 } = some (.int .i64 bv) ∧ wr.cell? { block := w.heap.size, off := 2 } = some (.int .i64 bn) ∧ wr.cell? { block := w.heap.size, off := 3 } = some (.int .i64 bh) ∧ wr.cell? { block := w.heap.size, off := 4 } = some (.slice WA wn wcp) ∧ wr.cell? { block := w.heap.size, off := 5 } = some (.slice MA mn mcp))
      (first | (refine After.box (t := 25) ?_; (repeat' with_reducible first | exact HB.out | exact H3.out | exact H4.out | refine After.drew ?_ | refine After.alloc ?_ _ | refine After.set ?_ ?_ _ | omega); done) | go_keep)
      (first
        | (go_at_call 27
           ((with_reducible refine (KC.out _ ?c1).mono ?_); rotate_left)
           case c1 => (repeat' with_reducible first | exact HB.out | exact H3.out | exact H4.out | refine After.drew ?_ | refine After.alloc ?_ _ | refine After.set ?_ ?_ _ | omega)
           rintro e w3 ⟨v1, v2, rs, rfl, bC, owC, omC, rmC, koC⟩
           obtain ⟨A1, k1, rfl, hk1⟩ := own_slice owC
           obtain ⟨A2, k2, rfl, hk2⟩ := own_slice omC
           have H3 := Lib.hid (show After w (.cells #[.string bid, .int .i64 bv, .int .i64 bn, .int .i64 bh, .slice WA wn wcp, .slice MA mn mcp] 25) w3 by (refine After.go ?_ bC); (repeat' with_reducible first | exact HB.out | exact H3.out | exact H4.out | refine After.drew ?_ | refine After.alloc ?_ _ | refine After.set ?_ ?_ _ | omega))
           have hs3 := H3.out.size
           have hx3 := bC.size
           try simp at hx3
           have BC := Lib.hid bC
           have OWC := Lib.hid owC
           have OMC := Lib.hid omC
           have RMC := Lib.hid rmC
           have KOC := Lib.hid koC
           try (with_reducible have Z1 := Lib.hid (HZ.go (HZ.drew (HZ.new w1)) bC))
           try (with_reducible have Z1 := Lib.hid (HZ.go (HZ.drew (HZ.alloc (HZ.new w1) _)) bC))
           try ((with_reducible have hz2 := HZ.go (HZ.drew (HZ.new (w1.alloc _))) bC); have Z2 := Lib.hid (show HZ w3 (w1.heap.size + 1) from by simpa using hz2); clear hz2)
           clear bC owC omC rmC koC
           dsimp only)
        | (go_at_call 28
           ((with_reducible refine (KD.out _ ?c2).mono ?_); rotate_left)
           case c2 => (repeat' with_reducible first | exact HB.out | exact H3.out | exact H4.out | refine After.drew ?_ | refine After.alloc ?_ _ | refine After.set ?_ ?_ _ | omega)
           rintro e w4 ⟨v3, v4, rs', rfl, bD, owD, omD, rmD, koD⟩
           obtain ⟨A3, k3, rfl, hk3⟩ := own_slice owD
           obtain ⟨A4, k4, rfl, hk4⟩ := own_slice omD
           have H4 := Lib.hid (show After w (.cells #[.string bid, .int .i64 bv, .int .i64 bn, .int .i64 bh, .slice WA wn wcp, .slice MA mn mcp] 25) w4 by (refine After.go ?_ bD); (repeat' with_reducible first | exact HB.out | exact H3.out | exact H4.out | refine After.drew ?_ | refine After.alloc ?_ _ | refine After.set ?_ ?_ _ | omega))
           have hs4 := H4.out.size
           have hx4 := bD.size
           try simp at hx4
           have BD := Lib.hid bD
           have OWD := Lib.hid owD
           have OMD := Lib.hid omD
           have RMD := Lib.hid rmD
           have KOD := Lib.hid koD
           try (with_reducible have Y1 := Lib.hid (HZ.go Z1.out bD))
           try (with_reducible have Y1 := Lib.hid (HZ.go (HZ.alloc Z1.out _) bD))
           try (with_reducible have Y2 := Lib.hid (HZ.go Z2.out bD))
           try (with_reducible have Y3 := Lib.hid (HZ.go (HZ.new w3) bD))
           try (with_reducible have Y3 := Lib.hid (HZ.go (HZ.alloc (HZ.new w3) _) bD))
           try ((with_reducible have hz4 := HZ.go (HZ.new (w3.alloc _)) bD); have Y4 := Lib.hid (show HZ w4 (w3.heap.size + 1) from by simpa using hz4); clear hz4)
           try obtain ⟨e0, e1, e2, e3, e4, e5, f0, f1, f2, f3, f4, f5⟩ := Y1.out.facts
           try obtain ⟨g0, g1, g2, g3, g4, g5, h0, h1, h2, h3, h4, h5⟩ := Y2.out.facts
           try obtain ⟨i0, i1, i2, i3, i4, i5, j0, j1, j2, j3, j4, j5⟩ := Y3.out.facts
           try obtain ⟨l0, l1, l2, l3, l4, l5, n0, n1, n2, n3, n4, n5⟩ := Y4.out.facts
           try have t1 := Y1.out.lt
           try have t2 := Y2.out.lt
           try have t3 := Y3.out.lt
           try have t4 := Y4.out.lt
           clear bD owD omD rmD koD
           dsimp only))
    all_goals
      go_wp2_with fail
      go_meet
      refine ⟨_, _, A1, k1, A2, k2, A3, k3, A4, k4, rs, rs', rfl, rfl, ?_⟩
      refine Lib.hid ⟨_, _, St.build ?ax BC.out OWC.out OMC.out RMC.out KOC.out ?bm BD.out OWD.out OMD.out RMD.out KOD.out ?hf ?q5 ?q6 ?n5 ?n6 ?m5 ?m6⟩
      case ax => (repeat' with_reducible first | exact HB.out | exact H3.out | exact H4.out | refine After.drew ?_ | refine After.alloc ?_ _ | refine After.set ?_ ?_ _ | omega)
      case bm => with_reducible first | exact Below.refl _ _ | exact (Below.refl _ _).alloc (Nat.le_refl _) _ | exact ((Below.refl _ _).alloc (Nat.le_refl _) _).alloc (by simp) _
      case hf => with_reducible first | exact fin_aa | exact fin_aa' | exact fin_ca Y1.out | exact fin_ca Y2.out | exact fin_ca Y3.out | exact fin_ca Y4.out | exact fin_ac Y1.out | exact fin_ac Y2.out | exact fin_ac Y3.out | exact fin_ac Y4.out | exact fin_cc Y1.out Y2.out (by omega) | exact fin_cc Y1.out Y3.out (by omega) | exact fin_cc Y1.out Y4.out (by omega) | exact fin_cc Y2.out Y1.out (by omega) | exact fin_cc Y2.out Y3.out (by omega) | exact fin_cc Y2.out Y4.out (by omega) | exact fin_cc Y3.out Y1.out (by omega) | exact fin_cc Y3.out Y2.out (by omega) | exact fin_cc Y3.out Y4.out (by omega) | exact fin_cc Y4.out Y1.out (by omega) | exact fin_cc Y4.out Y2.out (by omega) | exact fin_cc Y4.out Y3.out (by omega)
      case q5 => (first | omega | (simp only [World.size_alloc, World.size_drew]; omega) | (simp; omega))
      case q6 => (first | omega | (simp only [World.size_alloc, World.size_drew]; omega) | (simp; omega))
      case n5 => (first | omega | (simp only [World.size_alloc, World.size_drew]; omega) | (simp; omega))
      case n6 => (first | omega | (simp only [World.size_alloc, World.size_drew]; omega) | (simp; omega))
      case m5 => (first | omega | (simp only [World.size_alloc]; omega) | (simp; omega))
      case m6 => (first | omega | (simp only [World.size_alloc]; omega) | (simp; omega))
  case rest =>
    obtain ⟨P5, P6, A1, k1, A2, k2, A3, k3, A4, k4, rs, rs', rfl, rfl, HC⟩ := hcut
    obtain ⟨s0, s1, hst⟩ := HC.out
    have HST := Lib.hid hst
    clear hst HC b0 b1 b2 b3 b4 b5 KC KD
    obtain ⟨b0, b1, b2, b3, b4, b5⟩ := HST.out.aft.box
    obtain ⟨p0, p1, p2, p3, p4, p5⟩ := box_cells HST.out.p5
    have hz := msgs_size HM.out
    have HZ1 := Lib.hid hz
    have hc1 := strsAt_own HST.out.ow (by omega) (strs_size HX.out)
    have hc2 := msgsAt_own HST.out.om (by omega) (keysOk_of HST.out.ko HST.out.rm hz HK1.out)
    rw [HST.out.rm] at hc2
    have heq := eqX_eq (a := ⟨bid, bv, bn, bh, ws, ms⟩) (b := ⟨bid, bv, bn, bh, ws, ms⟩) rfl
    have hsm := refSame_any (bid := bid) (bid' := bid) (bv := bv) (bv' := bv) (bn := bn) (bn' := bn) (bh := bh) (bh' := bh) (wc := k1) (wc' := wcp) (mc := k2) (mc' := mcp) hc1 hc2 (StrsAt.below HX.out HST.out.aft.below (Nat.le_refl _)) (MsgsAt.below HM.out HST.out.aft.below (Nat.le_refl _)) (Nat.le_refl _) (Nat.le_refl _) HST.out.aft.below.size HST.out.aft.below.size
    rw [heq] at hsm
    have KS := Lib.hid hsm
    have HEQ := Lib.hid heq
    clear hsm hc1 hc2 hz heq
    go_wp2_with fail
    refine KS.out.mono ?_
    rintro e w5 ⟨rfl, hb5⟩
    have HI := Lib.hid ((HST.out.sx HK1.out).go hb5)
    clear hb5 KS HST b0 b1 b2 b3 b4 b5 p0 p1 p2 p3 p4 p5
    obtain ⟨p4, p5⟩ := HI.out.boxes
    go_wp2_with fail
    go_loopw [25] (fun s25 wr => ∃ k : Nat, k ≤ wn ∧ s25 = .int .i64 k ∧ Hid (Sx bid bv bn bh wn mn ws ms w wr (.cells #[.string bid, .int .i64 bv, .int .i64 bn, .int .i64 bh, .slice WA wn wcp, .slice MA mn mcp] 25) P5 P6 s0 s1 (.slice A1 wn k1) (.slice A2 mn k2) (.slice A3 wn k3) (.slice A4 mn k4) rs')) (fun s25 _ => wn - (intOf s25).toNat)
    case atStart => exact ⟨0, Nat.zero_le _, rfl, HI⟩
    case round =>
      clear HI p4 p5
      obtain ⟨k, hk, rfl, HI⟩ := hrel
      obtain ⟨p4, p5⟩ := HI.out.boxes
      by_cases hlt : k < wn
      · obtain ⟨xs, hxs⟩ := HI.out.ow
        obtain ⟨g, cap, hA, h0, _⟩ := own_form hxs (by omega)
        injection hA with hA1 hA2 hA3
        subst hA1 hA3
        have hlen := hxs.1
        have hu := own_cell hxs rfl (List.getElem?_eq_getElem (l := xs) (i := k) (by omega))
        have hfr := own_free hxs (g := g) rfl k
        have HN := Lib.hid (HI.out.set (j := k) h0 (HI.out.lw g rfl) (fun e => absurd e (own_ne (Exists.choose_spec HI.out.om).1 hxs rfl (by decide))) (.string ⟨#[115, 112, 111, 105, 108, 116]⟩))
        generalize xs[k] = u at hu
        clear hxs hlen h0
        go_wp2_with fail
        go_roundw
        case rel => exact ⟨k + 1, by omega, by go_num, HN⟩
        case measure => simp [intOf]; omega
      · obtain rfl : wn = k := by omega
        go_wp2_with fail
        go_loopw [36] (fun s36 wr => ∃ i : Nat, i ≤ mn ∧ s36 = .int .i64 i ∧ Hid (Sx bid bv bn bh wn mn ws ms w wr (.cells #[.string bid, .int .i64 bv, .int .i64 bn, .int .i64 bh, .slice WA wn wcp, .slice MA mn mcp] 25) P5 P6 s0 s1 (.slice A1 wn k1) (.slice A2 mn k2) (.slice A3 wn k3) (.slice A4 mn k4) rs')) (fun s36 _ => mn - (intOf s36).toNat)
        case atStart => exact ⟨0, Nat.zero_le _, rfl, HI⟩
        case round =>
          clear HI p4 p5
          obtain ⟨i, hi, rfl, HI⟩ := hrel
          obtain ⟨p4, p5⟩ := HI.out.boxes
          by_cases hlt2 : i < mn
          · obtain ⟨cs, hcs, hko⟩ := HI.out.om
            obtain ⟨g, cap, hA, h0, _⟩ := own_form hcs (by omega)
            injection hA with hA1 hA2 hA3
            subst hA1 hA3
            obtain ⟨K, n, c, e5, hn6, _⟩ := hko i hlt2
            have q5 := own_cell hcs (g := g) rfl e5
            clear hcs hko h0 e5
            go_wp2_with fail
            go_loopw [46] (fun s46 wr => ∃ j : Nat, j ≤ n ∧ s46 = .int .i64 j ∧ Hid (Sx bid bv bn bh wn mn ws ms w wr (.cells #[.string bid, .int .i64 bv, .int .i64 bn, .int .i64 bh, .slice WA wn wcp, .slice MA mn mcp] 25) P5 P6 s0 s1 (.slice A1 wn k1) (.slice (some { block := g, off := 0 }) mn k2) (.slice A3 wn k3) (.slice A4 mn k4) rs') ∧ Hid (wr.cell? { block := g, off := i * 7 + 5 } = some (.slice K n c))) (fun s46 _ => n - (intOf s46).toNat)
            case atStart => exact ⟨0, Nat.zero_le _, rfl, HI, q5⟩
            case round =>
              clear HI p4 p5 q5
              obtain ⟨j, hj, rfl, HI, HQ⟩ := hrel
              obtain ⟨p4, p5⟩ := HI.out.boxes
              have q5 := HQ.out
              by_cases hlt3 : j < n
              · obtain ⟨cs, hcs, hko⟩ := HI.out.om
                obtain ⟨K', n', c', e5, _, ⟨ys, hys⟩, hne, hks⟩ := hko i hlt2
                have e6 := own_cell hcs (g := g) rfl e5
                rw [q5] at e6
                injection e6 with e6
                injection e6 with e61 e62 e63
                subst e61 e62 e63
                obtain ⟨h, cap3, hK, h0, _⟩ := own_form hys (by omega)
                injection hK with hK1 hK2 hK3
                subst hK1 hK3
                have hhg : g ≠ h := fun e => by
                  rcases hne with hne | hne
                  · cases hne
                  · exact hne (by rw [e]; rfl)
                have hlen := hys.1
                have hu := own_cell hys (g := h) rfl (List.getElem?_eq_getElem (l := ys) (i := j) (by omega))
                have hfr := own_free hys (g := h) rfl j
                have HN := Lib.hid (HI.out.set (j := j) h0 (hks h rfl) (fun e => absurd (Option.some.inj e) hhg) (.int .i64 x))
                have HQ2 := Lib.hid (show (wr.setCell { block := h, off := j } (.int .i64 x)).cell? { block := g, off := i * 7 + 5 } = _ from (World.cell?_of_block (w := wr) (a := { block := g, off := i * 7 + 5 }) (Below.heap_setCell _ _ _ _ (by show g ≠ h; exact hhg))).trans q5)
                generalize ys[j] = u at hu
                clear hys hlen h0 hne hks hcs hko e5 hhg
                go_wp2_with fail
                go_roundw
                case rel => exact ⟨j + 1, by omega, by go_num, HN, HQ2⟩
                case measure => simp [intOf]; omega
              · obtain rfl : n = j := by omega
                obtain ⟨cs, hcs, hko⟩ := HI.out.om
                have hlen := hcs.1
                have hu := own_cell hcs (g := g) rfl (List.getElem?_eq_getElem (l := cs) (i := i * 7) (by omega))
                have hfr := own_free hcs (g := g) rfl (i * 7)
                have HN := Lib.hid (HI.out.set (j := i * 7) (hcs.lt g rfl).1 (HI.out.lm g rfl) (fun _ => by omega) (.int .i64 x))
                generalize cs[i * 7] = u at hu
                clear hcs hko hlen
                go_wp2_with fail
                go_roundw
                case rel => exact ⟨i + 1, by omega, by go_num, HN⟩
                case measure => simp [intOf]; omega
          · obtain rfl : mn = i := by omega
            obtain ⟨b0, b1, b2, b3, b4, b5⟩ := HI.out.aft.box
            obtain ⟨d0, d1, d2, d3, d4, d5⟩ := box_cells HI.out.p6
            have hc1 := strsAt_own HI.out.ow' (by omega) (strs_size HX.out)
            have hc2 := msgsAt_own HI.out.om' (by omega) (keysOk_of HI.out.ko' HI.out.rm' HZ1.out HK1.out)
            rw [HI.out.rm'] at hc2
            have hsm := refSame_any (bid := bid) (bid' := bid) (bv := bv) (bv' := bv) (bn := bn) (bn' := bn) (bh := bh) (bh' := bh) (wc := wcp) (wc' := k3) (mc := mcp) (mc' := k4) (StrsAt.below HX.out HI.out.aft.below (Nat.le_refl _)) (MsgsAt.below HM.out HI.out.aft.below (Nat.le_refl _)) hc1 hc2 HI.out.aft.below.size HI.out.aft.below.size (Nat.le_refl _) (Nat.le_refl _)
            rw [HEQ.out] at hsm
            have KS := Lib.hid hsm
            clear hsm hc1 hc2
            go_wp2_with (first
              | (go_at_call 16; refine KS.out.mono ?_; rintro e w6 ⟨rfl, hb6⟩; have HB6 := Lib.hid (HI.out.aft.go hb6).below; clear hb6)
              | (go_at_call 10; refine (HAW.out _ HB6.out).mono ?_; rintro e w7 ⟨rfl, hb7⟩))
            go_ret
            exact ⟨rfl, HB6.out.trans (hb7.mono HB6.out.size)⟩
end Go.Proofs.YtabcfhjfdkbhaaaDoor.BxCopies
