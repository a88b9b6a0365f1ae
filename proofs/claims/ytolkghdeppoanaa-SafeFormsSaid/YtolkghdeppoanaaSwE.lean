/-
  The document's bytes of changes.
-/
import Derived.Test.YtolkghdeppoanaaSwL
import Derived.Test.YtolkghdeppoanaaPkR
import Derived.Test.YtolkghdeppoanaaSfF
import Derived.Deep.RegionHeld3
set_option linter.unusedVariables false
set_option linter.unusedSimpArgs false
namespace Go.Proofs.Ytolkghdeppoanaa.SwE
open Go.RowKit Go.Proofs.Ytolkghdeppoanaa.PkA Go.Proofs.Ytolkghdeppoanaa.PkB Go.Proofs.Ytolkghdeppoanaa.PkC Go.Proofs.Ytolkghdeppoanaa.PkR Go.Proofs.Ytolkghdeppoanaa.PkKit Go.Proofs.Ytolkghdeppoanaa.BxD Go.Proofs.Ytolkghdeppoanaa.BxKit Go.Proofs.Ytolkghdeppoanaa.RkO Go.Proofs.Ytolkghdeppoanaa.RkC Go.Proofs.Ytolkghdeppoanaa.RkD Go.Proofs.Ytolkghdeppoanaa.RkR Go.Proofs.Ytolkghdeppoanaa.RkK Go.Proofs.Ytolkghdeppoanaa.RkP Go.Proofs.Ytolkghdeppoanaa.SfB Go.Proofs.Ytolkghdeppoanaa.SfC Go.Proofs.Ytolkghdeppoanaa.SfE

/-- A row of bytes of the call's own comes back. -/
def Pt (base : Nat) (w : World) (v : Value) (l : List UInt8) (e : Ending) (w' : World) : Prop := ∃ v', e = .returned v' ∧ w'.ownsRow base 5 1 v' l.length (by_ l) ∧ w.grownBy w' v.ownBlock
theorem own_len {w : World} {base n : Nat} {v : Value} {l : List UInt8} (h : w.ownsRow base 5 1 v n (by_ l)) : n = l.length := by
  have := h.1
  rw [by_length] at this
  omega
set_option maxRecDepth 100000 in
theorem putN_b {w : World} {base n : Nat} {v : Value} {l : List UInt8} (hO : w.ownsRow base 5 1 v n (by_ l)) (hb : base ≤ w.heap.size) (x : Int) (hn : n ≤ 1099511627776) :
    Calls Try.prog 37 #[v, .int .i64 x] w fun e w' => ∃ v', e = .returned v' ∧ w'.ownsRow base 5 1 v' (l ++ Lib.uvarint (cl x)).length (by_ (l ++ Lib.uvarint (cl x))) ∧ w.grownBy w' v.ownBlock ∧ ∀ k, v'.ownBlock = some k → v.ownBlock = some k ∨ w.heap.size ≤ k :=
  (putNumber_G (OG.start hO) x (by omega)).mono fun e w' ⟨v', he, h⟩ => by
    have hl := h.len
    rw [← hl] at h
    refine ⟨v', he, ?_, h.fr, h.at_⟩
    refine SfF.own_up h.own fun g hg => ?_
    rcases h.at_ g hg with h1 | h1
    · exact (hO.lt g h1).1
    · omega
set_option maxRecDepth 100000 in
theorem putT_b {w : World} {base n : Nat} {v : Value} {l : List UInt8} (hO : w.ownsRow base 5 1 v n (by_ l)) (hb : base ≤ w.heap.size) (s : ByteArray) (hs : s.size ≤ 1099511627776) (hn : n ≤ 1099511627776) :
    Calls Try.prog 36 #[v, .string s] w (Pt base w v (l ++ tx s)) := by
  have P := putN_b hO hb s.size (by omega)
  rw [cl_nat hs] at P
  obtain ⟨i0, hi, hz0, hz1, hz2⟩ := info_parts info5
  have HP := Lib.hid P
  have HI := Lib.hid hi
  have HI0 := Lib.hid hz0
  have HI1 := Lib.hid hz1
  have HI2 := Lib.hid hz2
  have hlen := uv_len hs
  have HN := Lib.hid (own_len hO)
  have hlt := Lib.hid hO.lt
  clear P hi hz0 hz1 hz2 hO
  go_enter Try.func36, Try.ntmps36
  go_wp2_with fail
  refine HP.out.mono ?_
  rintro e w2 ⟨v2, rfl, h1, h2, h4⟩
  have AT := Lib.hid h4
  have O2 := Lib.hid h1
  have G2 := Lib.hid h2
  have hb2 := Nat.le_trans hb h2.size
  have hl2 : (l ++ Lib.uvarint s.size).length ≤ n + 6 := by rw [List.length_append, ← HN.out]; omega
  clear h1 h2 h4
  go_wp2_with (at_builtin; refine Lib.wpList_append_own_string _ rfl _ _ 23 9 rfl base 5 i0 Try.underlying23 Try.underlying9 HI.out HI0.out HI1.out HI2.out _ _ _ rfl O2.out s rfl (by unfold maxLen; omega) (by omega) hb2 ?_; intro v3 w3 hown3 hg3 hnil3)
  go_ret
  refine ⟨v3, rfl, ?_, ?_⟩
  · have e : (l ++ tx s).length = (l ++ Lib.uvarint s.size).length + s.size := by
      unfold tx
      rw [← List.append_assoc, List.length_append, Array.length_toList]; rfl
    rw [e]
    unfold tx
    rw [← List.append_assoc, by_append, ← strCells_by]
    exact hown3
  · have g := G2.out
    refine ⟨hg3.os.trans g.os, hg3.tape.trans g.tape, hg3.output.trans g.output, Nat.le_trans g.size hg3.size, fun k hk hr => ?_⟩
    refine (hg3.block k (Nat.lt_of_lt_of_le hk g.size) (fun e => ?_)).trans (g.block k hk hr)
    rcases AT.out k e.symm with h1 | h1
    · exact hr h1.symm
    · omega
theorem own_dr {w : World} {base n : Nat} {v : Value} {xs : List Value} (h : w.ownsRow base 5 1 v n xs) : w.drew.ownsRow base 5 1 v n xs := h
theorem own_undr {w w' : World} {r : Option Nat} (h : w.drew.grownBy w' r) : w.grownBy w' r := ⟨h.os, h.tape, h.output, h.size, h.block⟩
theorem own_ne {w : World} {base n P : Nat} {v : Value} {xs l : List Value} (h : w.ownsRow base 5 1 v n xs) (hr : RkO.Row w P 42 l) : v.ownBlock ≠ some P := by
  intro e
  rcases h.2 with ⟨hv, _⟩ | ⟨g, cap, cur, hv, _, hg, _⟩
  · rw [hv] at e; cases e
  · rw [hv] at e
    obtain rfl : g = P := Option.some.inj e
    unfold RkO.Row at hr
    rw [hr] at hg
    injection hg with hg
    injection hg with _ e2
    exact absurd e2 (by decide)
theorem row_grown {w w' : World} {base n P : Nat} {v : Value} {xs l : List Value} (h : w.ownsRow base 5 1 v n xs) (hr : RkO.Row w P 42 l) (hg : w.grownBy w' v.ownBlock) : RkO.Row w' P 42 l :=
  hr.same (hg.block P hr.lt (fun e => own_ne h hr e.symm))
theorem cl0 : cl 0 = 0 := rfl
theorem cl1 : cl 1 = 1 := rfl
/-- The document's bytes. -/
def BdPost (l : List UInt8) (w : World) (e : Ending) (w' : World) : Prop := ∃ v, e = .returned v ∧ w'.ownsRow w.heap.size 5 1 v l.length (by_ l) ∧ Below w.heap.size w w'
set_option maxHeartbeats 8000000 in
set_option maxRecDepth 100000 in
theorem bytes_doc {w : World} {base n cp : Nat} {A : Option Addr} {l : List Ch} (h : ChsP w base 0 0 A n l) (h1 : base ≤ w.heap.size) (hn : n ≤ 1000) (hz : szC l) :
    Calls Try.prog 14 #[.slice A n cp] w (BdPost (bsL l) w) := by
  have HC := Lib.hid h
  have HL := Lib.hid h.1
  have HZ := Lib.hid hz
  clear h hz
  go_enter Try.func14, Try.ntmps14
  go_wp2_with fail
  go_loopw [8, 3] (fun s8 s3 wr => ∃ (k q : Nat) (v : Value), k ≤ n ∧ s8 = .int .i64 k ∧ v = s3 ∧ q ≤ 3000000 * k ∧ Hid (q = (bsL (l.take k)).length) ∧ Hid (wr.ownsRow w.heap.size 5 1 v q (by_ (bsL (l.take k)))) ∧ Hid (Below w.heap.size w wr)) (fun s8 _ _ => n - (intOf s8).toNat)
  case atStart => exact ⟨0, 0, _, Nat.zero_le _, rfl, rfl, Nat.zero_le _, rfl, World.ownsRow_nil _ _ _ _, Below.refl _ _⟩
  case round =>
    obtain ⟨k, q, v, hk, rfl, rfl, hq, HQ, HO, HB⟩ := hrel
    by_cases hlt : k < n
    · have hkb := Kb.below (base := base) (lo := 0) (hi := 0) HB.out h1 (Nat.zero_le _)
      obtain ⟨ad, x, ct, K, kd, kc, rfl, hx, d0, d1, d2, hle, hby, hpb⟩ := HC.out.sp hkb hlt
      have hzc := HZ.out _ (List.mem_of_getElem? hx)
      have hz1 : x.size ≤ 1000000 := hzc.1
      have hz2 : kd.length ≤ 1000000 := hzc.2
      have hsn := bsL_snoc hx
      have hcl := chB_len (c := ⟨x, ct, kd⟩) hzc
      have HSN := Lib.hid hsn
      have HBD := Lib.hid (hby.at_ (Nat.le_trans h1 HB.out.size) (Nat.zero_le _))
      have hBK := Lib.hid (show byP wr base 0 0 K kd.length kd from hby)
      obtain ⟨dl, hdl0⟩ : ∃ dl, dl = kd.length := ⟨_, rfl⟩
      rw [← hdl0] at d2 hBK HBD hz2
      have HDL := Lib.hid hdl0
      have M0 := Lib.hid (show RkO.Row (wr.alloc (.cells #[.string x, .bool ct, .slice K dl kc] 42)) wr.heap.size 42 [.string x, .bool ct, .slice K dl kc] from heap_alloc_new wr _)
      have BA := Lib.hid (below_alloc wr (.cells #[.string x, .bool ct, .slice K dl kc] 42))
      have O7 := Lib.hid (HO.out.kept (BxKit.grown_below BA.out none) (by cases hv : v.ownBlock <;> simp))
      have B7 := Lib.hid (HB.out.trans (BA.out.mono HB.out.size))
      have BD7 := Lib.hid (hBK.out.keep (Kb.below BA.out (Nat.le_trans h1 HB.out.size) (Nat.zero_le _)))
      have HA0 := Lib.hid (show (bsL (l.take k)).length ≤ 3000000000 by rw [← HQ.out]; omega)
      have HA2 := Lib.hid (fun z : Int => show (bsL (l.take k) ++ Lib.uvarint (cl z)).length ≤ 3000000006 by have := uv_len (cl_le z); have := HA0.out; rw [List.length_append]; omega)
      have HA3 := Lib.hid (show (bsL (l.take k) ++ Lib.uvarint (cl 0) ++ tx x).length ≤ 3001000012 by have := HA2.out 0; have := tx_len (s := x) (by omega); rw [List.length_append]; omega)
      obtain ⟨P, hP⟩ : ∃ P, P = wr.heap.size := ⟨_, rfl⟩
      have hki : (k : Int) < (n : Int) := by omega
      have hk0 : (0 : Int) ≤ (k : Int) := by omega
      clear hx hsn hdl0 hzc hby hpb hle hkb
      go_upto_region 5 with fail
      rw [← hP] at M0 ⊢
      clear hP d0 d1 d2 BA
      generalize (World.alloc wr _) = w7 at M0 O7 B7 BD7 ⊢
      have hb7 := B7.out.size
      have m1 := M0.out.cell 1
      have HKC := Lib.hid (fun (wq : World) (hr : RkO.Row wq P 42 [.string x, .bool ct, .slice K dl kc]) (hb : Below w.heap.size w7 wq) => show wq.cell? { block := P, off := 0 } = some (.string x) ∧ wq.cell? { block := P, off := 2 } = some (.slice K dl kc) ∧ (convert 23 9 (.slice K dl kc)).run Try.prog wq = .ok (.string (baL kd)) wq from
        ⟨hr.cell 0, hr.cell 2, PkKit.BytesAt.conv ((BD7.out.keep (Kb.below hb h1 (Nat.zero_le _))).at_ (Nat.le_trans h1 (Nat.le_trans hb7 hb.size)) (Nat.zero_le _)) kc⟩)
      cases ct with
      | true =>
        go_upto_region 6 with fail
        clear m1
        go_region_held3 (fun wq => wq.cell? { block := P, off := 0 } = some (.string x) ∧ wq.cell? { block := P, off := 2 } = some (.slice K dl kc) ∧ (convert 23 9 (.slice K dl kc)).run Try.prog wq = .ok (.string (baL kd)) wq) (first
          | exact HKC.out _ M9.out X9.out
          | exact HKC.out _ M8.out X8.out
          | exact HKC.out _ M0.out (Below.refl _ _)
          | exact HKC.out _ M0.out (Below.drew (Below.refl _ _))) (first
          | (go_at_call 37; go_loud (
             refine (putN_b (own_dr O7.out) hb7 1 (by omega)).mono ?_
             rintro e w8 ⟨v8, rfl, g1, g2, _⟩
             have M8 := Lib.hid (row_grown O7.out M0.out (own_undr g2))
             have X8 := Lib.hid (show Below w.heap.size w7 w8 from Below.grown (Below.refl _ _) (own_undr g2) hb7 (fun k e => (O7.out.lt k e).1))
             have O8 := Lib.hid g1
             clear g1 g2
             dsimp only))
          | (go_at_call 36; go_loud (
             refine (putT_b O8.out (Nat.le_trans hb7 X8.out.size) x (by omega) (Nat.le_trans (HA2.out 1) (by omega))).mono ?_
             rintro e w9 ⟨v9, rfl, g1, g2⟩
             have M9 := Lib.hid (row_grown O8.out M8.out g2)
             have X9 := Lib.hid (Below.grown X8.out g2 (Nat.le_trans hb7 X8.out.size) (fun k e => (O8.out.lt k e).1))
             have O9 := Lib.hid g1
             clear g1 g2
             dsimp only)))
        all_goals
          have HE := Lib.hid (show bsL (l.take k) ++ Lib.uvarint (cl 1) ++ tx x = bsL (l.take (k + 1)) by rw [HSN.out, chB_true, nums_one, List.append_assoc])
          have HO9 := Lib.hid (show w9.ownsRow w.heap.size 5 1 v9 (bsL (l.take (k + 1))).length (by_ (bsL (l.take (k + 1)))) by rw [← HE.out]; exact O9.out)
          have hln : (bsL (l.take (k + 1))).length ≤ 3000000 * (k + 1) := by rw [HSN.out, List.length_append, ← HQ.out]; omega
          obtain ⟨q2, hq2⟩ : ∃ q2, q2 = (bsL (l.take (k + 1))).length := ⟨_, rfl⟩
          rw [← hq2] at hln HO9
          have HQ2 := Lib.hid hq2
          clear hq2
          go_wp2_with fail
          go_roundw
          case measure => simp [intOf]; omega
          case rel => exact ⟨k + 1, q2, v9, by omega, by go_num, rfl, hln, HQ2, HO9, Lib.hid (B7.out.trans X9.out)⟩
      | false =>
        go_upto_region 7 with fail
        clear m1
        go_region_held3 (fun wq => wq.cell? { block := P, off := 0 } = some (.string x) ∧ wq.cell? { block := P, off := 2 } = some (.slice K dl kc) ∧ (convert 23 9 (.slice K dl kc)).run Try.prog wq = .ok (.string (baL kd)) wq) (first
          | exact HKC.out _ M10.out X10.out
          | exact HKC.out _ M9.out X9.out
          | exact HKC.out _ M8.out X8.out
          | exact HKC.out _ M0.out (Below.refl _ _)
          | exact HKC.out _ M0.out (Below.drew (Below.refl _ _))) (first
          | (go_at_call 37; go_loud (
             refine (putN_b (own_dr O7.out) hb7 0 (by omega)).mono ?_
             rintro e w8 ⟨v8, rfl, g1, g2, _⟩
             have M8 := Lib.hid (row_grown O7.out M0.out (own_undr g2))
             have X8 := Lib.hid (show Below w.heap.size w7 w8 from Below.grown (Below.refl _ _) (own_undr g2) hb7 (fun k e => (O7.out.lt k e).1))
             have O8 := Lib.hid g1
             clear g1 g2
             dsimp only))
          | (go_at_call 36; go_loud (
             refine (putT_b O9.out (Nat.le_trans hb7 X9.out.size) _ (by rw [ba_size, ← HDL.out]; omega) (Nat.le_trans HA3.out (by omega))).mono ?_
             rintro e w10 ⟨v10, rfl, g1, g2⟩
             have M10 := Lib.hid (row_grown O9.out M9.out g2)
             have X10 := Lib.hid (Below.grown X9.out g2 (Nat.le_trans hb7 X9.out.size) (fun k e => (O9.out.lt k e).1))
             have O10 := Lib.hid g1
             clear g1 g2
             dsimp only))
          | (go_at_call 36; go_loud (
             refine (putT_b O8.out (Nat.le_trans hb7 X8.out.size) x (by omega) (Nat.le_trans (HA2.out 0) (by omega))).mono ?_
             rintro e w9 ⟨v9, rfl, g1, g2⟩
             have M9 := Lib.hid (row_grown O8.out M8.out g2)
             have X9 := Lib.hid (Below.grown X8.out g2 (Nat.le_trans hb7 X8.out.size) (fun k e => (O8.out.lt k e).1))
             have O9 := Lib.hid g1
             clear g1 g2
             dsimp only)))
        all_goals
          have HE := Lib.hid (show bsL (l.take k) ++ Lib.uvarint (cl 0) ++ tx x ++ tx (baL kd) = bsL (l.take (k + 1)) by rw [HSN.out, chB_false, nums_one, List.append_assoc, List.append_assoc, List.append_assoc])
          have HO9 := Lib.hid (show w10.ownsRow w.heap.size 5 1 v10 (bsL (l.take (k + 1))).length (by_ (bsL (l.take (k + 1)))) by rw [← HE.out]; exact O10.out)
          have hln : (bsL (l.take (k + 1))).length ≤ 3000000 * (k + 1) := by rw [HSN.out, List.length_append, ← HQ.out]; omega
          obtain ⟨q2, hq2⟩ : ∃ q2, q2 = (bsL (l.take (k + 1))).length := ⟨_, rfl⟩
          rw [← hq2] at hln HO9
          have HQ2 := Lib.hid hq2
          clear hq2
          go_wp2_with fail
          go_roundw
          case measure => simp [intOf]; omega
          case rel => exact ⟨k + 1, q2, v10, by omega, by go_num, rfl, hln, HQ2, HO9, Lib.hid (B7.out.trans X10.out)⟩
    · obtain rfl : k = n := by omega
      have HE := Lib.hid (show l.take k = l from List.take_of_length_le (by rw [HL.out]; exact Nat.le_refl _))
      have HO2 := Lib.hid (show wr.ownsRow w.heap.size 5 1 v (bsL l).length (by_ (bsL l)) by have h := HO.out; rw [HQ.out, HE.out] at h; exact h)
      go_wp2_with fail
      go_ret
      exact ⟨v, rfl, HO2.out, HB.out⟩
end Go.Proofs.Ytolkghdeppoanaa.SwE
