/-
  SafeForms: of all changes, all bytes: the form that the document gives.
-/
import Derived.Test.YtolkghdeppoanaaSwL
import Derived.Test.YtolkghdeppoanaaSwS
import Derived.Test.YtolkghdeppoanaaSwA
import Derived.Test.YtolkghdeppoanaaSwE
import Derived.Test.YtolkghdeppoanaaSwG
import Derived.Deep.RegionHeld
set_option linter.unusedVariables false
set_option linter.unusedSimpArgs false
namespace Go.Proofs.Ytolkghdeppoanaa.SwM
open Go.RowKit Go.Proofs.Ytolkghdeppoanaa.PkA Go.Proofs.Ytolkghdeppoanaa.BxD Go.Proofs.Ytolkghdeppoanaa.BxKit Go.Proofs.Ytolkghdeppoanaa.PkKit Go.Proofs.Ytolkghdeppoanaa.RkD Go.Proofs.Ytolkghdeppoanaa.RkR Go.Proofs.Ytolkghdeppoanaa.RkK Go.Proofs.Ytolkghdeppoanaa.RkP Go.Proofs.Ytolkghdeppoanaa.SfM Go.Proofs.Ytolkghdeppoanaa.SfB Go.Proofs.Ytolkghdeppoanaa.SfC Go.Proofs.Ytolkghdeppoanaa.SfE Go.Proofs.Ytolkghdeppoanaa.SfF Go.Proofs.Ytolkghdeppoanaa.SwL Go.Proofs.Ytolkghdeppoanaa.SwS Go.Proofs.Ytolkghdeppoanaa.SwA Go.Proofs.Ytolkghdeppoanaa.SwE Go.Proofs.Ytolkghdeppoanaa.SwG

theorem pa_len : ∀ (k : Nat) (l : List UInt8), (pa k l).1.length ≤ k
  | 0, l => Nat.le_refl _
  | k + 1, l => by
    unfold pa
    split
    · exact Nat.zero_le _
    · split
      · exact Nat.zero_le _
      · split
        · exact Nat.zero_le _
        · have := pa_len k (rdC (l, 0, false)).2.1
          simp only [List.length_cons]; omega
set_option maxHeartbeats 8000000 in
set_option maxRecDepth 100000 in
theorem walk {w : World} {LA MA : Option Addr} {n m lc mc : Nat} {l : List Ch} {b : List UInt8} (hl : Arg w w.heap.size LA n l) (hm : BytesAt w w.heap.size MA m b) (hmn : m ≤ 140737488355328) (hmc : m ≤ mc) :
    Calls Try.prog 3 #[.slice LA n lc, .slice MA m mc] w fun e w' => e = .returned (.bool true) ∧ Below w.heap.size w w' := by
  have HL := Lib.hid hl
  have HM := Lib.hid hm
  have KA := Lib.hid (fun wx => awake wx)
  have KH := Lib.hid (heavy_any (c := lc) hl (Nat.le_refl _))
  unfold HvPost at KH
  clear hl hm
  go_enter Try.func3, Try.ntmps3
  go_upto_region 1 with fail
  go_cut [16] (fun s16 wx => ∃ c : Bool, s16 = .bool c ∧ Hid (c = false → Lt l ∧ m ≤ 3000) ∧ Hid (Below w.heap.size w wx))
  case first =>
    go_wp2_with (go_at_call 9; go_loud (refine KH.out.mono ?_; rintro e w2 ⟨h, rfl, h1, _, h3, hb⟩; have HB := Lib.hid hb; have HT := Lib.hid h3; clear hb h3))
    all_goals
      go_meet
      refine ⟨_, rfl, fun hb => ?_, HB⟩
      first | (cases hb; done) | (simp at hb; exact ⟨HT.out (by omega), by omega⟩)
  case rest =>
    obtain ⟨c, rfl, HLT, HB⟩ := hcut
    clear KH
    cases c with
    | true =>
      go_wp2_with (go_at_call 10; go_loud (refine (KA.out _).mono ?_; rintro e w3 ⟨rfl, hb⟩))
      go_ret
      exact ⟨rfl, HB.out.trans (hb.mono HB.out.size)⟩
    | false =>
      obtain ⟨hlt, hm3⟩ := HLT.out rfl
      have hn : n ≤ 60 := by rw [← HL.out.chs.1]; exact hlt.1
      have SZ := Lib.hid hlt.szC
      have hpl : (parse b).1.length ≤ 3000 := Nat.le_trans (pa_len _ _) (by rw [HM.out.1]; exact hm3)
      have KP := Lib.hid (parse_any (cp := mc) (HM.out.below HB.out (Nat.le_refl _)) HB.out.size (by omega))
      have KQ := Lib.hid (fun (wx : World) (hb : Below w.heap.size w wx) => parse_doc (cp := mc) (HM.out.below hb (Nat.le_refl _)) hb.size hmc (by omega))
      unfold PaPost at KP KQ
      obtain ⟨er, her⟩ : ∃ er, er = (parse b).2 := ⟨_, rfl⟩
      obtain ⟨pl, hplE⟩ : ∃ pl, pl = (parse b).1 := ⟨_, rfl⟩
      rw [← her, ← hplE] at KP KQ
      rw [← hplE] at hpl
      clear hlt HLT her hplE
      go_upto_region 4 with (go_at_call 11; go_loud (
         refine KP.out.mono ?_
         rintro e w1 ⟨A1, m1, c1, rfl, _, h2, h3⟩
         have L1 := Lib.hid h2
         have B1 := Lib.hid (up HB.out (Nat.le_refl _) h3)
         have hm1 := h2.1
         clear h2 h3))
      go_upto_region 5 with (go_at_call 12; go_loud (
         refine (KQ.out _ B1.out).mono ?_
         rintro e w2 ⟨A2, m2, c2, rfl, _, h2, h3⟩
         have L2 := Lib.hid h2
         have L1' := Lib.hid (L1.out.keep (Kb.below h3 (Nat.zero_le _) (Nat.le_refl _)))
         have HS2 := Lib.hid h3.size
         have B2 := Lib.hid (up B1.out (Nat.le_refl _) h3)
         have hm2 := h2.1
         clear h2 h3))
      clear KP KQ
      have KE := Lib.hid (fun (wx : World) (hb : Below w2.heap.size w2 wx) => same_changes (c1 := c1) (c2 := c2) (L1'.out.keep (Kb.below hb (Nat.zero_le _) HS2.out)) (L2.out.keep (Kb.below hb (Nat.zero_le _) (Nat.le_refl _))) (Nat.zero_le _) (Nat.le_trans HS2.out hb.size) (Nat.zero_le _) hb.size (by omega) (by omega))
      rw [show decide (pl = pl) = true from decide_eq_true rfl] at KE
      have KB := Lib.hid (fun (wx : World) (hb : Below w2.heap.size w2 wx) => bytes_any (cp := lc) (HL.out.keep (up B2.out (Nat.le_refl _) hb)).chs (up B2.out (Nat.le_refl _) hb).size (Nat.zero_le _) (by omega) SZ.out)
      have KD := Lib.hid (fun (wx : World) (hb : Below w2.heap.size w2 wx) => bytes_doc (cp := lc) (HL.out.keep (up B2.out (Nat.le_refl _) hb)).chs (up B2.out (Nat.le_refl _) hb).size (by omega) SZ.out)
      unfold BsPost at KB
      unfold BdPost at KD
      obtain ⟨bl, hbl⟩ : ∃ bl, bl = bsL l := ⟨_, rfl⟩
      rw [← hbl] at KB KD
      obtain ⟨X, hX⟩ : ∃ X : ByteArray, X = ⟨bl.toArray⟩ := ⟨_, rfl⟩
      have HX := Lib.hid hX
      have hXX : (X.toList == X.toList) = true := by simp
      have hee : ((er : Int) == (er : Int)) = true := by simp
      clear hbl hX
      go_region_held (fun _ => True) (first | trivial | go_keep) (first
        | (go_at_call 10; go_loud (refine (KA.out _).mono ?_; rintro e w6 ⟨rfl, hb⟩; have X6 := Lib.hid (up X5.out (Nat.le_refl _) hb); clear hb; dsimp only))
        | (go_at_call 15; go_loud (refine (KE.out _ X4.out).mono ?_; rintro e w5 ⟨rfl, hb⟩; have X5 := Lib.hid (up X4.out (Nat.le_refl _) hb); clear hb; dsimp only))
        | (go_at_call 14; go_loud (
           refine (KD.out _ X3.out).mono ?_
           rintro e w4 ⟨v4, rfl, g1, g2⟩
           obtain ⟨A4, c4, rfl, _⟩ := RkR.own_slice g1
           have hcv4 := PkKit.BytesAt.conv (Ow.bytes (.inl g1)) c4
           have hcv34 := PkKit.BytesAt.conv (Y3.out.below g2 (Nat.le_refl _)) c3
           rw [← HX.out] at hcv4 hcv34
           have X4 := Lib.hid (up X3.out (Nat.le_refl _) g2)
           clear g1 g2
           dsimp only))
        | (go_at_call 13; go_loud (
           refine (KB.out _ (by (repeat (with_reducible first | exact Below.refl _ _ | refine Below.drew ?_ | refine Below.alloc ?_ (by first | exact Nat.le_refl _ | omega | (simp; done) | (simp; omega)) _)); first | done | fail)).mono ?_
           rintro e w3 ⟨A3, c3, rfl, _, g1, g2⟩
           have Y3 := Lib.hid g1.bytes
           have hcv3 := PkKit.BytesAt.conv Y3.out c3
           rw [← HX.out] at hcv3
           have X3 := Lib.hid (show Below w2.heap.size w2 w3 from up (show Below w2.heap.size w2 _ from (by (repeat (with_reducible first | exact Below.refl _ _ | refine Below.drew ?_ | refine Below.alloc ?_ (by first | exact Nat.le_refl _ | omega | (simp; done) | (simp; omega)) _)); first | done | fail)) (Nat.le_refl _) g2)
           clear g1 g2
           dsimp only)))
      all_goals
        go_wp2_with fail
        go_ret
        exact ⟨rfl, B2.out.trans (X6.out.mono B2.out.size)⟩
end Go.Proofs.Ytolkghdeppoanaa.SwM
