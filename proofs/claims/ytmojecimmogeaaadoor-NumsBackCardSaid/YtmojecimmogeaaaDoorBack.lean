/-
  NumsBack: the walk.
-/
import Derived.Test.YtmojecimmogeaaaDoorL
namespace Go.Proofs.YtmojecimmogeaaaDoor.numsBack
open Go.RowKit Go.Proofs.YtmojecimmogeaaaDoor.Kit Go.Proofs.YtmojecimmogeaaaDoor.A Go.Proofs.YtmojecimmogeaaaDoor.B Go.Proofs.YtmojecimmogeaaaDoor.F Go.Proofs.YtmojecimmogeaaaDoor.G Go.Proofs.YtmojecimmogeaaaDoor.H Go.Proofs.YtmojecimmogeaaaDoor.I Go.Proofs.YtmojecimmogeaaaDoor.L

def Yes (w : World) (e : Ending) (w' : World) : Prop := e = .returned (.bool true) ∧ Below w.heap.size w w'
/-- What came in, as long as nothing below turns. -/
structure In (w wr : World) (A B : Option Addr) (n m : Nat) (ls ms : List Sp) : Prop where
  bel : Below w.heap.size w wr
  tab : Tab wr
  l : SpansAt wr A n ls
  m : SpansAt wr B m ms
theorem In.go {w wr w2 : World} {A B : Option Addr} {n m : Nat} {ls ms : List Sp} (h : In w wr A B n m ls ms) (hb : Below wr.heap.size wr w2) : In w w2 A B n m ls ms :=
  ⟨h.bel.trans (hb.mono h.bel.size), h.tab.below hb (Nat.le_refl _), h.l.below hb, h.m.below hb⟩
theorem tx_none {zs : List Sp} (h : mayB zs = false) : txB zs = ⟨#[]⟩ := by
  unfold txB
  rw [h]; rfl

set_option maxHeartbeats 4000000 in
set_option maxRecDepth 100000 in
theorem walk (A B : Option Addr) (n m cp cq : Nat) (ls ms : List Sp) (w : World) (hi : In w w A B n m ls ms) :
    Calls Tryd.prog 3 #[.slice A n cp, .slice B m cq] w (Yes w) := by
  have H0 := Lib.hid hi
  clear hi
  have C1 := may_any (cp := cp) H0.out.l
  cases ha : mayB ls with
  | false =>
    rw [ha] at C1
    have K1 := Lib.hid C1
    have HE := Lib.hid (tx_none ha)
    have HA := Lib.hid ha
    have hb0 : ((⟨#[]⟩ : ByteArray).toList == []) = true := by rw [ByteArray.toList_eq]; rfl
    clear C1 ha
    go_enter Tryd.func3, Tryd.ntmps3
    go_wp2_with fail
    refine K1.out.mono ?_
    rintro e w1 ⟨rfl, hb⟩
    have H1 := Lib.hid (H0.out.go hb)
    have C := text_any (cp := cp) H1.out.l H1.out.tab
    rw [HE.out] at C
    have K2 := Lib.hid C
    clear hb C
    go_wp2_with fail
    refine K2.out.mono ?_
    rintro e w2 ⟨rfl, hb⟩
    have H2 := Lib.hid (H1.out.go hb)
    have C := may_any (cp := cp) H2.out.l
    rw [HA.out] at C
    have K3 := Lib.hid C
    clear hb C H1
    go_wp2_with fail
    refine K3.out.mono ?_
    rintro e w3 ⟨rfl, hb⟩
    have H3 := Lib.hid (H2.out.go hb)
    have K4 := Lib.hid (awake H3.out.tab)
    clear hb H2
    go_wp2_with fail
    refine K4.out.mono ?_
    rintro e w4 ⟨rfl, hb⟩
    have H4 := Lib.hid (H3.out.go hb)
    go_wp2_with fail
    go_ret
    exact ⟨rfl, H4.out.bel⟩
  | true =>
    rw [ha] at C1
    have K1 := Lib.hid C1
    have HA := Lib.hid ha
    have hn20 : (n : Int) ≤ 20 := by have := may_len ha; have := H0.out.l.1; omega
    clear C1 ha
    cases hb : mayB ms with
    | false =>
      have HB := Lib.hid hb
      have hemp := tx_empty HA.out
      obtain ⟨S, hS⟩ : ∃ S, S = txB ls := ⟨_, rfl⟩
      rw [← hS] at hemp
      have HS := Lib.hid hS
      clear hb hS
      go_enter Tryd.func3, Tryd.ntmps3
      go_wp2_with fail
      refine K1.out.mono ?_
      rintro e w1 ⟨rfl, hb⟩
      have H1 := Lib.hid (H0.out.go hb)
      have C := may_any (cp := cq) H1.out.m
      rw [HB.out] at C
      have K2 := Lib.hid C
      clear hb C
      go_wp2_with fail
      refine K2.out.mono ?_
      rintro e w2 ⟨rfl, hb⟩
      have H2 := Lib.hid (H1.out.go hb)
      have C := text_any (cp := cp) H2.out.l H2.out.tab
      rw [← HS.out] at C
      have K3 := Lib.hid C
      clear hb C H1
      go_wp2_with fail
      refine K3.out.mono ?_
      rintro e w3 ⟨rfl, hb⟩
      have H3 := Lib.hid (H2.out.go hb)
      have C := may_any (cp := cp) H3.out.l
      rw [HA.out] at C
      have K4 := Lib.hid C
      clear hb C H2
      go_wp2_with fail
      refine K4.out.mono ?_
      rintro e w4 ⟨rfl, hb⟩
      have H4 := Lib.hid (H3.out.go hb)
      have K5 := Lib.hid (awake H4.out.tab)
      clear hb H3
      go_wp2_with fail
      refine K5.out.mono ?_
      rintro e w5 ⟨rfl, hb⟩
      have H5 := Lib.hid (H4.out.go hb)
      go_wp2_with fail
      go_ret
      exact ⟨rfl, H5.out.bel⟩
    | true =>
      have HB := Lib.hid hb
      have hm20 : (m : Int) ≤ 20 := by have := may_len hb; have := H0.out.m.1; omega
      have hsame := tx_same HA.out hb
      obtain ⟨S, hS⟩ : ∃ S, S = txB ls := ⟨_, rfl⟩
      obtain ⟨R, hR⟩ : ∃ R, R = txB ms := ⟨_, rfl⟩
      obtain ⟨q, hq⟩ : ∃ q, q = decide (ls = ms) := ⟨_, rfl⟩
      rw [← hS, ← hR, ← hq] at hsame
      have P := fun w => parse_any HA.out H0.out.l.1 w
      rw [show (⟨(txt ls).toArray⟩ : ByteArray) = S by rw [hS]; unfold txB; rw [HA.out]; rfl] at P
      have HP := Lib.hid P
      have HS := Lib.hid hS
      have HR := Lib.hid hR
      have HQ := Lib.hid hq
      have HSM := Lib.hid hsame
      clear hb hS hR hq P hsame
      go_enter Tryd.func3, Tryd.ntmps3
      go_wp2_with fail
      refine K1.out.mono ?_
      rintro e w1 ⟨rfl, hb⟩
      have H1 := Lib.hid (H0.out.go hb)
      have C := may_any (cp := cq) H1.out.m
      rw [HB.out] at C
      have K2 := Lib.hid C
      clear hb C
      go_wp2_with fail
      refine K2.out.mono ?_
      rintro e w2 ⟨rfl, hb⟩
      have H2 := Lib.hid (H1.out.go hb)
      have C := text_any (cp := cp) H2.out.l H2.out.tab
      rw [← HS.out] at C
      have K3 := Lib.hid C
      clear hb C H1
      go_wp2_with fail
      refine K3.out.mono ?_
      rintro e w3 ⟨rfl, hb⟩
      have H3 := Lib.hid (H2.out.go hb)
      clear hb H2
      go_wp2_with fail
      refine (HP.out _).mono ?_
      rintro e w4 ⟨A4, c4, rfl, ho⟩
      have H4 := Lib.hid (H3.out.go ho.2)
      have C := same_any (cp := c4) (cq := cp) (spansAt_own ho.1) H4.out.l (by omega)
      rw [decide_eq_true rfl] at C
      have K4 := Lib.hid C
      clear ho C H3
      go_wp2_with fail
      refine K4.out.mono ?_
      rintro e w5 ⟨rfl, hd⟩
      have H5 := Lib.hid (H4.out.go (hd.below _))
      have C := text_any (cp := cp) H5.out.l H5.out.tab
      rw [← HS.out] at C
      have K5 := Lib.hid C
      clear hd C H4
      go_wp2_with fail
      refine K5.out.mono ?_
      rintro e w6 ⟨rfl, hb⟩
      have H6 := Lib.hid (H5.out.go hb)
      have C := text_any (cp := cq) H6.out.m H6.out.tab
      rw [← HR.out] at C
      have K6 := Lib.hid C
      clear hb C H5
      go_wp2_with fail
      refine K6.out.mono ?_
      rintro e w7 ⟨rfl, hb⟩
      have H7 := Lib.hid (H6.out.go hb)
      have C := same_any (cp := cp) (cq := cq) H7.out.l H7.out.m (by omega)
      rw [← HQ.out] at C
      have K7 := Lib.hid C
      clear hb C H6
      go_wp2_with fail
      refine K7.out.mono ?_
      rintro e w8 ⟨rfl, hd⟩
      have H8 := Lib.hid (H7.out.go (hd.below _))
      have K8 := Lib.hid (awake H8.out.tab)
      have hsame := HSM.out
      have hqq : (q == q) = true := by simp
      clear hd H7
      go_wp2_with fail
      refine K8.out.mono ?_
      rintro e w9 ⟨rfl, hb⟩
      have H9 := Lib.hid (H8.out.go hb)
      go_wp2_with fail
      go_ret
      exact ⟨rfl, H9.out.bel⟩
end Go.Proofs.YtmojecimmogeaaaDoor.numsBack
