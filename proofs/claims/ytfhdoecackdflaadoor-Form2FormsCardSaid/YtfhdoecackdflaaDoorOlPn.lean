/-
  The document's PutFixed, PutNumber and PutText onto a row that may be marked behind its end.
-/
import Derived.Test.YtfhdoecackdflaaDoorK2
set_option linter.unusedVariables false
set_option linter.unusedSimpArgs false
namespace Go.Proofs.YtfhdoecackdflaaDoor.OlPn
open Go.Proofs.YtfhdoecackdflaaDoor.PtK
open Go.RowKit Go.Proofs.YtfhdoecackdflaaDoor.BxD Go.Proofs.YtfhdoecackdflaaDoor.PkKit Go.Proofs.YtfhdoecackdflaaDoor.PkA Go.Proofs.YtfhdoecackdflaaDoor.PkB Go.Proofs.YtfhdoecackdflaaDoor.PkC Go.Proofs.YtfhdoecackdflaaDoor.PkR Go.Proofs.YtfhdoecackdflaaDoor.OlD Go.Proofs.YtfhdoecackdflaaDoor.OlA Go.Proofs.YtfhdoecackdflaaDoor.OlOm

set_option maxRecDepth 100000 in
theorem putFixed_om {w0 w : World} {n : Nat} {v0 v : Value} {l : List UInt8} (hO : OM w0 v0 w n v l) (x : Int) (hn : n ≤ 1099511627776) :
    Calls Tryd.prog 26 #[v, .int .i64 x] w fun e w' => ∃ v', e = .returned v' ∧ OM w0 v0 w' (n + 4) v' (l ++ fx (mx x)) := by
  have hx : (x < 0 ∧ mx x = 0) ∨ (x = 0 ∧ mx x = 0) ∨ (x = ((mx x : Nat) : Int) ∧ 0 < (mx x : Int)) := by unfold mx; omega
  obtain ⟨m, hm⟩ : ∃ m, m = mx x := ⟨_, rfl⟩
  rw [← hm] at hx ⊢
  have HO := Lib.hid hO
  have HF := Lib.hid (by_fx m)
  clear hm hO
  rcases hx with ⟨hx, rfl⟩ | ⟨rfl, rfl⟩ | ⟨rfl, hx⟩ <;>
  · go_enter Tryd.func26, Tryd.ntmps26
    go_wp2_with (at_builtin; go_loud (
      refine wpList_ow rfl _ _ rfl rfl rfl (HO.out.alloc _).own (bytesAt_new w (fx _) rfl (Nat.lt_succ_self _) rfl HF.out.symm) (by omega) (Nat.zero_le _) (by decide) ?_
      intro v3 w3 hown3 hg3 hat3
      have G3 := Lib.hid ((HO.out.alloc _).app (by rw [by_append]; exact hown3) hg3 hat3)
      clear hown3 hg3 hat3))
    go_ret
    exact ⟨v3, rfl, G3.out⟩
set_option maxHeartbeats 4000000 in
set_option maxRecDepth 100000 in
/-- A number is put behind a row of the call's own. -/
theorem putNumber_oo {base n : Nat} {w0 w : World} {v : Value} {l : List UInt8} (hO : OO base w0 w n v l) (x : Int) (hn : n + 10 ≤ 140737488355328) :
    Calls Tryd.prog 49 #[v, .int .i64 x] w fun e w' => ∃ v', e = .returned v' ∧ OO base w0 w' (n + (Lib.uvarint (cl x)).length) v' (l ++ Lib.uvarint (cl x)) := by
  have hcl := cl_le x
  have hx : (x < 0 ∧ cl x = 0) ∨ (x = 0 ∧ cl x = 0) ∨ (x = ((cl x : Nat) : Int) ∧ 0 < (cl x : Int)) ∨ (1099511627776 < x ∧ cl x = 1099511627776) := by unfold cl; omega
  obtain ⟨m, hm⟩ : ∃ m, m = cl x := ⟨_, rfl⟩
  rw [← hm] at hcl hx ⊢
  have hlen := uv_len hcl
  have HO := Lib.hid hO
  have hcli : (m : Int) ≤ 1099511627776 := by omega
  clear hm hO
  rcases hx with ⟨hx, hm0⟩ | ⟨hx, hm0⟩ | ⟨hm0, hx⟩ | ⟨hx, hm0⟩ <;>
  · have HM := Lib.hid hm0
    try subst x
    try clear hm0
    go_enter Tryd.func49, Tryd.ntmps49
    go_wp2_with fail
    go_loopw [0, 1] (fun s0 s1 wr => ∃ (v' : Value) (y : Nat) (pre : List UInt8), s0 = v' ∧ s1 = .int .i64 y ∧ y ≤ m ∧ Hid (Lib.uvarint m = pre ++ Lib.uvarint y) ∧ Hid (OO base w0 wr (n + pre.length) v' (l ++ pre))) (fun _ s1 _ => (intOf s1).toNat)
    case atStart => exact ⟨_, m, [], rfl, by first | rfl | (rw [HM.out]; rfl), Nat.le_refl _, rfl, by rw [List.append_nil]; exact HO.out⟩
    case round =>
      clear HO HM
      obtain ⟨v', y, pre, rfl, rfl, hy, HS, HO⟩ := hrel
      have hpl : pre.length + (Lib.uvarint y).length ≤ 6 := by
        have h2 := congrArg List.length HS.out
        rw [List.length_append] at h2
        omega
      have hyp := Lib.uvarint_pos y
      obtain ⟨pn, hpn⟩ : ∃ pn, pn = pre.length := ⟨_, rfl⟩
      rw [← hpn] at HO
      obtain ⟨A, cp, rfl, hcp⟩ := Ow.slice HO.out.own
      have hn6 : n + pn + 1 ≤ 140737488355328 := by omega
      by_cases h128 : 128 ≤ y
      · have hand := i64_and127 (y : Int)
        have hor : bits .or .i64 ((y : Int) % 128) 128 = ((y % 128 + 128 : Nat) : Int) := by
          rw [show (y : Int) % 128 = ((y % 128 : Nat) : Int) by omega]
          exact i64_or_low _ (by omega)
        have hconv : (((y % 128 + 128 : Nat) : Int)) % 256 = ((y % 128 + 128 : Nat) : Int) := by omega
        have hbig := Lib.uvarint_big h128
        obtain ⟨c, hc⟩ : ∃ c : Nat, c = y % 128 + 128 := ⟨_, rfl⟩
        have hc2 : c < 256 := by omega
        rw [← hc] at hor hconv hbig
        have hby : by_ [c.toUInt8] = [Value.int .u8 (c : Int)] := by
          have := Lib.byteCells_snoc [] hc2
          simpa [Lib.byteCells] using this
        have HPN := Lib.hid hpn
        have HBG := Lib.hid hbig
        have HBY := Lib.hid hby
        clear hpl hyp hlen hcl hc hbig hby hpn
        go_wp2_with (at_builtin; refine wpList_ow rfl _ _ rfl rfl rfl (HO.out.alloc _).own (bytesAt_new wr [c.toUInt8] rfl (Nat.lt_succ_self _) rfl HBY.out.symm) hn6 (Nat.le_trans HO.out.bas (HO.out.alloc _).bel.size) (by decide) ?_; intro v3 w3 hown3 hg3 _)
        have HO3 := Lib.hid (show OO base w0 w3 (n + pn + 1) v3 (l ++ (pre ++ [c.toUInt8])) from (HO.out.alloc _).app (by rw [← List.append_assoc, by_append]; exact hown3) hg3)
        clear hown3 hg3 HO
        go_wp2_with fail
        go_roundw
        case rel => exact ⟨v3, y / 128, pre ++ [c.toUInt8], rfl, by go_num, by omega, HS.out.trans (by rw [HBG.out]; simp), by rw [List.length_append, ← HPN.out]; exact HO3.out⟩
        case measure => simp [intOf]; omega
      · have hsm : Lib.uvarint y = [y.toUInt8] := Lib.uvarint_small (by omega)
        have hby : by_ [y.toUInt8] = [Value.int .u8 (y : Int)] := by
          have := Lib.byteCells_snoc [] (show y < 256 by omega)
          simpa [Lib.byteCells] using this
        have HPN := Lib.hid hpn
        have HSM := Lib.hid hsm
        have HBY := Lib.hid hby
        clear hpl hyp hlen hcl hsm hby hpn
        go_wp2_with (at_builtin; refine wpList_ow rfl _ _ rfl rfl rfl (HO.out.alloc _).own (bytesAt_new wr [y.toUInt8] rfl (Nat.lt_succ_self _) rfl HBY.out.symm) hn6 (Nat.le_trans HO.out.bas (HO.out.alloc _).bel.size) (by decide) ?_; intro v3 w3 hown3 hg3 _)
        go_ret
        refine ⟨v3, rfl, ?_⟩
        rw [HS.out, HSM.out, List.length_append, ← HPN.out, List.length_singleton, ← Nat.add_assoc]
        exact (HO.out.alloc _).app (by rw [← List.append_assoc, by_append]; exact hown3) hg3
set_option maxRecDepth 100000 in
theorem putText_oo {w0 w : World} {base n : Nat} {v : Value} {l : List UInt8} (hO : OO base w0 w n v l) (s : ByteArray) (hs : s.size ≤ 1099511627776) (hn : n ≤ 1099511627776) :
    Calls Tryd.prog 28 #[v, .string s] w fun e w' => ∃ v', e = .returned v' ∧ OO base w0 w' (n + (tx s).length) v' (l ++ tx s) := by
  have P := putNumber_oo hO s.size (by omega)
  rw [cl_nat hs] at P
  have HP := Lib.hid P
  have hlen := uv_len hs
  clear P hO
  go_enter Tryd.func28, Tryd.ntmps28
  go_wp2_with fail
  refine HP.out.mono ?_
  rintro e w2 ⟨v2, rfl, O2⟩
  have O2 := Lib.hid O2
  go_wp2_with (at_builtin; refine wpList_ows rfl _ _ rfl rfl rfl O2.out.own (by omega) (Nat.le_trans O2.out.bas O2.out.bel.size) ?_; intro v3 w3 hown3 hg3)
  go_ret
  refine ⟨v3, rfl, ?_⟩
  have e : n + (tx s).length = n + (Lib.uvarint s.size).length + s.size := by
    unfold tx
    rw [List.length_append, Array.length_toList, Nat.add_assoc]; rfl
  rw [e]
  refine O2.out.app ?_ hg3
  unfold tx
  rw [← List.append_assoc, by_append, ← strCells_by]
  exact hown3
end Go.Proofs.YtfhdoecackdflaaDoor.OlPn
