/-
  OlA + OlB
-/
import Derived.Test.YtchlbbndfhibgaaGreatDoorN1
import Derived.Test.YtchlbbndfhibgaaGreatDoorPtK
import Derived.Laws.Bits128
set_option linter.unusedVariables false
set_option linter.unusedSimpArgs false
namespace Go.Proofs.YtchlbbndfhibgaaGreatDoor.OlA
open Go.Proofs.YtchlbbndfhibgaaGreatDoor.PtK
open Go.RowKit Go.Proofs.YtchlbbndfhibgaaGreatDoor.BxD Go.Proofs.YtchlbbndfhibgaaGreatDoor.PkKit Go.Proofs.YtchlbbndfhibgaaGreatDoor.PkA Go.Proofs.YtchlbbndfhibgaaGreatDoor.PkB Go.Proofs.YtchlbbndfhibgaaGreatDoor.PkC Go.Proofs.YtchlbbndfhibgaaGreatDoor.PkR Go.Proofs.YtchlbbndfhibgaaGreatDoor.OlD Go.Proofs.YtchlbbndfhibgaaGreatDoor.OlOm
open Go.Proofs.YtchlbbndfhibgaaGreatDoor.BxKit (RowAt IntsAt StrsAt MsgsAt)

section
variable {w0 wr : World} {v0 v : Value} {n : Nat} {l : List UInt8}
end
def fxs (zs : List Int) : List UInt8 := zs.flatMap fun z => fx (mx z)
theorem fxs_snoc {zs : List Int} {k : Nat} {x : Int} (h : zs[k]? = some x) : fxs (zs.take (k + 1)) = fxs (zs.take k) ++ fx (mx x) := by
  obtain ⟨hl, rfl⟩ := List.getElem?_eq_some_iff.1 h
  unfold fxs
  rw [List.take_succ_eq_append_getElem hl, List.flatMap_append]
  simp
set_option maxHeartbeats 4000000 in
set_option maxRecDepth 100000 in
theorem appendFixed_any {n m cp B base N : Nat} {w : World} {v : Value} {l : List UInt8} {A : Option Addr} {zs : List Int} (hO : Ow w base v n (by_ l)) (hz : IntsAt w B A m zs) (hB : B ≤ w.heap.size) (hne : ∀ ad, A = some ad → v.ownBlock ≠ some ad.block) (hn : n + 4 * m + 64 ≤ 140737488355328) (hN : N = n + 4 * m) :
    Calls Tryz.prog 163 #[v, .slice A m cp] w fun e w' => ∃ v', e = .returned v' ∧ OM w v w' N v' (l ++ fxs zs) := by
  subst hN
  have hmax := hz.max
  have H0 := Lib.hid (OM.start hO)
  have HZ := Lib.hid hz
  have HNE := Lib.hid hne
  clear hO hz hne
  go_enter Tryz.func163, Tryz.ntmps163
  go_wp2_with fail
  go_loopw [0, 9] (fun s0 s9 wr => ∃ (v' : Value) (k : Nat), s0 = v' ∧ k ≤ m ∧ s9 = .int .i64 k ∧ Hid (OM w v wr (n + 4 * k) v' (l ++ fxs (zs.take k)))) (fun _ s9 _ => m - (intOf s9).toNat)
  case atStart => exact ⟨v, 0, rfl, Nat.zero_le _, rfl, by have := H0.out; simpa [fxs, Hid] using this⟩
  case round =>
    obtain ⟨v', k, rfl, hk, rfl, HO⟩ := hrel
    obtain ⟨A1, c1, rfl, hc1⟩ := Ow.slice HO.out.own
    by_cases hlt : k < m
    · obtain ⟨ad, x, rfl, e1, q1⟩ := ints_kept HO.out HZ.out hB HNE.out hlt
      have KF := Lib.hid (fixed_any (cp := 0) (nil_bytes wr wr.heap.size) (Nat.le_refl _) x (by decide))
      have HSN := Lib.hid (fxs_snoc e1)
      clear e1
      go_wp2_with (first
        | (go_at_call 171; go_loud (
           refine KF.out.mono ?_
           rintro e w1 ⟨v1, rfl, O1⟩
           obtain ⟨A2, c2, rfl, hc2⟩ := own_slice O1.own
           have O1 := Lib.hid O1
           have G1 := Lib.hid (HO.out.go O1.out.bel)
           clear q1))
        | (at_builtin; go_loud (
           refine wpList_ow rfl _ _ rfl rfl rfl G1.out.own O1.out.at_ (by show n + 4 * k + 4 ≤ _; omega) (Nat.zero_le _) (Nat.succ_pos _) ?_
           intro v3 w3 hown3 hg3 hat3
           have G3 := Lib.hid (G1.out.app (n := n + 4 * k) (m := n + 4 * (k + 1)) (l' := l ++ fxs (zs.take (k + 1))) (by rw [HSN.out, ← List.append_assoc, by_append]; exact hown3) hg3 hat3)
           clear hown3 hg3 hat3)))
      go_roundw
      case rel => exact ⟨v3, k + 1, rfl, by omega, by go_num, G3⟩
      case measure => simp [intOf]; omega
    · obtain rfl : m = k := by omega
      have hq : zs.take m = zs := List.take_of_length_le (by rw [HZ.out.len]; omega)
      have ho := HO.out
      rw [hq] at ho
      have HO2 := Lib.hid ho
      clear ho HO hq
      go_wp2_with fail
      go_ret
      exact ⟨_, rfl, HO2.out⟩
end Go.Proofs.YtchlbbndfhibgaaGreatDoor.OlA

namespace Go.Proofs.YtchlbbndfhibgaaGreatDoor.OlB
open Go.Proofs.YtchlbbndfhibgaaGreatDoor.PtK
open Go.RowKit Go.Proofs.YtchlbbndfhibgaaGreatDoor.BxD Go.Proofs.YtchlbbndfhibgaaGreatDoor.BxKit Go.Proofs.YtchlbbndfhibgaaGreatDoor.BxR Go.Proofs.YtchlbbndfhibgaaGreatDoor.OlD

theorem mask_snoc {ks : List Int} {k : Nat} {x : Int} (h : ks[k]? = some x) : maskN (ks.take (k + 1)) = if x < 32 then maskN (ks.take k) ||| 2 ^ x.toNat else maskN (ks.take k) := by
  obtain ⟨hl, rfl⟩ := List.getElem?_eq_some_iff.1 h
  unfold maskN
  rw [List.take_succ_eq_append_getElem hl, List.foldl_append]
  rfl
theorem or_bit {M j : Nat} (hM : M < 4294967296) (hj : j < 32) : bits .or .i64 (M : Int) (wrap64 (2 ^ j)) = ((M ||| 2 ^ j : Nat) : Int) := by
  have hp : 2 ^ j < 4294967296 := Nat.pow_lt_pow_right (a := 2) (by decide) hj
  have e : wrap64 (2 ^ j) = ((2 ^ j : Nat) : Int) := by
    rw [show (2 : Int) ^ j = ((2 ^ j : Nat) : Int) by simp]
    generalize 2 ^ j = P at hp
    unfold wrap64; omega
  rw [e, (bits_nat .i64 62 (by decide) PkE.i64_small M (2 ^ j) (by omega) (by omega)).2]
theorem and_bit {M j : Nat} (hM : M < 4294967296) (hj : j < 32) : (bits .and .i64 (M : Int) (wrap64 (2 ^ j)) != 0) = M.testBit j := by
  have hp : 2 ^ j < 4294967296 := Nat.pow_lt_pow_right (a := 2) (by decide) hj
  have e : wrap64 (2 ^ j) = ((2 ^ j : Nat) : Int) := by
    rw [show (2 : Int) ^ j = ((2 ^ j : Nat) : Int) by simp]
    generalize 2 ^ j = P at hp
    unfold wrap64; omega
  rw [e, (bits_nat .i64 62 (by decide) PkE.i64_small M (2 ^ j) (by omega) (by omega)).1]
  have hq : M &&& 2 ^ j = if M.testBit j then 2 ^ j else 0 := by
    refine Nat.eq_of_testBit_eq fun i => ?_
    rw [Nat.testBit_and, Nat.testBit_two_pow]
    by_cases e : j = i
    · subst e
      cases h : M.testBit j <;> simp
    · cases h : M.testBit j <;> simp [e]
  rw [hq]
  cases M.testBit j with
  | false => simp
  | true =>
    have : 0 < 2 ^ j := Nat.two_pow_pos j
    simp only [if_true, bne_iff_ne]
    omega
set_option maxHeartbeats 4000000 in
set_option maxRecDepth 100000 in
theorem bitsOf_any {w : World} {B n cp : Nat} {A : Option Addr} {ks : List Int} (hz : IntsAt w B A n ks) (hp : ∀ k ∈ ks, 0 ≤ k) :
    Calls Tryz.prog 172 #[.slice A n cp] w fun e w' => e = .returned (.int .i64 (maskN ks : Nat)) ∧ w = w' := by
  have hmax := hz.max
  have HZ := Lib.hid hz
  have HP := Lib.hid hp
  clear hz hp
  go_enter Tryz.func172, Tryz.ntmps172
  go_wp2_with fail
  go_loop [3, 8] (fun s3 s8 => ∃ (k M : Nat), k ≤ n ∧ s8 = .int .i64 k ∧ s3 = .int .i64 (M : Nat) ∧ Hid (M = maskN (ks.take k))) (fun _ s8 => n - (intOf s8).toNat)
  case atStart => exact ⟨0, 0, Nat.zero_le _, rfl, rfl, rfl⟩
  case round =>
    obtain ⟨k, M, hk, rfl, rfl, HM⟩ := hrel
    by_cases hlt : k < n
    · obtain ⟨ad, x, rfl, hb, e1, q1⟩ := HZ.out.get hlt
      rw [Nat.mul_one] at q1
      unfold intC at q1
      have h0 := HP.out x (List.mem_of_getElem? e1)
      obtain ⟨j, rfl⟩ := Int.eq_ofNat_of_zero_le h0
      have hs := mask_snoc e1
      rw [Int.toNat_natCast, ← HM.out] at hs
      have hM : M < 4294967296 := by rw [HM.out]; exact mask_lt (fun k hk => HP.out k (List.mem_of_mem_take hk))
      by_cases h32 : j < 32
      · rw [if_pos (by omega)] at hs
        have HS := Lib.hid hs
        have hor := or_bit hM h32
        clear hs e1 hb
        go_wp2_with fail
        go_round
        case rel => exact ⟨k + 1, M ||| 2 ^ j, by omega, by go_num, rfl, HS.out.symm⟩
        case measure => simp [intOf]; omega
      · rw [if_neg (by omega)] at hs
        have HS := Lib.hid hs
        clear hs e1 hb
        go_wp2_with fail
        go_round
        case rel => exact ⟨k + 1, M, by omega, by go_num, rfl, HS.out.symm⟩
        case measure => simp [intOf]; omega
    · obtain rfl : n = k := by omega
      have hq : M = maskN ks := by rw [HM.out, List.take_of_length_le (by rw [HZ.out.len]; omega)]
      subst hq
      go_wp2_with fail
      go_ret
      exact ⟨rfl, rfl⟩
theorem keys_take (N k : Nat) (hk : k < 32) : (((List.range (k + 1)).filter fun k => N.testBit k).map fun k : Nat => (k : Int)) = (((List.range k).filter fun k => N.testBit k).map fun k : Nat => (k : Int)) ++ if N.testBit k then [(k : Int)] else [] := by
  rw [List.range_succ, List.filter_append, List.map_append]
  congr 1
  cases h : N.testBit k <;> simp [h]
def kN (N k : Nat) : List Int := ((List.range k).filter fun k => N.testBit k).map fun k : Nat => (k : Int)
theorem kN_le (N k : Nat) : (kN N k).length ≤ k := by
  unfold kN
  rw [List.length_map]
  exact Nat.le_trans (List.length_filter_le _ _) (by simp)
set_option maxHeartbeats 4000000 in
set_option maxRecDepth 100000 in
theorem keysOf_any {w : World} {N : Nat} (hN : N < 4294967296) :
    Calls Tryz.prog 180 #[.int .i64 (N : Nat)] w fun e w' => ∃ v, e = .returned v ∧ w'.ownsRow w.heap.size 3 1 v (keysN N).length ((keysN N).map (Value.int .i64)) ∧ Below w.heap.size w w' := by
  go_enter Tryz.func180, Tryz.ntmps180
  go_wp2_with fail
  go_loopw [3, 5] (fun s3 s5 wr => ∃ (v : Value) (k n : Nat), s3 = v ∧ k ≤ 32 ∧ s5 = .int .i64 k ∧ Hid (wr.ownsRow w.heap.size 3 1 v n ((kN N k).map (Value.int .i64))) ∧ Hid (Below w.heap.size w wr) ∧ n ≤ k ∧ Hid (n = (kN N k).length)) (fun _ s5 _ => 32 - (intOf s5).toNat)
  case atStart => exact ⟨_, 0, 0, rfl, by omega, rfl, World.ownsRow_nil _ _ _ _, Below.refl _ _, Nat.le_refl _, rfl⟩
  case round =>
    obtain ⟨v, k, n, rfl, hk, rfl, HO, HB, hn, HN⟩ := hrel
    obtain ⟨A1, c1, rfl, hc1⟩ := own_slice HO.out
    by_cases hlt : k < 32
    · have hb := and_bit hN hlt
      have hkn := keys_take N k hlt
      cases ht : N.testBit k with
      | true =>
        rw [ht] at hb hkn
        rw [if_pos rfl] at hkn
        have HK := Lib.hid hkn
        have HSZ := Lib.hid HB.out.size
        clear hkn ht
        go_wp2_with (at_builtin; go_loud (
           refine wpList_rows elI rfl _ _ rfl rfl rfl (HO.out.alloc _) (src_new wr #[.int .i64 (k : Nat)] 3 (m := 1) rfl rfl (by intro u hu; simp at hu; subst hu; rfl)) (by unfold maxLen; omega) (by omega) (by have := HSZ.out; simp; omega) ?_
           intro v3 w3 hown3 hg3 _
           have HO3 := Lib.hid (show w3.ownsRow w.heap.size 3 1 v3 (n + 1) ((kN N (k + 1)).map (Value.int .i64)) by unfold kN; rw [HK.out, List.map_append]; exact hown3)
           have HB3 := Lib.hid ((HB.out.alloc HSZ.out _).grown hg3 (by have := HSZ.out; simp; omega) (fun g e => (HO.out.lt g e).1))
           have HN3 := Lib.hid (show n + 1 = (kN N (k + 1)).length by have := HN.out; unfold kN at this ⊢; rw [HK.out, List.length_append, ← this]; rfl)
           clear hown3 hg3))
        go_roundw
        case rel => exact ⟨v3, k + 1, n + 1, rfl, by omega, by go_num, HO3, HB3, by omega, HN3⟩
        case measure => simp [intOf]; omega
      | false =>
        rw [ht] at hb hkn
        rw [if_neg (by decide), List.append_nil] at hkn
        have HK := Lib.hid hkn
        clear hkn ht
        go_wp2_with fail
        go_roundw
        case rel => exact ⟨_, k + 1, n, rfl, by omega, by go_num, by unfold kN; rw [HK.out]; exact HO, HB, by omega, by unfold kN; rw [HK.out]; exact HN⟩
        case measure => simp [intOf]; omega
    · obtain rfl : k = 32 := by omega
      have hq := HN.out
      subst hq
      go_wp2_with fail
      go_ret
      exact ⟨_, rfl, HO.out, HB.out⟩
end Go.Proofs.YtchlbbndfhibgaaGreatDoor.OlB
