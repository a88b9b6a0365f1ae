/-
  Numbers and texts behind a row of the call's own.
-/
import Derived.Test.YtolkghdeppoanaaSfM
import Derived.Test.YtolkghdeppoanaaSfB
import Derived.Test.YtolkghdeppoanaaRkR
import Derived.Laws.OwnMore
import Derived.Laws.ResultCell
import Derived.Deep.DeepCutAuto
set_option linter.unusedVariables false
set_option linter.unusedSimpArgs false
namespace Go.Proofs.Ytolkghdeppoanaa.SfA
open Go.RowKit Go.Proofs.Ytolkghdeppoanaa.BxD Go.Proofs.Ytolkghdeppoanaa.PkKit Go.Proofs.Ytolkghdeppoanaa.PkA Go.Proofs.Ytolkghdeppoanaa.PkB Go.Proofs.Ytolkghdeppoanaa.PkC Go.Proofs.Ytolkghdeppoanaa.PkR Go.Proofs.Ytolkghdeppoanaa.SfM Go.Proofs.Ytolkghdeppoanaa.SfB
open Go.Proofs.Ytolkghdeppoanaa.BxKit (RowAt IntsAt StrsAt)

section
variable {w0 wr : World} {v0 v : Value} {n : Nat} {l : List UInt8}
/-- Ints in another block than the row's. -/
theorem ints_kept {A : Option Addr} {m B : Nat} {zs : List Int} (h : OM w0 v0 wr n v l) (hz : IntsAt w0 B A m zs) (hB : B ≤ w0.heap.size) (hne : ∀ ad, A = some ad → v0.ownBlock ≠ some ad.block) {k : Nat} (hk : k < m) :
    ∃ ad x, A = some ad ∧ zs[k]? = some x ∧ wr.cell? (ad.add k) = some (.int .i64 x) := by
  obtain ⟨ad, x, e, hlt, hx, hc⟩ := hz.get hk
  refine ⟨ad, x, e, hx, ?_⟩
  rw [Nat.mul_one] at hc
  refine (World.cell?_of_block ?_).trans hc
  rw [add_block]
  exact h.fr.block _ (by omega) (fun e2 => hne ad e e2.symm)
end
theorem nil_bytes (w : World) (B : Nat) : BytesAt w B none 0 [] := ⟨rfl, fun h => absurd h (Nat.lt_irrefl 0)⟩
theorem ints_one (w : World) (a : Int) : IntsAt (w.alloc (.cells #[.int .i64 a] 3)) (w.heap.size + 1) (some ⟨w.heap.size, 0, none⟩) 1 [a] := by
  refine ⟨rfl, by decide, fun _ => ⟨_, rfl, Nat.lt_succ_self _, fun j x hj => ?_⟩⟩
  unfold BxKit.intC
  rw [Nat.mul_one, RkR.cell_new]
  match j, hj with
  | 0, hj => simp at hj; subst hj; rfl
set_option maxHeartbeats 4000000 in
set_option maxRecDepth 100000 in
theorem nums_any {n m cp B base : Nat} {w : World} {v : Value} {l : List UInt8} {A : Option Addr} {zs : List Int} (hO : Ow w base v n (by_ l)) (hz : IntsAt w B A m zs) (hB : B ≤ w.heap.size) (hne : 0 < m → ∀ ad, A = some ad → v.ownBlock ≠ some ad.block) (hn : n + 6 * m + 64 ≤ 140737488355328) :
    Calls Try.prog 60 #[v, .slice A m cp] w fun e w' => ∃ v', e = .returned v' ∧ OM w v w' (n + (nums zs).length) v' (l ++ nums zs) := by
  have hmax := hz.max
  have H0 := Lib.hid (OM.start hO)
  have HZ := Lib.hid hz
  have HNE := Lib.hid hne
  clear hO hz hne
  go_enter Try.func60, Try.ntmps60
  go_wp2_with fail
  go_loopw [0, 9] (fun s0 s9 wr => ∃ (v' : Value) (k q : Nat), s0 = v' ∧ k ≤ m ∧ s9 = .int .i64 k ∧ q ≤ 6 * k ∧ Hid (q = (nums (zs.take k)).length) ∧ Hid (OM w v wr (n + q) v' (l ++ nums (zs.take k)))) (fun _ s9 _ => m - (intOf s9).toNat)
  case atStart => exact ⟨v, 0, 0, rfl, Nat.zero_le _, rfl, Nat.zero_le _, rfl, by have := H0.out; simpa [nums, Hid] using this⟩
  case round =>
    obtain ⟨v', k, q, rfl, hk, rfl, hq, HQ, HO⟩ := hrel
    obtain ⟨A1, c1, rfl, hc1⟩ := Ow.slice HO.out.own
    by_cases hlt : k < m
    · obtain ⟨ad, x, rfl, e1, q1⟩ := ints_kept HO.out HZ.out hB (HNE.out (by omega)) hlt
      have KF := Lib.hid (number_any (cp := 0) (nil_bytes wr wr.heap.size) (Nat.le_refl _) x (by decide))
      have hsn := nums_snoc e1
      have hul := uv_len (cl_le x)
      have hup := Lib.uvarint_pos (cl x)
      obtain ⟨U, hU⟩ : ∃ U, U = (Lib.uvarint (cl x)).length := ⟨_, rfl⟩
      rw [← hU] at hul hup
      have HSN := Lib.hid hsn
      have HU := Lib.hid hU
      clear e1 hsn hU
      go_wp2_with (first
        | (go_at_call 78; go_loud (
           refine KF.out.mono ?_
           rintro e w1 ⟨v1, rfl, O1⟩
           rw [List.nil_append, ← HU.out] at O1
           obtain ⟨A2, c2, rfl, hc2⟩ := own_slice O1.own
           have O1 := Lib.hid O1
           have G1 := Lib.hid (HO.out.go O1.out.bel)
           clear q1))
        | (at_builtin; go_loud (
           refine wpList_ow rfl _ _ rfl rfl rfl G1.out.own O1.out.at_ (by omega) (Nat.zero_le _) hup ?_
           intro v3 w3 hown3 hg3 hat3
           have G3 := Lib.hid (G1.out.app (m := n + (q + U)) (l' := l ++ nums (zs.take (k + 1))) (by rw [HSN.out, ← List.append_assoc, by_append, ← Nat.add_assoc]; exact hown3) hg3 hat3)
           have HQ3 := Lib.hid (show q + U = (nums (zs.take (k + 1))).length by rw [HSN.out, List.length_append, ← HQ.out, ← HU.out])
           clear hown3 hg3 hat3)))
      go_roundw
      case rel => exact ⟨v3, k + 1, q + U, rfl, by omega, by go_num, by omega, HQ3, G3⟩
      case measure => simp [intOf]; omega
    · obtain rfl : m = k := by omega
      have hqq : zs.take m = zs := List.take_of_length_le (by rw [HZ.out.len]; omega)
      have ho := HO.out
      have hq2 := HQ.out
      rw [hqq] at ho hq2
      rw [hq2] at ho
      have HO2 := Lib.hid ho
      clear ho HO hqq
      go_wp2_with fail
      go_ret
      exact ⟨_, rfl, by rw [← hq2]; rw [← hq2] at HO2; exact HO2.out⟩
set_option maxHeartbeats 1000000 in
set_option maxRecDepth 100000 in
theorem text_om {n base : Nat} {w : World} {v : Value} {l : List UInt8} (hO : Ow w base v n (by_ l)) (s : ByteArray) (hs : s.size ≤ 1099511627776) (hn : n ≤ 1099511627776) :
    Calls Try.prog 59 #[v, .string s] w fun e w' => ∃ v', e = .returned v' ∧ OM w v w' (n + (tx s).length) v' (l ++ tx s) := by
  have H0 := Lib.hid (OM.start hO)
  obtain ⟨A0, c0, rfl, hc0⟩ := hO.slice
  have KT := Lib.hid (text_any (cp := 0) (nil_bytes w w.heap.size) (Nat.le_refl _) s hs (by decide))
  have hup : 0 < (tx s).length := by unfold tx; rw [List.length_append]; have := Lib.uvarint_pos s.size; omega
  have hul : (tx s).length ≤ 6 + 1099511627776 := by
    have h1 := uv_len hs
    have h2 : s.data.toList.length = s.size := by rw [Array.length_toList]; rfl
    unfold tx
    rw [List.length_append]
    omega
  obtain ⟨T, hT⟩ : ∃ T, T = (tx s).length := ⟨_, rfl⟩
  rw [← hT] at hup hul
  rw [← hT]
  have HT := Lib.hid hT
  clear hO hT
  go_enter Try.func59, Try.ntmps59
  go_wp2_with (first
    | (go_at_call 77; go_loud (
       refine KT.out.mono ?_
       rintro e w1 ⟨v1, rfl, O1⟩
       rw [List.nil_append, ← HT.out] at O1
       obtain ⟨A2, c2, rfl, hc2⟩ := own_slice O1.own
       have O1 := Lib.hid O1
       have G1 := Lib.hid (H0.out.go O1.out.bel)))
    | (at_builtin; go_loud (
       refine wpList_ow rfl _ _ rfl rfl rfl G1.out.own O1.out.at_ (by omega) (Nat.zero_le _) hup ?_
       intro v3 w3 hown3 hg3 hat3
       have G3 := Lib.hid (G1.out.app (m := n + T) (l' := l ++ tx s) (by rw [by_append]; exact hown3) hg3 hat3)
       clear hown3 hg3 hat3)))
  go_ret
  exact ⟨v3, rfl, G3.out⟩
end Go.Proofs.Ytolkghdeppoanaa.SfA
