/-
  Numbers in four bytes each, behind a row of the call's own; keys as bits.
-/
import Derived.Test.YthbilcadifbaeaaDoorOlOm
namespace Go.Proofs.YthbilcadifbaeaaDoor.OlA
open Go.RowKit Go.Proofs.YthbilcadifbaeaaDoor.BxD Go.Proofs.YthbilcadifbaeaaDoor.PkKit Go.Proofs.YthbilcadifbaeaaDoor.PkA Go.Proofs.YthbilcadifbaeaaDoor.PkB Go.Proofs.YthbilcadifbaeaaDoor.PkC Go.Proofs.YthbilcadifbaeaaDoor.PkR Go.Proofs.YthbilcadifbaeaaDoor.OlD Go.Proofs.YthbilcadifbaeaaDoor.OlOm
open Go.Proofs.YthbilcadifbaeaaDoor.BxKit (RowAt IntsAt StrsAt MsgsAt)

section
variable {w0 wr : World} {v0 v : Value} {n : Nat} {l : List UInt8}
/-- Ints in another block than the row's. -/
theorem ints_kept {A : Option Addr} {m B : Nat} {zs : List Int} (h : OM w0 v0 wr n v l) (hz : IntsAt w0 B A m zs) (hB : B ≤ w0.heap.size) (hne : ∀ ad, A = some ad → v0.ownBlock ≠ some ad.block) {k : Nat} (hk : k < m) :
    ∃ ad x, A = some ad ∧ zs[k]? = some x ∧ wr.cell? (ad.add k) = some (.int .i64 x) := by
  obtain ⟨ad, x, e, hlt, hx, hc⟩ := hz.get hk
  refine ⟨ad, x, e, hx, ?_⟩
  rw [Nat.mul_one] at hc
  refine (World.cell?_of_block ?_).trans hc
  rw [add_block]
  exact h.fr.block _ (by omega) (fun e2 => hne ad e e2.symm)
end
theorem nil_bytes (w : World) (B : Nat) : BytesAt w B none 0 [] := ⟨rfl, fun h => absurd h (Nat.lt_irrefl 0)⟩
def fxs (zs : List Int) : List UInt8 := zs.flatMap fun z => fx (mx z)
theorem fxs_snoc {zs : List Int} {k : Nat} {x : Int} (h : zs[k]? = some x) : fxs (zs.take (k + 1)) = fxs (zs.take k) ++ fx (mx x) := by
  obtain ⟨hl, rfl⟩ := List.getElem?_eq_some_iff.1 h
  unfold fxs
  rw [List.take_succ_eq_append_getElem hl, List.flatMap_append]
  simp
set_option maxHeartbeats 4000000 in
set_option maxRecDepth 100000 in
theorem appendFixed_any {n m cp B base N : Nat} {w : World} {v : Value} {l : List UInt8} {A : Option Addr} {zs : List Int} (hO : Ow w base v n (by_ l)) (hz : IntsAt w B A m zs) (hB : B ≤ w.heap.size) (hne : ∀ ad, A = some ad → v.ownBlock ≠ some ad.block) (hn : n + 4 * m + 64 ≤ 140737488355328) (hN : N = n + 4 * m) :
    Calls Tryd.prog 109 #[v, .slice A m cp] w fun e w' => ∃ v', e = .returned v' ∧ OM w v w' N v' (l ++ fxs zs) := by
  subst hN
  have hmax := hz.max
  have H0 := Lib.hid (OM.start hO)
  have HZ := Lib.hid hz
  have HNE := Lib.hid hne
  clear hO hz hne
  go_enter Tryd.func109, Tryd.ntmps109
  go_wp2_with fail
  go_loopw [0, 9] (fun s0 s9 wr => ∃ (v' : Value) (k : Nat), s0 = v' ∧ k ≤ m ∧ s9 = .int .i64 k ∧ Hid (OM w v wr (n + 4 * k) v' (l ++ fxs (zs.take k)))) (fun _ s9 _ => m - (intOf s9).toNat)
  case atStart => exact ⟨v, 0, rfl, Nat.zero_le _, rfl, by have := H0.out; simpa [fxs, Hid] using this⟩
  case round =>
    obtain ⟨v', k, rfl, hk, rfl, HO⟩ := hrel
    obtain ⟨A1, c1, rfl, hc1⟩ := Ow.slice HO.out.own
    by_cases hlt : k < m
    · obtain ⟨ad, x, rfl, e1, q1⟩ := ints_kept HO.out HZ.out hB HNE.out hlt
      have KF := Lib.hid (fixed_any (cp := 0) (nil_bytes wr wr.heap.size) (Nat.le_refl _) x (by decide))
      have HSN := Lib.hid (fxs_snoc e1)
      clear e1
      go_wp2_with (first
        | (go_at_call 133; go_loud (
           refine KF.out.mono ?_
           rintro e w1 ⟨v1, rfl, O1⟩
           obtain ⟨A2, c2, rfl, hc2⟩ := own_slice O1.own
           have O1 := Lib.hid O1
           have G1 := Lib.hid (HO.out.go O1.out.bel)
           clear q1))
        | (at_builtin; go_loud (
           refine wpList_ow rfl _ _ rfl rfl rfl G1.out.own O1.out.at_ (by show n + 4 * k + 4 ≤ _; omega) (Nat.zero_le _) (Nat.succ_pos _) ?_
           intro v3 w3 hown3 hg3 hat3
           have G3 := Lib.hid (G1.out.app (n := n + 4 * k) (m := n + 4 * (k + 1)) (l' := l ++ fxs (zs.take (k + 1))) (by rw [HSN.out, ← List.append_assoc, by_append]; exact hown3) hg3 hat3)
           clear hown3 hg3 hat3)))
      go_roundw
      case rel => exact ⟨v3, k + 1, rfl, by omega, by go_num, G3⟩
      case measure => simp [intOf]; omega
    · obtain rfl : m = k := by omega
      have hq : zs.take m = zs := List.take_of_length_le (by rw [HZ.out.len]; omega)
      have ho := HO.out
      rw [hq] at ho
      have HO2 := Lib.hid ho
      clear ho HO hq
      go_wp2_with fail
      go_ret
      exact ⟨_, rfl, HO2.out⟩
end Go.Proofs.YthbilcadifbaeaaDoor.OlA
