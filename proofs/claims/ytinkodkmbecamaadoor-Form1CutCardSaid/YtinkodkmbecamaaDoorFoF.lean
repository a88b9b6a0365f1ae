/-
  Numbers in four bytes each behind a mark of three bytes.
-/
import Derived.Test.YtinkodkmbecamaaDoorFoA
import Derived.Lib.SmallJoins
import Derived.Lib.SlBytesConst
namespace Go.Proofs.YtinkodkmbecamaaDoor.FoF
open Go.RowKit Go.Proofs.YtinkodkmbecamaaDoor.BxD Go.Proofs.YtinkodkmbecamaaDoor.PkKit Go.Proofs.YtinkodkmbecamaaDoor.PkA Go.Proofs.YtinkodkmbecamaaDoor.PkB Go.Proofs.YtinkodkmbecamaaDoor.PkC Go.Proofs.YtinkodkmbecamaaDoor.PkR Go.Proofs.YtinkodkmbecamaaDoor.FoD Go.Proofs.YtinkodkmbecamaaDoor.FoA
open Go.Proofs.YtinkodkmbecamaaDoor.BxKit (RowAt IntsAt StrsAt MsgsAt)

/-- Three bytes, and four behind them: a new row. -/
theorem run_lead {w : World} {B g c2 : Nat} {A : Option Addr} {l l2 : List UInt8} (ty : TypeId) (h1 : BytesAt w B (some ⟨g, 0, none⟩) 3 l) (h2 : BytesAt w B A 4 l2) :
    ∃ v' w', (Builtin.append_ #[26, 26] ty #[.slice (some ⟨g, 0, none⟩) 3 3, .slice A 4 c2]).run Tryd.prog w = .ok v' w' ∧ OG w (.slice none 0 0) w' 7 v' (l ++ l2) := by
  obtain ⟨i0, hi, hz0, hz1, hz2⟩ := info_parts info5
  obtain ⟨ad, e, _, hc1⟩ := h1.2 (by decide)
  obtain rfl : (⟨g, 0, none⟩ : Addr) = ad := Option.some.inj e
  obtain ⟨a2, rfl, _, hc2⟩ := h2.2 (by decide)
  have hl1 : (by_ l).length = 3 * i0.size := by rw [by_length, h1.1, hz1]
  have hl2 : (by_ l2).length = 4 * i0.size := by rw [by_length, h2.1, hz1]
  have hr := run_append_grow (P := Tryd.prog) w 26 ty 5 i0 (.int .u8 0) Tryd.underlying26 hi hz0 ⟨g, 0, none⟩ 3 3 (by_ l) hl1
    (fun j u hu => by obtain ⟨b, hj, rfl⟩ := by_inv hu; exact hc1 _ _ hj) a2 4 c2 (by_ l2) hl2 (fun j u hu => by obtain ⟨b, hj, rfl⟩ := by_inv hu; exact hc2 _ _ hj) (by decide) (by decide) (by rw [hz2]; decide)
  refine ⟨_, _, hr, ?_⟩
  refine ⟨⟨by rw [by_length, List.length_append, h1.1, h2.1], .inr ⟨w.heap.size, _, _, rfl, Nat.zero_le _, heap_alloc_new w.drew _, grownCap_ge w _ _ _, grownCap_le_maxLen w _ _ _ (by unfold maxLen; omega), ?_, ?_⟩⟩,
    ⟨rfl, rfl, rfl, by simp, fun k hk _ => heap_alloc_old w.drew _ hk⟩, fun k hk => .inr (by simp [Value.ownBlock] at hk; omega)⟩
  · have := grownCap_ge w 7 3 5
    have e1 : (Value.int .u8 0).cells.size = 1 := rfl
    simp [by_length, h1.1, h2.1, Builtin.zeroCells, e1]
    omega
  · rw [by_append, Array.toList_append, Array.toList_append]
    show List.take (7 * 1) ((by_ l ++ by_ l2) ++ _) = _
    rw [List.take_left' (by rw [List.length_append, by_length, by_length, h1.1, h2.1])]
theorem wpList_lead {w : World} {B g c2 : Nat} {A : Option Addr} {l l2 : List UInt8} {ops : Array Oper} {rest : List Oper} {o : Oper} {a : Act} {Q : Exit → Act → World → Prop} (hgd : o.guard = none) (s x : Operand)
    (ho : o.op = .call { callee := .builtin .append, args := #[s, x], argTypes := #[26, 26] }) (hs : a.eval s = .slice (some ⟨g, 0, none⟩) 3 3) (hx : a.eval x = .slice A 4 c2) (h1 : BytesAt w B (some ⟨g, 0, none⟩) 3 l) (h2 : BytesAt w B A 4 l2)
    (h : ∀ v' w', OG w (.slice none 0 0) w' 7 v' (l ++ l2) → wpList Tryd.prog ops Q rest (a.put o.dst v') w') : wpList Tryd.prog ops Q (o :: rest) a w :=
  wpList_plain hgd fun K hK => by
    obtain ⟨v', w', hrun, h3⟩ := run_lead (c2 := c2) o.type h1 h2
    unfold Oper.wp execOp
    simp only [ho, resolve, invoke, builtin, Sem.run_bind, Sem.run_pure, Result.andThen_ok, List.map_toArray, List.map_cons, List.map_nil, hs, hx, hrun]
    exact hK _ _ (h v' w' h3)
/-- What lies anywhere stays: the row is new. -/
theorem ints_stay {w0 wr : World} {v : Value} {n B m : Nat} {l : List UInt8} {A : Option Addr} {zs : List Int} (h : OG w0 (.slice none 0 0) wr n v l) (hz : IntsAt w0 B A m zs) (hB : B ≤ w0.heap.size) {k : Nat} (hk : k < m) :
    ∃ ad x, A = some ad ∧ zs[k]? = some x ∧ wr.cell? (ad.add k) = some (.int .i64 x) := ints_kept h hz hB (fun ad _ e => by simp [Value.ownBlock] at e) hk
set_option maxHeartbeats 4000000 in
set_option maxRecDepth 100000 in
theorem appendFixed_lead {m cp B g N : Nat} {w : World} {l : List UInt8} {A : Option Addr} {zs : List Int} (hO : BytesAt w w.heap.size (some ⟨g, 0, none⟩) 3 l) (hz : IntsAt w B A m zs) (hB : B ≤ w.heap.size) (hm : 0 < m) (hn : m ≤ 1000000) (hN : N = 3 + 4 * m) :
    Calls Tryd.prog 18 #[.slice (some ⟨g, 0, none⟩) 3 3, .slice A m cp] w fun e w' => ∃ v', e = .returned v' ∧ OG w (.slice none 0 0) w' N v' (l ++ fxs zs) := by
  subst hN
  have H0 := Lib.hid hO
  have HZ := Lib.hid hz
  clear hO hz
  go_enter Tryd.func18, Tryd.ntmps18
  go_wp2_with fail
  go_loopw [0, 9] (fun s0 s9 wr => ∃ (v' : Value) (k : Nat), s0 = v' ∧ k ≤ m ∧ s9 = .int .i64 k ∧ ((k = 0 ∧ v' = .slice (some ⟨g, 0, none⟩) 3 3 ∧ wr = w) ∨ (0 < k ∧ Hid (OG w (.slice none 0 0) wr (3 + 4 * k) v' (l ++ fxs (zs.take k)))))) (fun _ s9 _ => m - (intOf s9).toNat)
  case atStart => exact ⟨_, 0, rfl, Nat.zero_le _, rfl, .inl ⟨rfl, rfl, rfl⟩⟩
  case round =>
    obtain ⟨v', k, rfl, hk, rfl, ⟨rfl, rfl, rfl⟩ | ⟨hk0, HO⟩⟩ := hrel
    · obtain ⟨ad, x, rfl, hb, e1, q1⟩ := HZ.out.get hm
      rw [Nat.mul_one] at q1
      unfold BxKit.intC at q1
      rw [show ad.add 0 = ad by simp [Addr.add]] at q1
      have KF := Lib.hid (fixed_any (cp := 0) (nil_bytes wr wr.heap.size) (Nat.le_refl _) x (by decide))
      have HSN := Lib.hid (fxs_snoc e1)
      clear e1 hb
      go_wp2_with (first
        | (go_at_call 45; go_loud (
           refine KF.out.mono ?_
           rintro e w1 ⟨v1, rfl, O1⟩
           obtain ⟨A2, c2, rfl, hc2⟩ := own_slice O1.own
           have O1 := Lib.hid O1
           have H1 := Lib.hid (H0.out.below O1.out.bel (Nat.le_refl _))
           clear q1))
        | (at_builtin; go_loud (
           refine wpList_lead (B := w1.heap.size) rfl _ _ rfl rfl rfl ⟨H1.out.1, fun h => by obtain ⟨ad, e, hb, hc⟩ := H1.out.2 h; exact ⟨ad, e, Nat.lt_of_lt_of_le hb O1.out.bel.size, hc⟩⟩ O1.out.at_ ?_
           intro v3 w3 g3
           have G3 := Lib.hid (show OG wr (.slice none 0 0) w3 (3 + 4 * (0 + 1)) v3 (l ++ fxs (zs.take (0 + 1))) by
             rw [HSN.out]
             refine ⟨g3.own, ?_, fun k hk => ?_⟩
             · exact ⟨g3.fr.os.trans O1.out.bel.os, g3.fr.tape.trans O1.out.bel.tape, g3.fr.output.trans O1.out.bel.output, Nat.le_trans O1.out.bel.size g3.fr.size, fun k hk hr => (g3.fr.block k (Nat.lt_of_lt_of_le hk O1.out.bel.size) hr).trans (O1.out.bel.block k hk)⟩
             · rcases g3.at_ k hk with h | h
               · exact .inl h
               · exact .inr (Nat.le_trans O1.out.bel.size h))
           clear g3)))
      go_roundw
      case rel => exact ⟨v3, 0 + 1, rfl, by omega, by go_num, .inr ⟨by omega, G3⟩⟩
      case measure => simp [intOf]; omega
    · obtain ⟨A1, c1, rfl, hc1⟩ := own_slice HO.out.own
      by_cases hlt : k < m
      · obtain ⟨ad, x, rfl, e1, q1⟩ := ints_stay HO.out HZ.out hB hlt
        have KF := Lib.hid (fixed_any (cp := 0) (nil_bytes wr wr.heap.size) (Nat.le_refl _) x (by decide))
        have HSN := Lib.hid (fxs_snoc e1)
        clear e1
        go_wp2_with (first
          | (go_at_call 45; go_loud (
             refine KF.out.mono ?_
             rintro e w1 ⟨v1, rfl, O1⟩
             obtain ⟨A2, c2, rfl, hc2⟩ := own_slice O1.own
             have O1 := Lib.hid O1
             have G1 := Lib.hid (og_go HO.out O1.out.bel)
             clear q1))
          | (at_builtin; go_loud (
             refine wpList_by rfl _ _ rfl rfl rfl G1.out.own O1.out.at_ (by show 3 + 4 * k + 4 ≤ _; omega) (Nat.zero_le _) ?_
             intro v3 w3 hown3 hg3 hat3
             have G3 := Lib.hid (G1.out.app (n := 3 + 4 * k) (m := 3 + 4 * (k + 1)) (l' := l ++ fxs (zs.take (k + 1))) (by rw [HSN.out, ← List.append_assoc, by_append]; exact hown3) hg3 hat3)
             clear hown3 hg3 hat3)))
        go_roundw
        case rel => exact ⟨v3, k + 1, rfl, by omega, by go_num, .inr ⟨by omega, G3⟩⟩
        case measure => simp [intOf]; omega
      · obtain rfl : m = k := by omega
        have hq : zs.take m = zs := List.take_of_length_le (by rw [HZ.out.len]; omega)
        have ho := HO.out
        rw [hq] at ho
        have HO2 := Lib.hid ho
        clear ho HO hq
        go_wp2_with fail
        go_ret
        exact ⟨_, rfl, HO2.out⟩
end Go.Proofs.YtinkodkmbecamaaDoor.FoF
