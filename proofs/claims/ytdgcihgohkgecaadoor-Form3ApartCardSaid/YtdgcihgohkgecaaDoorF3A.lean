/-
  A message of the third form behind a row of the call's own.
-/
import Derived.Test.YtdgcihgohkgecaaDoorF3D
import Derived.Test.YtdgcihgohkgecaaDoorPtA
import Derived.Deep.RegionHeld3
namespace Go.Proofs.YtdgcihgohkgecaaDoor.F3A
open Go.RowKit Go.Proofs.YtdgcihgohkgecaaDoor.BxD Go.Proofs.YtdgcihgohkgecaaDoor.PkKit Go.Proofs.YtdgcihgohkgecaaDoor.PkA Go.Proofs.YtdgcihgohkgecaaDoor.PkB Go.Proofs.YtdgcihgohkgecaaDoor.PkC Go.Proofs.YtdgcihgohkgecaaDoor.PkR Go.Proofs.YtdgcihgohkgecaaDoor.OlD Go.Proofs.YtdgcihgohkgecaaDoor.OlOm Go.Proofs.YtdgcihgohkgecaaDoor.PtD Go.Proofs.YtdgcihgohkgecaaDoor.PtK Go.Proofs.YtdgcihgohkgecaaDoor.PtA Go.Proofs.YtdgcihgohkgecaaDoor.F3D
open Go.Proofs.YtdgcihgohkgecaaDoor.BxKit (RowAt IntsAt StrsAt MsgsAt)

theorem ints_new (w : World) (xs : List Int) (a : Array Value) (h : a = (xs.map (Value.int .i64)).toArray) (hl : xs.length ≤ 1000000) : IntsAt (w.alloc (.cells a 3)) (w.heap.size + 1) (some ⟨w.heap.size, 0, none⟩) xs.length xs := by
  subst h
  refine ⟨rfl, by omega, fun _ => ⟨_, rfl, Nat.lt_succ_self _, fun j x hj => ?_⟩⟩
  unfold BxKit.intC
  rw [Nat.mul_one, BxR.cell_new]
  simp [hj]
theorem tx_len {s : ByteArray} (h : s.size ≤ 1099511627776) : (tx s).length ≤ 6 + s.size := by
  have h1 := uv_len h
  have h2 : s.data.toList.length = s.size := by rw [Array.length_toList]; rfl
  unfold tx
  rw [List.length_append]
  omega
theorem kb_len : ∀ (ks : List Int) (a : Int), (kb a ks).length ≤ 6 * ks.length
  | [], _ => Nat.zero_le _
  | k :: r, a => by
    have h1 := nums_len [stp k a]
    have h2 := kb_len r k
    show (nums [stp k a] ++ kb k r).length ≤ _
    simp only [List.length_append, List.length_cons, List.length_nil] at h1 ⊢
    omega
theorem kb_take {ks : List Int} {k : Nat} {x : Int} (a : Int) (h : ks[k]? = some x) : kb a (ks.take (k + 1)) = kb a (ks.take k) ++ nums [stp x (lst a (ks.take k))] ∧ lst a (ks.take (k + 1)) = x := by
  obtain ⟨hl, rfl⟩ := List.getElem?_eq_some_iff.1 h
  rw [List.take_succ_eq_append_getElem hl]
  exact ⟨kb_snoc _ _ _, lst_snoc _ _ _⟩
set_option maxHeartbeats 1000000 in
set_option maxRecDepth 100000 in
theorem step_any (w : World) {n last : Int} (hn : -1 ≤ n ∧ n ≤ 1000000) (hl : -1 ≤ last ∧ last ≤ 1000000) : Calls Tryd.prog 88 #[.int .i64 n, .int .i64 last] w fun e w' => e = .returned (.int .i64 (stp n last)) ∧ w = w' := by
  by_cases h : n ≤ last
  · have hs : stp n last = 0 := by unfold stp; rw [if_pos h]
    rw [hs]
    clear hs
    go_enter Tryd.func88, Tryd.ntmps88
    go_wp2_with fail
    go_ret
    exact ⟨rfl, rfl⟩
  · have hs : stp n last = n - last := stp_le n last (by omega) hl.1 hn.2
    rw [hs]
    clear hs
    have hlt : last < n := by omega
    have hw2 : IntKind.i64.wrap (n - last) = n - last := by rw [IntKind.wrap_i64]; omega
    have hsm : ¬ (9223372036854775807 + last < n) := by omega
    have hwm : wrap64 (9223372036854775807 + last) = 9223372036854775807 + last ∨ 0 ≤ last := by
      by_cases h0 : 0 ≤ last
      · exact .inr h0
      · left; unfold wrap64; omega
    by_cases h0 : last < 0
    · obtain rfl : last = -1 := by omega
      go_enter Tryd.func88, Tryd.ntmps88
      go_wp2_with fail
      go_ret
      exact ⟨rfl, rfl⟩
    · go_enter Tryd.func88, Tryd.ntmps88
      go_wp2_with fail
      go_ret
      exact ⟨rfl, rfl⟩
set_option maxHeartbeats 4000000 in
set_option maxRecDepth 100000 in
theorem appendMsg_om {n B base : Nat} {w : World} {v : Value} {l : List UInt8} {u md d fl last : Int} {id tx' : ByteArray} {K : Option Addr} {kn kc : Nat} {ks : List Int} (hO : Ow w base v n (by_ l)) (hz : IntsAt w B K kn ks) (hB : B ≤ base) (hbs : base ≤ w.heap.size) (hkn : kn ≤ 1000000) (hks : ∀ k ∈ ks, -1 ≤ k ∧ k ≤ 1000000) (hu : -1 ≤ u ∧ u ≤ 1000000) (hl : -1 ≤ last ∧ last ≤ 1000000) (hid : id.size ≤ 300) (htx : tx'.size ≤ 300) (hn : n ≤ 1099000000000) :
    Calls Tryd.prog 58 #[v, .agg #[.int .i64 u, .int .i64 md, .int .i64 d, .string id, .int .i64 fl, .slice K kn kc, .string tx'], .int .i64 last] w fun e w' => ∃ v', e = .returned v' ∧ OM w v w' (n + (m3 last ⟨u, md, d, id, fl, ks, tx'⟩).length) v' (l ++ m3 last ⟨u, md, d, id, fl, ks, tx'⟩) := by
  have O0 := Lib.hid (OM.alloc (OM.start hO) (.cells #[.int .i64 u, .int .i64 md, .int .i64 d, .string id, .int .i64 fl, .slice K kn kc, .string tx'] 28))
  have M0 := Lib.hid (show MBk (w.alloc (.cells #[.int .i64 u, .int .i64 md, .int .i64 d, .string id, .int .i64 fl, .slice K kn kc, .string tx'] 28)) w.heap.size u md d id fl K kn kc tx' from heap_alloc_new w _)
  have HZ := Lib.hid (IntsAt.below hz ((Below.refl base w).alloc hbs (.cells #[.int .i64 u, .int .i64 md, .int .i64 d, .string id, .int .i64 fl, .slice K kn kc, .string tx'] 28)) hB)
  have hP := own_none hO
  have HOB := Lib.hid (fun g e => (hO.lt g e).1)
  have hs0 : w.heap.size + 1 ≤ (w.alloc (.cells #[.int .i64 u, .int .i64 md, .int .i64 d, .string id, .int .i64 fl, .slice K kn kc, .string tx'] 28)).heap.size := by simp
  have hkl := hz.len
  have HKS := Lib.hid hks
  obtain ⟨A, c0, rfl, hc0⟩ := hO.slice
  clear hO hz hks
  go_enter Tryd.func58, Tryd.ntmps58
  go_upto_region 1 with fail
  obtain ⟨P, hPe⟩ : ∃ P, P = w.heap.size := ⟨_, rfl⟩
  rw [← hPe] at M0 hs0 hP ⊢
  have hPb : base ≤ P := by omega
  clear hPe
  generalize (World.alloc w _) = w1 at O0 M0 HZ hs0 ⊢
  obtain ⟨m0, m1, m2, m3', m4, m5, m6⟩ := M0.out.cells
  have O1 := Lib.hid (OM.start O0.out.own)
  have HM := Lib.hid (fun (wr : World) (g : w1.grownBy wr (Value.slice A n c0).ownBlock) => (M0.out.keep (g.block P hs0 (fun e => hP e.symm))).cells)
  have O1d := Lib.hid (OM.go O1.out ((Below.refl w1.heap.size w1).drew))
  obtain ⟨st, hst⟩ : ∃ st, st = stp u last := ⟨_, rfl⟩
  have KS := Lib.hid (fun wr : World => step_any wr hu hl)
  have HST := Lib.hid hst
  rw [← hst] at KS
  have ka := nums_any (base := 0) (cp := 5) ((OM.alloc O1d.out (.cells #[.int .i64 st, .int .i64 md, .int .i64 d, .int .i64 fl, .int .i64 (kn : Nat)] 3)).own) (ints_new w1.drew [st, md, d, fl, ((kn : Nat) : Int)] _ rfl (by simp)) (by simp) (fun _ ad e => by injection e with e; subst e; exact own_none O1d.out.own) (by simp; omega)
  have hl1 := nums_len [st, md, d, fl, ((kn : Nat) : Int)]
  obtain ⟨q, hq⟩ : ∃ q, q = (nums [st, md, d, fl, ((kn : Nat) : Int)]).length := ⟨_, rfl⟩
  rw [← hq] at ka hl1
  have hq12 : q ≤ 30 := hl1
  have HQ := Lib.hid hq
  have KA := Lib.hid (show Calls Tryd.prog 56 #[.slice A n c0, .slice (some ⟨w1.heap.size, 0, none⟩) 5 5] (w1.drew.alloc (.cells #[.int .i64 st, .int .i64 md, .int .i64 d, .int .i64 fl, .int .i64 (kn : Nat)] 3)) _ from ka)
  clear ka hq hl1 hst
  go_region_held3 (fun wr => wr.cell? { block := P, off := 0 } = some (.int .i64 u) ∧ wr.cell? { block := P, off := 1 } = some (.int .i64 md) ∧ wr.cell? { block := P, off := 2 } = some (.int .i64 d) ∧ wr.cell? { block := P, off := 4 } = some (.int .i64 fl) ∧ wr.cell? { block := P, off := 5 } = some (.slice K kn kc)) (first | exact ⟨m0, m1, m2, m4, m5⟩ | exact ⟨(HM.out _ O2.out.fr).1, (HM.out _ O2.out.fr).2.1, (HM.out _ O2.out.fr).2.2.1, (HM.out _ O2.out.fr).2.2.2.2.1, (HM.out _ O2.out.fr).2.2.2.2.2.1⟩ | go_keep) (first
    | (go_at_call 88
       refine (KS.out _).mono ?_
       rintro e w2 ⟨rfl, rfl⟩
       dsimp only)
    | (go_at_call 56
       refine KA.out.mono ?_
       rintro e w2 ⟨v2, rfl, g2⟩
       obtain ⟨A2, c2, rfl, hc2⟩ := g2.own.slice
       have O2 := Lib.hid (OM.trans (OM.alloc O1d.out _) g2)
       clear g2
       dsimp only))
  rename_i hHeld
  clear hHeld m0 m1 m2 m3' m4 m5 m6 KA KS O1d
  obtain ⟨m0, m1, m2, m3', m4, m5, m6⟩ := HM.out w2 O2.out.fr
  obtain ⟨l0, hl0⟩ : ∃ l0, l0 = l ++ nums [st, md, d, fl, ((kn : Nat) : Int)] := ⟨_, rfl⟩
  rw [← hl0] at O2
  have HL0 := Lib.hid hl0
  have HNE := Lib.hid (show 0 < kn → ∀ ad, K = some ad → (Value.slice A n c0).ownBlock ≠ some ad.block from fun h0 ad e e2 => by
    obtain ⟨ad', e', hlt, _⟩ := HZ.out.2.2 h0
    rw [e'] at e
    have := Option.some.inj e
    subst this
    have := HOB.out _ e2
    omega)
  clear hl0
  go_wp2_with fail
  go_loopw [0, 7, 29] (fun s0 s7 s29 wr => ∃ (v' : Value) (k r : Nat) (a : Int), s0 = v' ∧ k ≤ kn ∧ s29 = .int .i64 k ∧ s7 = .int .i64 a ∧ (-1 ≤ a ∧ a ≤ 1000000) ∧ r ≤ 6 * k ∧ Hid (a = lst (-1) (ks.take k)) ∧ Hid (r = (kb (-1) (ks.take k)).length) ∧ Hid (OM w1 (.slice A n c0) wr (n + q + r) v' (l0 ++ kb (-1) (ks.take k)))) (fun _ _ s29 _ => kn - (intOf s29).toNat)
  case atStart => exact ⟨_, 0, 0, -1, rfl, Nat.zero_le _, rfl, rfl, by omega, Nat.zero_le _, rfl, rfl, by have := O2.out; simpa [kb, Hid] using this⟩
  case round =>
    clear m0 m1 m2 m3' m4 m5 m6 O2
    obtain ⟨v', k, r, a, rfl, hk, rfl, rfl, ha, hr, HA, HR, HO⟩ := hrel
    obtain ⟨A1, c1, rfl, hc1⟩ := Ow.slice HO.out.own
    obtain ⟨m0, m1, m2, m3', m4, m5, m6⟩ := HM.out wr HO.out.fr
    by_cases hlt : k < kn
    · obtain ⟨ad, x, rfl, e1, q1⟩ := ints_kept HO.out HZ.out (show B ≤ w1.heap.size by omega) (HNE.out (by omega)) hlt
      have hxb := HKS.out x (List.mem_of_getElem? e1)
      have hkb := kb_take (-1) e1
      rw [← HA.out] at hkb
      have HKB := Lib.hid hkb
      have KS := Lib.hid (step_any wr hxb ha)
      obtain ⟨y, hy⟩ : ∃ y, y = stp x a := ⟨_, rfl⟩
      rw [← hy] at KS
      have HY := Lib.hid hy
      have ka := nums_any (base := 0) (cp := 1) ((OM.alloc HO.out (.cells #[.int .i64 y] 3)).own) (ints_new wr [y] _ rfl (by simp)) (by simp) (fun _ ad e => by injection e with e; subst e; exact own_none HO.out.own) (by simp; omega)
      have hl1 := nums_len [y]
      obtain ⟨t, ht⟩ : ∃ t, t = (nums [y]).length := ⟨_, rfl⟩
      rw [← ht] at ka hl1
      have ht6 : t ≤ 6 := hl1
      have HT := Lib.hid ht
      have KA := Lib.hid (show Calls Tryd.prog 56 #[.slice A1 (n + q + r) c1, .slice (some ⟨wr.heap.size, 0, none⟩) 1 1] (wr.alloc (.cells #[.int .i64 y] 3)) _ from ka)
      clear e1 hkb hy ka hl1 ht m0 m1 m2 m3' m4 m5 m6
      go_wp2_with (first
        | (go_at_call 88; go_loud (
           refine KS.out.mono ?_
           rintro e w3 ⟨rfl, rfl⟩))
        | (go_at_call 56; go_loud (
           refine KA.out.mono ?_
           rintro e w3 ⟨v3, rfl, g3⟩
           have O3 := Lib.hid (OM.trans (OM.alloc HO.out _) g3)
           clear g3 q1)))
      go_roundw
      case rel => exact ⟨v3, k + 1, r + t, x, rfl, by omega, by go_num, rfl, hxb, by omega, HKB.out.2.symm, by rw [HKB.out.1, List.length_append, ← HR.out, ← HY.out, ← HT.out, Hid], by have := O3.out; rw [Nat.add_assoc] at this; rw [HKB.out.1, ← HY.out, ← List.append_assoc]; exact this⟩
      case measure => simp [intOf]; omega
    · obtain rfl : kn = k := by omega
      have hqq : ks.take kn = ks := List.take_of_length_le (by omega)
      have ho := HO.out
      have hr2 := HR.out
      rw [hqq] at ho hr2
      have HO2 := Lib.hid ho
      have HR2 := Lib.hid hr2
      clear ho hr2 HO HA HR hqq
      have KT := Lib.hid (text_om HO2.out.own id (by omega) (by omega))
      have htl := tx_len (s := id) (by omega)
      obtain ⟨t, ht⟩ : ∃ t, t = (tx id).length := ⟨_, rfl⟩
      rw [← ht] at KT htl
      have HT := Lib.hid ht
      clear ht
      go_upto_region 10 with (go_at_call 57; go_loud (
         refine KT.out.mono ?_
         rintro e w3 ⟨v3, rfl, g3⟩
         obtain ⟨A3, c3, rfl, hc3⟩ := g3.own.slice
         have O3 := Lib.hid (OM.trans HO2.out g3)
         clear g3 m0 m1 m2 m3' m4 m5 m6))
      obtain ⟨m0, m1, m2, m3', m4, m5, m6⟩ := HM.out w3 O3.out.fr
      have KT2 := Lib.hid (text_om O3.out.own tx' (by omega) (by omega))
      go_wp2_with (go_at_call 57; go_loud (
         refine KT2.out.mono ?_
         rintro e w4 ⟨v4, rfl, g4⟩
         have O4 := Lib.hid (OM.trans O0.out (OM.trans O3.out g4))
         clear g4 m0 m1 m2 m3' m4 m5 m6))
      go_ret
      refine ⟨v4, rfl, ?_⟩
      have e : m3 last ⟨u, md, d, id, fl, ks, tx'⟩ = nums [st, md, d, fl, ((kn : Nat) : Int)] ++ (kb (-1) ks ++ (tx id ++ tx tx')) := by
        unfold m3
        simp only [← HST.out, hkl]
      have h := O4.out
      rw [HL0.out] at h
      rw [e]
      simp only [List.length_append, ← List.append_assoc, ← HQ.out, ← HR2.out, ← HT.out] at h ⊢
      simp only [← Nat.add_assoc] at h ⊢
      exact h
end Go.Proofs.YtdgcihgohkgecaaDoor.F3A
