/-
  NumsOne: the walk.
-/
import Derived.Test.YtmojecimmogeaaaDoorI
import Derived.Test.YtmojecimmogeaaaDoorK
namespace Go.Proofs.YtmojecimmogeaaaDoor.numsOne
open Go.RowKit Go.Proofs.YtmojecimmogeaaaDoor.Kit Go.Proofs.YtmojecimmogeaaaDoor.A Go.Proofs.YtmojecimmogeaaaDoor.B Go.Proofs.YtmojecimmogeaaaDoor.F Go.Proofs.YtmojecimmogeaaaDoor.G Go.Proofs.YtmojecimmogeaaaDoor.H Go.Proofs.YtmojecimmogeaaaDoor.I Go.Proofs.YtmojecimmogeaaaDoor.J Go.Proofs.YtmojecimmogeaaaDoor.K

def Yes (w : World) (e : Ending) (w' : World) : Prop := e = .returned (.bool true) ∧ Below w.heap.size w w'
theorem modM (a : Int) : ∃ N : Int, 1 ≤ N ∧ N ≤ 1000000 ∧ wrap64 (1 + wrap64 ((IntKind.u64.wrap a).tmod 1000000)) = N := by
  have h0 : 0 ≤ IntKind.u64.wrap a := by rw [IntKind.wrap_u64]; omega
  have h1 : (IntKind.u64.wrap a).tmod 1000000 = IntKind.u64.wrap a % 1000000 := Int.tmod_eq_emod_of_nonneg h0
  refine ⟨IntKind.u64.wrap a % 1000000 + 1, by omega, by omega, ?_⟩
  rw [h1]
  unfold wrap64
  omega
theorem good_range {zs : List Int} {acc : List Sp} (h : JGood zs acc) {s : Sp} (hs : s ∈ acc) : s.1 ∈ zs ∧ s.2 ∈ zs := by
  obtain ⟨pre, hp, hj⟩ := h
  exact ⟨((hp _).1 (hj.first_mem hs)).1, ((hp _).1 (hj.last_mem hs)).1⟩
theorem good_rise {zs : List Int} {acc : List Sp} (h : JGood zs acc) {i j : Nat} (hij : i < j) (hj : j < acc.length) : (acc[i]'(by omega)).1 < acc[j].1 := by
  obtain ⟨pre, hp, hjn⟩ := h
  have h1 := List.pairwise_iff_getElem.1 hjn.ch i j (by omega) hj hij
  have h2 := hjn.ok _ (List.getElem_mem (show i < acc.length by omega))
  omega
theorem good_one {N : Int} {acc : List Sp} (h : JGood [N] acc) (h1 : 1 ≤ N) (h2 : N ≤ 1000000) : acc = [(N, N)] := by
  have h' := h
  obtain ⟨pre, hp, hjn⟩ := h'
  have hN : N ∈ pre := (hp N).2 ⟨by simp, h1, h2⟩
  obtain ⟨s, hs, _⟩ := (hjn.mem N).2 hN
  match acc, h, hs with
  | [t], h, _ =>
    have := good_range h (s := t) (by simp)
    simp only [List.mem_singleton] at this
    rw [show t = (t.1, t.2) from rfl, this.1, this.2]
  | t :: u :: r, h, _ =>
    have a1 := good_range h (s := t) (by simp)
    have a2 := good_range h (s := u) (by simp)
    have a3 := good_rise h (i := 0) (j := 1) (by decide) (by simp)
    simp only [List.mem_singleton] at a1 a2
    simp at a3
    omega
theorem good_two {N M : Int} {acc : List Sp} (h : JGood [N, M, N] acc) : acc.length ≤ 2 := by
  match acc, h with
  | [], _ => simp
  | [_], _ => simp
  | [_, _], _ => simp
  | t :: u :: v :: r, h =>
    have a1 := (good_range h (s := t) (by simp)).1
    have a2 := (good_range h (s := u) (by simp)).1
    have a3 := (good_range h (s := v) (by simp)).1
    have b1 := good_rise h (i := 0) (j := 1) (by decide) (by simp)
    have b2 := good_rise h (i := 1) (j := 2) (by decide) (by simp)
    simp only [List.mem_cons, List.not_mem_nil, or_false] at a1 a2 a3
    simp at b1 b2
    omega
theorem may_one {N : Int} (h1 : 1 ≤ N) (h2 : N ≤ 1000000) : mayB [(N, N)] = true := by
  have : okE N = true := decide_eq_true ⟨by omega, h2⟩
  unfold mayB okS
  simp [this]
theorem has_one {N M : Int} (h1 : 1 ≤ N) (h2 : N ≤ 1000000) (h3 : 1 ≤ M) : hasB [(N, N)] M N = (M == N) := by
  unfold hasB spB inB
  rw [may_one h1 h2, decide_eq_true h3]
  simp only [if_neg (show ¬ N = 0 by omega), List.any_cons, List.any_nil, Bool.or_false, Bool.true_and]
  rw [Bool.eq_iff_iff, decide_eq_true_eq, beq_iff_eq]
  omega
theorem has_star {N M : Int} (h1 : 1 ≤ N) (h3 : 1 ≤ M) : hasB [(0, 0)] M N = (M == N) := by
  unfold hasB spB inB
  rw [show mayB [(0, 0)] = true by decide, decide_eq_true h3]
  simp only [if_true, List.any_cons, List.any_nil, Bool.or_false, Bool.true_and]
  rw [Bool.eq_iff_iff, decide_eq_true_eq, beq_iff_eq]
  omega
theorem intsAt_one (w : World) (N : Int) {b : Nat} (hb : b = w.heap.size) : IntsAt (w.alloc (.cells #[.int .i64 N] 3)) (some ⟨b, 0, none⟩) 1 [N] := by
  subst hb
  refine ⟨rfl, fun _ => ⟨_, rfl, by simp, fun j z hz => ?_⟩⟩
  match j, hz with
  | 0, hz => simp at hz; subst hz; simp [Addr.add]
  | j + 1, hz => simp at hz
theorem intsAt_three (w : World) (N M L : Int) {b : Nat} (hb : b = w.heap.size) : IntsAt (w.alloc (.cells #[.int .i64 N, .int .i64 M, .int .i64 L] 3)) (some ⟨b, 0, none⟩) 3 [N, M, L] := by
  subst hb
  refine ⟨rfl, fun _ => ⟨_, rfl, by simp, fun j z hz => ?_⟩⟩
  match j, hz with
  | 0, hz => simp at hz; subst hz; simp [Addr.add]
  | 1, hz => simp at hz; subst hz; simp [Addr.add]
  | 2, hz => simp at hz; subst hz; simp [Addr.add]
  | j + 3, hz => simp at hz

set_option maxHeartbeats 4000000 in
set_option maxRecDepth 100000 in
theorem walk (n m : Int) (w : World) (ht : Tab w) :
    Calls Tryd.prog 6 #[.int .i64 n, .int .i64 m] w (Yes w) := by
  obtain ⟨N, hN1, hN2, hN⟩ := modM n
  obtain ⟨M, hM1, hM2, hM⟩ := modM m
  have HT := Lib.hid ht
  have HN := Lib.hid hN
  have HM := Lib.hid hM
  clear ht hN hM
  go_enter Tryd.func6, Tryd.ntmps6
  go_wp2_with fail
  rw [HN.out, HM.out]
  have HJ := Lib.hid (join_any (cp := 1) (intsAt_one w N rfl) (by decide))
  refine HJ.out.mono ?_
  rintro e w1 ⟨A1, m1, c1, acc, rfl, ho, hg⟩
  have hacc := good_one hg hN1 hN2
  subst hacc
  obtain rfl : 1 = m1 := own_len ho.1
  have hb1 : Below w.heap.size w w1 := ((Below.refl _ _).alloc (Nat.le_refl _) _).trans (ho.2.mono (by simp))
  have H1 := Lib.hid (show At w w1 A1 1 [(N, N)] from ⟨hb1, spansAt_own ho.1⟩)
  have C := text_any (cp := c1) H1.out.at_ (HT.out.below hb1 (Nat.le_refl _))
  have hmay := may_one hN1 hN2
  obtain ⟨S, hS⟩ : ∃ S, S = txB [(N, N)] := ⟨_, rfl⟩
  have P := fun w => parse_any (zs := [(N, N)]) (n := 1) hmay rfl w
  rw [show (⟨(txt [(N, N)]).toArray⟩ : ByteArray) = S by rw [hS]; unfold txB; rw [hmay]; rfl] at P
  rw [← hS] at C
  have HC := Lib.hid C
  have HP := Lib.hid P
  clear ho hg hb1 C P hS HJ
  go_wp2_with fail
  refine HC.out.mono ?_
  rintro e w2 ⟨rfl, hb2⟩
  have H2 := Lib.hid (H1.out.go hb2)
  clear hb2 H1 HC
  go_wp2_with fail
  refine (HP.out _).mono ?_
  rintro e w3 ⟨A3, c3, rfl, ho⟩
  have hb3 := H2.out.bel.trans (ho.2.mono H2.out.bel.size)
  obtain ⟨g, c6, hv6, hg6, hglt⟩ := own_form ho.1 (by decide)
  injection hv6 with e1 e2 e3
  subst e1; subst e3
  have hs3 := spansAt_own ho.1
  have H3 := Lib.hid (show At w w3 (some ⟨g, 0, none⟩) 1 [(N, N)] from ⟨hb3, hs3⟩)
  obtain ⟨hc1, hc2⟩ : w3.cell? { block := g, off := 0 } = some (.int .i64 N) ∧ w3.cell? { block := g, off := 1 } = some (.int .i64 N) := by
    rw [ho.1.cellAt 0 (by decide), ho.1.cellAt 1 (by decide)]
    exact ⟨rfl, rfl⟩
  have C := has_any (cp := c3) (n := M) (most := N) H3.out.at_
  rw [has_one hN1 hN2 hM1] at C
  obtain ⟨q, hq⟩ : ∃ q, q = (M == N) := ⟨_, rfl⟩
  rw [← hq] at C
  have HC := Lib.hid C
  have HQ := Lib.hid hq
  have hqq : (q == q) = true := by simp
  have hnn : (N == N) = true := by simp
  clear ho hb3 hs3 C H2 HP hq
  go_wp2_with fail
  refine HC.out.mono ?_
  rintro e w4 ⟨rfl, hb4⟩
  have hmn : (M == N) = q := HQ.out.symm
  have H4 := Lib.hid (H3.out.go hb4)
  have hs4 := spansAt_new w4 0 0 rfl
  have C := has_any (cp := 1) (n := M) (most := N) hs4
  rw [has_star hN1 hM1, ← HQ.out] at C
  have HC := Lib.hid C
  clear hb4 hs4 C H3 hc1 hc2
  go_wp2_with fail
  refine HC.out.mono ?_
  rintro e w5 ⟨rfl, hb5⟩
  have hb45 : Below w4.heap.size w4 w5 := ((Below.refl _ _).alloc (Nat.le_refl _) _).trans (hb5.mono (by simp))
  have H5 := Lib.hid (H4.out.go hb45)
  have HJ := Lib.hid (join_any (cp := 3) (intsAt_three w5 N M N rfl) (by decide))
  clear hb5 hb45 H4 HC
  go_wp2_with fail
  refine HJ.out.mono ?_
  rintro e w6 ⟨A6, m6, c6, acc, rfl, ho, hg⟩
  have hm6 : (m6 : Int) ≤ 2 := by have := good_two hg; have := own_len ho.1; omega
  have hb56 : Below w5.heap.size w5 w6 := ((Below.refl _ _).alloc (Nat.le_refl _) _).trans (ho.2.mono (by simp))
  have H6 := Lib.hid (H5.out.go hb56)
  have HAW := Lib.hid (awake (HT.out.below H6.out.bel (Nat.le_refl _)))
  clear ho hg hb56 H5 HJ
  go_wp2_with fail
  refine HAW.out.mono ?_
  rintro e w7 ⟨rfl, hb7⟩
  go_wp2_with fail
  go_ret
  exact ⟨rfl, H6.out.bel.trans (hb7.mono H6.out.bel.size)⟩
end Go.Proofs.YtmojecimmogeaaaDoor.numsOne
