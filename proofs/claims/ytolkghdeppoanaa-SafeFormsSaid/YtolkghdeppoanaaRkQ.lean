/-
  Files of several slices as one; a change done to files.
-/
import Derived.Test.YtolkghdeppoanaaRkP
import Derived.Lib.AppendZeros
import Derived.Laws.MakeOwn
set_option linter.unusedVariables false
set_option linter.unusedSimpArgs false
namespace Go.Proofs.Ytolkghdeppoanaa.RkQ
open Go.RowKit Go.Proofs.Ytolkghdeppoanaa.BxD Go.Proofs.Ytolkghdeppoanaa.BxKit Go.Proofs.Ytolkghdeppoanaa.RkO Go.Proofs.Ytolkghdeppoanaa.RkC Go.Proofs.Ytolkghdeppoanaa.RkD Go.Proofs.Ytolkghdeppoanaa.RkR Go.Proofs.Ytolkghdeppoanaa.RkK Go.Proofs.Ytolkghdeppoanaa.RkP

def GrPost (w : World) (e : Ending) (w' : World) : Prop :=
  ∃ v, e = .returned v ∧ w'.ownsRow w.heap.size 44 2 v 0 [] ∧ Below w.heap.size w w'
set_option maxRecDepth 100000 in
theorem own_room {w : World} {n : Nat} (hn : n ≤ 1000000) (zs : Array Value) (hz : zs.size = grownCap w n 0 44 * 2) :
    (w.drew.alloc (.cells zs 44)).ownsRow w.heap.size 44 2 (.slice (some ⟨w.heap.size, 0, none⟩) 0 (grownCap w n 0 44)) 0 [] := by
  refine ⟨rfl, .inr ⟨w.heap.size, grownCap w n 0 44, zs, rfl, Nat.le_refl _, heap_alloc_new w.drew _, Nat.zero_le _, grownCap_le_maxLen w _ _ _ (by unfold maxLen; omega), by rw [hz], by simp⟩⟩
set_option maxRecDepth 100000 in
set_option maxHeartbeats 1000000 in
theorem grow_none (w : World) : Calls Try.prog 85 #[.slice none 0 0, .int .i64 ((0 : Nat) : Int)] w (GrPost w) := by
  go_enter Try.func85, Try.ntmps85
  go_wp2_with fail
  go_ret
  exact ⟨_, rfl, World.ownsRow_nil _ _ _ _, Below.refl _ _⟩
set_option maxRecDepth 100000 in
set_option maxHeartbeats 1000000 in
theorem grow_some {n : Nat} (w : World) (h0 : 0 < n) (hn : n ≤ 1000000) : Calls Try.prog 85 #[.slice none 0 0, .int .i64 (n : Int)] w (GrPost w) := by
  obtain ⟨i0, hi, hz0, hz1, hz2⟩ := info_parts elF.info
  obtain ⟨G, hG⟩ : ∃ G, G = grownCap w n 0 44 := ⟨_, rfl⟩
  have hGn : n ≤ G := by rw [hG]; exact grownCap_ge w _ _ _
  have hGm : G ≤ maxLen := by rw [hG]; exact grownCap_le_maxLen w _ _ _ (by unfold maxLen; omega)
  obtain ⟨zs, hzs⟩ : ∃ zs, zs = Builtin.zeroCells (Value.agg #[.string ⟨#[]⟩, .slice none 0 0]).cells n ++ Builtin.zeroCells (Value.agg #[.string ⟨#[]⟩, .slice none 0 0]).cells (G - n) := ⟨_, rfl⟩
  have hzl : zs.size = G * 2 := by rw [hzs]; simp [Builtin.zeroCells, Value.cells]; omega
  have hap := fun ty => Lib.run_append_nil_zeros (P := Try.prog) w 38 3 ty 44 i0 (.agg #[.string ⟨#[]⟩, .slice none 0 0]) .i64 .i64 Try.underlying38 Try.underlying3 hi hz0 n h0 (by omega) (by omega) (by rw [hz2]; omega)
  rw [← hG, ← hzs] at hap
  have HAP := Lib.hid hap
  have HO := Lib.hid (own_room hn zs (by rw [hzl, hG]))
  rw [← hG] at HO
  have hgl : G ≤ 9223372036854775807 := by unfold maxLen at hGm; omega
  have hd1 : (0 : Int) ≤ (n : Int) := by omega
  have hd2 : (0 : Int) < (n : Int) := by omega
  clear hap hG hzs hzl hi hz0 hz1 hz2 hGm
  go_enter Try.func85, Try.ntmps85
  go_wp2_with (at_builtin; go_loud (refine Lib.wpList_append_run _ rfl _ _ _ _ rfl _ _ rfl rfl _ _ (HAP.out _) ?_))
  go_ret
  exact ⟨_, rfl, HO.out, ((Below.drew (Below.refl w.heap.size w)).alloc (Nat.le_refl _) _)⟩
set_option maxRecDepth 100000 in
theorem grow_any {n : Nat} (w : World) (hn : n ≤ 1000000) : Calls Try.prog 85 #[.slice none 0 0, .int .i64 (n : Int)] w (GrPost w) := by
  rcases Nat.eq_zero_or_pos n with rfl | h0
  · exact grow_none w
  · exact grow_some w h0 hn

/-- A slice of files, as it is told to Concat. -/
structure Sl where
  A : Option Addr
  n : Nat
  c : Nat
  rs : List RF
def tot (l : List Sl) : Nat := (l.map Sl.n).sum
def all (l : List Sl) : List RF := l.flatMap Sl.rs
set_option maxRecDepth 100000 in
theorem tot_take {l : List Sl} {k : Nat} {x : Sl} (h : l[k]? = some x) : tot (l.take (k + 1)) = tot (l.take k) + x.n := by
  obtain ⟨hl, rfl⟩ := List.getElem?_eq_some_iff.1 h
  unfold tot; rw [List.take_succ_eq_append_getElem hl, List.map_append, List.sum_append]; simp only [List.map_cons, List.map_nil, List.sum_cons, List.sum_nil, Nat.add_zero]
set_option maxRecDepth 100000 in
theorem all_take {l : List Sl} {k : Nat} {x : Sl} (h : l[k]? = some x) : all (l.take (k + 1)) = all (l.take k) ++ x.rs := by
  obtain ⟨hl, rfl⟩ := List.getElem?_eq_some_iff.1 h
  unfold all; rw [List.take_succ_eq_append_getElem hl, List.flatMap_append]; simp only [List.flatMap_cons, List.flatMap_nil, List.append_nil]
set_option maxRecDepth 100000 in
theorem tot_le (l : List Sl) (k : Nat) : tot (l.take k) ≤ tot l := by
  have h := List.take_append_drop k l
  have : tot l = tot (l.take k) + tot (l.drop k) := by
    rw [← h]; unfold tot; rw [List.map_append, List.sum_append, List.take_append_drop]
  omega
/-- Slices in memory, each in its cell. -/
def SlAt (w : World) (g : Nat) (l : List Sl) : Prop := g < w.heap.size ∧ ∀ k x, l[k]? = some x → w.cell? ⟨g, k, none⟩ = some (.slice x.A x.n x.c) ∧ FilesR w x.A x.n x.rs
/-- Files of the call's own. -/
def OwF (rs : List RF) (w : World) (e : Ending) (w' : World) : Prop :=
  ∃ A c, e = .returned (.slice A rs.length c) ∧ rs.length ≤ c ∧ FilesR w' A rs.length rs ∧ Below w.heap.size w w'
set_option maxRecDepth 100000 in
set_option maxHeartbeats 4000000 in
theorem concat_any {g m N : Nat} {ss : List Sl} {w : World} (hs : SlAt w g ss) (hm : m = ss.length) (hN : N = tot ss) (hl : N ≤ 1000000) (h6 : m ≤ 1000) :
    Calls Try.prog 70 #[.slice (some ⟨g, 0, none⟩) m m] w (OwF (all ss) w) := by
  have HS := Lib.hid hs
  have HM := Lib.hid hm
  have HN := Lib.hid hN
  clear hs hm hN
  go_enter Try.func70, Try.ntmps70
  go_upto_region 9 with fail
  go_loopw [11, 3] (fun s11 s3 wr => wr = w ∧ ∃ k q : Nat, k ≤ m ∧ s11 = .int .i64 k ∧ s3 = .int .i64 q ∧ q ≤ N ∧ Hid (q = tot (ss.take k))) (fun s11 _ _ => m - (intOf s11).toNat)
  case atStart => exact ⟨rfl, 0, 0, Nat.zero_le _, rfl, rfl, Nat.zero_le _, by simp [tot, Hid]⟩
  case round =>
    obtain ⟨rfl, k, q, hk, rfl, rfl, hq, HQ⟩ := hrel
    by_cases hlt : k < m
    · have hg : ss[k]? = some (ss[k]'(by rw [← HM.out]; exact hlt)) := List.getElem?_eq_getElem _
      rcases hx : ss[k]'(by rw [← HM.out]; exact hlt) with ⟨A, n, c, rs⟩
      rw [hx] at hg
      have h2 := tot_take hg
      have h3 := tot_le ss (k + 1)
      rw [h2] at h3
      rw [← HN.out, ← HQ.out] at h3
      have hc := (HS.out.2 _ _ hg).1
      have H2 := Lib.hid h2
      have h3' : q + n ≤ N := h3
      clear h2 h3 hg hx
      have hge : ¬ ((q : Int) + (n : Int) < 0) := by omega
      go_wp2_with fail
      go_roundw
      case measure => simp [intOf]; omega
      case rel => exact ⟨trivial, k + 1, q + n, by omega, by go_num, by go_num, h3', by rw [H2.out, ← HQ.out]; rfl⟩
    · obtain rfl : k = m := by omega
      obtain rfl : q = N := by rw [HQ.out, HN.out, List.take_of_length_le (by rw [HM.out]; exact Nat.le_refl _)]
      have KG := Lib.hid (grow_any wr hl)
      clear HQ
      go_upto_region 10 with (go_at_call 85; go_loud (
         refine KG.out.mono ?_
         rintro e w1 ⟨v1, rfl, ho1, hb1⟩
         have HO1 := Lib.hid ho1
         have HB1 := Lib.hid hb1
         clear ho1 hb1))
      go_wp2_with fail
      obtain ⟨w0, hw0⟩ : ∃ w0, w0 = wr := ⟨_, rfl⟩
      rw [← hw0] at HO1 HB1 HS ⊢
      have HW0 := Lib.hid hw0
      clear KG hw0
      go_loopw [27, 6] (fun s27 s6 wr => ∃ (v : Value) (j p : Nat), v = s6 ∧ j ≤ k ∧ s27 = .int .i64 j ∧ p ≤ q ∧ Hid (p = tot (ss.take j)) ∧ Hid (Below w0.heap.size w0 wr) ∧ Hid (wr.ownsRow w0.heap.size 44 2 v p (fc (all (ss.take j))))) (fun s27 _ _ => k - (intOf s27).toNat)
      case atStart => exact ⟨_, 0, 0, rfl, Nat.zero_le _, rfl, Nat.zero_le _, by simp [tot, Hid], HB1, HO1⟩
      case round =>
        clear HO1 HB1
        obtain ⟨v, j, p, rfl, hj, rfl, hp, HP, HB, HO⟩ := hrel
        have hsz := HB.out.size
        by_cases hlt2 : j < k
        · have hg : ss[j]? = some (ss[j]'(by rw [← HM.out]; exact hlt2)) := List.getElem?_eq_getElem _
          rcases hx : ss[j]'(by rw [← HM.out]; exact hlt2) with ⟨A, n, c, rs⟩
          rw [hx] at hg
          have h2 := tot_take hg
          have h3 := tot_le ss (j + 1)
          rw [h2] at h3
          rw [← HN.out, ← HP.out] at h3
          obtain ⟨hc, hfr⟩ := HS.out.2 _ _ hg
          have hc2 : wr.cell? { block := g, off := j } = some (.slice A n c) := (HB.out.cell (p := ⟨g, j, none⟩) HS.out.1).trans hc
          have HF := Lib.hid (hfr.kp (Kp.below HB.out (Nat.le_refl _)))
          have H2 := Lib.hid h2
          have HA := Lib.hid (all_take hg)
          have h3' : p + n ≤ q := h3
          clear h2 h3 hg hx hc hfr
          go_wp2_with (at_builtin; go_loud (
             refine wpList_rows elF rfl _ _ rfl rfl rfl HO.out HF.out.src (by unfold maxLen; omega) (by omega) HB.out.size ?_
             intro v6 w6 hown hg6 _
             have HO6 := Lib.hid (show w6.ownsRow w0.heap.size 44 2 v6 (p + n) (fc (all (ss.take (j + 1)))) by rw [HA.out, fc_append]; exact hown)
             have HB6 := Lib.hid (HB.out.grown hg6 HB.out.size (fun g e => (HO.out.lt g e).1))
             clear hown hg6))
          go_roundw
          case measure => simp [intOf]; omega
          case rel => exact ⟨_, j + 1, p + n, rfl, by omega, by go_num, h3', by rw [H2.out, ← HP.out]; rfl, HB6, HO6⟩
        · obtain rfl : j = k := by omega
          have hall : ss.take j = ss := List.take_of_length_le (by rw [HM.out]; exact Nat.le_refl _)
          have ho := HO.out
          rw [hall] at ho
          have hlen := ho.1
          rw [fc_length] at hlen
          obtain rfl : p = (all ss).length := by omega
          obtain ⟨A6, k6, rfl, hk6⟩ := RkR.own_slice ho
          have hdk : ∀ r ∈ all ss, DOk wr r := by
            intro r hr
            unfold all at hr
            obtain ⟨x, hx, hrx⟩ := List.mem_flatMap.1 hr
            obtain ⟨i, hi⟩ := List.mem_iff_getElem?.1 hx
            exact ((HS.out.2 i x hi).2.kp (Kp.below HB.out (Nat.le_refl _))).2.1 r hrx
          have HP2 := Lib.hid (show OwF (all ss) w0 (.returned (.slice A6 (all ss).length k6)) wr from ⟨A6, k6, rfl, hk6, filesR_own ho hdk, HB.out⟩)
          clear ho hlen hdk
          go_wp2_with fail
          go_ret
          have hp := HP2.out
          rw [HW0.out] at hp
          exact hp
end Go.Proofs.Ytolkghdeppoanaa.RkQ
