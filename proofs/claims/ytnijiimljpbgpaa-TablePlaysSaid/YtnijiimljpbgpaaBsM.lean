/-
  The search of a table over texts and ints: slices.BinarySearchFunc over its text, with the closure that compares names.
-/
import Derived.Test.YtnijiimljpbgpaaCmp
import Derived.Test.YtnijiimljpbgpaaKit
import Derived.Deep.LoopGhost
import Derived.Outline
namespace Go.Proofs.Ytnijiimljpbgpaa.TM
open Go.RowKit Go.Proofs.Ytnijiimljpbgpaa.Kit

abbrev PR : Type := ByteArray × Int
def cells : List PR → List Value
  | [] => []
  | p :: r => (.string (p.1)) :: (.int .i64 (p.2)) :: cells r
theorem cells_length : ∀ ps : List PR, (cells ps).length = ps.length * 2
  | [] => rfl
  | p :: r => by simp [cells, cells_length r]; omega
theorem cells_append : ∀ ps qs : List PR, cells (ps ++ qs) = cells ps ++ cells qs
  | [], _ => rfl
  | p :: r, qs => by simp [cells, cells_append r qs]
theorem cells_take : ∀ (ps : List PR) (i : Nat), cells (ps.take i) = (cells ps).take (i * 2)
  | [], i => by simp [cells]
  | p :: r, 0 => by simp [cells]
  | p :: r, i + 1 => by rw [show (i + 1) * 2 = i * 2 + 1 + 1 by omega]; simp [cells, cells_take r i]
theorem cells_drop : ∀ (ps : List PR) (i : Nat), cells (ps.drop i) = (cells ps).drop (i * 2)
  | [], i => by simp [cells]
  | p :: r, 0 => by simp [cells]
  | p :: r, i + 1 => by rw [show (i + 1) * 2 = i * 2 + 1 + 1 by omega]; simp [cells, cells_drop r i]
theorem cells_at : ∀ (ps : List PR) (i : Nat) (p : PR), ps[i]? = some p → (cells ps)[i * 2]? = some (.string (p.1)) ∧ (cells ps)[i * 2 + 1]? = some (.int .i64 (p.2))
  | q :: r, 0, p, h => by simp at h; subst h; simp [cells]
  | q :: r, i + 1, p, h => by
    have := cells_at r i p (by simpa using h)
    rw [show (i + 1) * 2 = i * 2 + 1 + 1 by omega]
    simpa [cells] using this
theorem cells_one : ∀ (ps : List PR) (v : Value), v ∈ cells ps → v.oneCell' = true
  | p :: r, v, h => by
    simp only [cells, List.mem_cons] at h
    rcases h with rfl | rfl | h
    · rfl
    · rfl
    · exact cells_one r v h

theorem below_alloc (w : World) (o : Obj) : Below w.heap.size w (w.alloc o) := (Below.refl _ _).alloc (Nat.le_refl _) o

set_option maxHeartbeats 400000 in
theorem closure (a : ByteArray) (v : Int) (k : ByteArray) (w : World) : Calls Try.prog 46 #[.agg #[(.string (a)), (.int .i64 (v))], (.string (k))] w fun e w' => e = .returned (.int .i64 (Cmp.cmpS a k)) ∧ Below w.heap.size w w' := by
  go_enter Try.func46, Try.ntmps46
  go_wp2_with (go_at_call 42; refine (Cmp.compare_string _ _ _).mono ?_; rintro e w' ⟨rfl, rfl⟩)
  go_ret
  exact ⟨rfl, below_alloc _ _⟩

def Inv (k : ByteArray) (ps : List PR) (lw hi : Nat) : Prop := (∀ j p, j < lw → ps[j]? = some p → Cmp.cmpS p.1 k < 0) ∧ (∀ j p, hi ≤ j → ps[j]? = some p → ¬ Cmp.cmpS p.1 k < 0)

theorem Inv.up {k : ByteArray} {ps : List PR} {lw hi m : Nat} (hs : Srt Cmp.cmpS ps) (h : Inv k ps lw hi) (p : PR) (hp : ps[m]? = some p) (hc : Cmp.cmpS p.1 k < 0) : Inv k ps (m + 1) hi := by
  refine ⟨fun j q hj hq => ?_, h.2⟩
  rcases Nat.lt_or_eq_of_le (Nat.le_of_lt_succ hj) with hlt | rfl
  · have hjl := (List.getElem?_eq_some_iff.1 hq)
    have hml := (List.getElem?_eq_some_iff.1 hp)
    have := List.pairwise_iff_getElem.1 hs j m hjl.1 hml.1 hlt
    rw [hjl.2, hml.2] at this
    exact Cmp.ordS.trans _ _ _ this hc
  · rw [hp] at hq; injection hq with hq; subst hq; exact hc

theorem Inv.dn {k : ByteArray} {ps : List PR} {lw hi m : Nat} (hs : Srt Cmp.cmpS ps) (h : Inv k ps lw hi) (p : PR) (hp : ps[m]? = some p) (hc : ¬ Cmp.cmpS p.1 k < 0) : Inv k ps lw m := by
  refine ⟨h.1, fun j q hj hq => ?_⟩
  rcases Nat.lt_or_eq_of_le hj with hlt | rfl
  · have hjl := (List.getElem?_eq_some_iff.1 hq)
    have hml := (List.getElem?_eq_some_iff.1 hp)
    have := List.pairwise_iff_getElem.1 hs m j hml.1 hjl.1 hlt
    rw [hjl.2, hml.2] at this
    exact fun h2 => hc (Cmp.ordS.trans _ _ _ this h2)
  · rw [hp] at hq; injection hq with hq; subst hq; exact hc

theorem Inv.start (k : ByteArray) (ps : List PR) : Inv k ps 0 ps.length :=
  ⟨fun j p hj _ => absurd hj (Nat.not_lt_zero j), fun j p hj hp => absurd (List.getElem?_eq_some_iff.1 hp).1 (by omega)⟩

theorem Inv.eq {k : ByteArray} {ps : List PR} {i : Nat} (h : Inv k ps i i) (hi : i ≤ ps.length) : lo Cmp.cmpS k ps = i :=
  lo_eq Cmp.cmpS k ps i hi h.1 (fun p hp => h.2 i p (Nat.le_refl _) hp)

set_option maxHeartbeats 400000 in
theorem bsf_nil (k : ByteArray) (w : World) :
    Calls Try.prog 45 #[.slice none 0 0, (.string (k)), .func (.func 46) #[] #[]] w fun e w' => e = .returned (.tuple #[.int .i64 0, .bool false]) ∧ w = w' := by
  go_enter Try.func45, Try.ntmps45
  go_wp2
  go_loop [9, 10] (fun s9 s10 => s9 = .int .i64 0 ∧ s10 = .int .i64 0) (fun _ _ => 0)
  case atStart => exact ⟨rfl, rfl⟩
  case round =>
    obtain ⟨rfl, rfl⟩ := hrel
    go_wp2
    go_ret2
    exact ⟨rfl, rfl⟩

set_option maxHeartbeats 1000000 in
theorem bsf (g cap : Nat) (k : ByteArray) (w : World) (ps : List PR) (rest : List Value) (hn : ps.length ≤ 1000) (hs : Srt Cmp.cmpS ps) (hr : Row w g 74 (cells ps ++ rest)) :
    Calls Try.prog 45 #[.slice (some ⟨g, 0, none⟩) ps.length cap, (.string (k)), .func (.func 46) #[] #[]] w fun e w' => e = .returned (.tuple #[.int .i64 (lo Cmp.cmpS k ps : Nat), .bool (hit Cmp.cmpS k ps)]) ∧ Below w.heap.size w w' := by
  have hglt := hr.lt
  have hcell : ∀ i, i < ps.length → ∃ p, ps[i]? = some p ∧ ∀ wr, Below w.heap.size w wr → wr.cell? ⟨g, i * 2, none⟩ = some (.string (p.1)) ∧ wr.cell? ⟨g, i * 2 + 1, none⟩ = some (.int .i64 (p.2)) := by
    intro i hi
    refine ⟨ps[i], List.getElem?_eq_getElem hi, fun wr hb => ?_⟩
    have h2 := cells_at ps i _ (List.getElem?_eq_getElem hi)
    have hr' := hr.below hb hglt
    have hl := cells_length ps
    rw [hr'.cell, hr'.cell, List.getElem?_append_left (by omega), List.getElem?_append_left (by omega)]
    exact h2
  have HC := Lib.hid hcell
  have HS := Lib.hid hs
  have I0 := Lib.hid (Inv.start k ps)
  have HN := Lib.hid (Below.refl w.heap.size w)
  generalize hN : ps.length = n at *
  have HL := Lib.hid hN
  clear hcell hs hN hr hglt
  go_enter Try.func45, Try.ntmps45
  go_wp2
  go_loopg [9, 10] n (fun kx s9 s10 wr => ∃ lw hi : Nat, s9 = .int .i64 lw ∧ s10 = .int .i64 hi ∧ lw ≤ hi ∧ hi ≤ n ∧ hi - lw ≤ kx ∧ Hid (Below w.heap.size w wr) ∧ Hid (Inv k ps lw hi))
  case atStart => exact ⟨0, n, rfl, rfl, Nat.zero_le _, Nat.le_refl _, by omega, HN, I0⟩
  case round =>
    clear HN I0
    obtain ⟨lw, hi, rfl, rfl, hlh, hin, hg, hb, hI⟩ := hrel
    by_cases hlt : lw < hi
    · obtain ⟨p, hp, hpc⟩ := HC.out ((lw + hi) / 2) (by omega)
      obtain ⟨hc1, hc2⟩ := hpc wr hb.out
      have HP := Lib.hid hp
      clear hp hpc
      by_cases hyx : Cmp.cmpS p.1 k < 0
      · go_wp2_with fail
        refine (closure _ _ _ _).mono ?_
        rintro e w1 ⟨rfl, hb1⟩
        have hbb := Lib.hid (hb.out.trans (hb1.mono hb.out.size))
        clear hb1
        have hyd : decide (Cmp.cmpS p.1 k < 0) = true := by simpa using hyx
        go_wp2
        go_roundg (hi - ((lw + hi) / 2 + 1))
        case measure => omega
        case rel =>
          exact ⟨(lw + hi) / 2 + 1, hi, by rw [show ((lw : Int) + (hi : Int)) / 2 + 1 = (((lw + hi) / 2 + 1 : Nat) : Int) by omega], rfl, by omega, hin, Nat.le_refl _, hbb, Inv.up HS.out hI.out p HP.out hyx⟩
      · go_wp2_with fail
        refine (closure _ _ _ _).mono ?_
        rintro e w1 ⟨rfl, hb1⟩
        have hbb := Lib.hid (hb.out.trans (hb1.mono hb.out.size))
        clear hb1
        have hyd : decide (Cmp.cmpS p.1 k < 0) = false := by simpa using hyx
        go_wp2
        go_roundg ((lw + hi) / 2 - lw)
        case measure => omega
        case rel =>
          exact ⟨lw, (lw + hi) / 2, rfl, by rw [show ((lw : Int) + (hi : Int)) / 2 = (((lw + hi) / 2 : Nat) : Int) by omega], by omega, by omega, Nat.le_refl _, hbb, Inv.dn HS.out hI.out p HP.out (by omega)⟩
    · obtain rfl : hi = lw := by omega
      have hlo := Inv.eq hI.out (by rw [HL.out]; exact hin)
      by_cases hn2 : hi < n
      · obtain ⟨p, hp, hpc⟩ := HC.out hi hn2
        obtain ⟨hc1, hc2⟩ := hpc wr hb.out
        have hfin : hit Cmp.cmpS k ps = decide (Cmp.cmpS p.1 k = 0) := by unfold hit; rw [hlo, hp]
        have HF := Lib.hid hfin
        have HLO := Lib.hid hlo
        clear hp hpc hfin hlo
        go_wp2_with fail
        refine (closure _ _ _ _).mono ?_
        rintro e w1 ⟨rfl, hb1⟩
        have hbb := Lib.hid (hb.out.trans (hb1.mono hb.out.size))
        clear hb1
        go_wp2
        go_ret2
        exact ⟨by rw [HF.out, HLO.out]; rfl, hbb⟩
      · have hfin : hit Cmp.cmpS k ps = false := by unfold hit; rw [hlo, List.getElem?_eq_none (by rw [HL.out]; omega)]
        have HF := Lib.hid hfin
        have HLO := Lib.hid hlo
        clear hfin hlo
        go_wp2
        go_ret2
        exact ⟨by rw [HF.out, HLO.out]; simp [hn2], hb.out⟩
end Go.Proofs.Ytnijiimljpbgpaa.TM
