/-
  NumsJoins: the walk.
-/
import Derived.Test.YtmojecimmogeaaaDoorI
import Derived.Test.YtmojecimmogeaaaDoorK
namespace Go.Proofs.YtmojecimmogeaaaDoor.numsJoins
open Go.RowKit Go.Proofs.YtmojecimmogeaaaDoor.Kit Go.Proofs.YtmojecimmogeaaaDoor.A Go.Proofs.YtmojecimmogeaaaDoor.B Go.Proofs.YtmojecimmogeaaaDoor.F Go.Proofs.YtmojecimmogeaaaDoor.J Go.Proofs.YtmojecimmogeaaaDoor.K Go.Proofs.YtmojecimmogeaaaDoor.I

def Yes (w : World) (e : Ending) (w' : World) : Prop := e = .returned (.bool true) ∧ Below w.heap.size w w'
theorem acc_cell {w1 wr : World} {base g m c i : Nat} {x y : Int} {acc : List Sp} (ho : w1.ownsRow base 32 2 (.slice (some ⟨g, 0, none⟩) m c) m (cells acc)) (hg : g < w1.heap.size) (hb : Below w1.heap.size w1 wr) (hz : acc[i]? = some (x, y)) :
    wr.cell? { block := g, off := i * 2 } = some (.int .i64 x) ∧ wr.cell? { block := g, off := i * 2 + 1 } = some (.int .i64 y) := by
  have hl := own_len ho
  have hi := (List.getElem?_eq_some_iff.1 hz).1
  obtain ⟨h1, h2⟩ := cells_at _ _ _ hz
  rw [hb.cell (p := ⟨g, i * 2, none⟩) hg, hb.cell (p := ⟨g, i * 2 + 1, none⟩) hg, ho.cellAt _ (by omega), ho.cellAt _ (by omega)]
  exact ⟨h1, h2⟩
/-- There are no more spans than numbers. -/
theorem jn_small {pre : List Int} {acc : List Sp} (h : Jn pre acc) : acc.length ≤ 1000000 := by
  have all : ∀ i, ∀ hi : i < acc.length, (i : Int) + 1 ≤ acc[i].1 := by
    intro i
    induction i with
    | zero => intro hi; have := (h.ok _ (List.getElem_mem hi)).1; omega
    | succ i ih =>
      intro hi
      have h1 := ih (by omega)
      have h2 := List.pairwise_iff_getElem.1 h.ch i (i + 1) (by omega) hi (by omega)
      have h3 := h.ok _ (List.getElem_mem (show i < acc.length by omega))
      omega
  rcases Nat.eq_zero_or_pos acc.length with h0 | h0
  · omega
  · have h1 := all (acc.length - 1) (by omega)
    have h2 := h.ok _ (List.getElem_mem (show acc.length - 1 < acc.length by omega))
    omega
def hit (x : Int) (s : Sp) : Bool := decide (s.1 ≤ x ∧ x ≤ s.2)

def Drw (P : World → Prop) (w : World) : Prop := P w
theorem Drw.drewN {w0 w : World} {B : Nat} (h : Drw (Below B w0) w) (n : Nat) : Below B w0 (w.drewN n) := below_drewN h n
theorem any_hit (acc : List Sp) (x : Int) : acc.any (hit x) = decide (∃ s ∈ acc, s.1 ≤ x ∧ x ≤ s.2) := by
  rw [Bool.eq_iff_iff, List.any_eq_true, decide_eq_true_eq]
  unfold hit
  simp only [decide_eq_true_eq]
set_option maxHeartbeats 8000000 in
set_option maxRecDepth 100000 in
theorem walk (A : Option Addr) (n cp : Nat) (zs : List Int) (x : Int) (w : World) (ht : Tab w) (hz : IntsAt w A n zs) (hn : n ≤ maxLen) :
    Calls Tryd.prog 4 #[.slice A n cp, .int .i64 x] w (Yes w) := by
  unfold maxLen at hn
  have HT := Lib.hid ht
  have HZ := Lib.hid hz
  have HL := Lib.hid hz.1
  by_cases hbig : 100 < n
  · have HA := Lib.hid (awake ht)
    have hb : 100 < (n : Int) := by omega
    clear ht hz
    go_enter Tryd.func4, Tryd.ntmps4
    go_wp2_with (go_at_call 10; refine HA.out.mono ?_; rintro e w' ⟨rfl, hb9⟩)
    go_ret
    exact ⟨rfl, hb9⟩
  · have HJ := Lib.hid (join_any (cp := cp) hz (by omega))
    have hb : (n : Int) ≤ 100 := by omega
    clear ht hz hbig
    go_enter Tryd.func4, Tryd.ntmps4
    go_wp2_with fail
    refine HJ.out.mono ?_
    rintro e w1 ⟨B, m, c, acc, rfl, ho, hg⟩
    have HO := Lib.hid ho
    have HG := Lib.hid hg
    have hml := own_len ho.1
    have HML := Lib.hid hml
    clear ho hg hml
    go_wp2_with fail
    go_loop [6, 20] (fun s6 s20 => ∃ (k : Nat) (b : Bool), k ≤ n ∧ s20 = .int .i64 k ∧ s6 = .bool b ∧ Hid (b = decide (x ∈ zs.take k))) (fun _ s20 => n - (intOf s20).toNat)
    case atStart => exact ⟨0, false, Nat.zero_le _, rfl, rfl, (decide_eq_false (by simp)).symm⟩
    case round =>
      obtain ⟨k, b, hk, rfl, rfl, HB⟩ := hrel
      by_cases hlt : k < n
      · obtain ⟨ad, z, rfl, hx, hc1⟩ := HZ.out.at_ HO.out.2 (Nat.le_refl _) hlt
        have HZ8 := Lib.hid (show zs.take (k + 1) = zs.take k ++ [z] by
          obtain ⟨hl, rfl⟩ := List.getElem?_eq_some_iff.1 hx
          rw [List.take_succ_eq_append_getElem hl])
        clear hx
        cases b with
        | true =>
          go_wp2_with fail
          go_round
          case rel => exact ⟨k + 1, true, by omega, by go_num, rfl, by
            have h' : x ∈ zs.take k := of_decide_eq_true HB.out.symm
            rw [HZ8.out]
            exact (decide_eq_true (List.mem_append_left _ h')).symm⟩
          case measure => simp [intOf]; omega
        | false =>
          obtain ⟨bb, hbb, hbe⟩ : ∃ bb : Bool, (z == x) = bb ∧ bb = decide (z = x) := by
            by_cases e : z = x
            · exact ⟨true, by rw [e]; simp, (decide_eq_true e).symm⟩
            · exact ⟨false, by simpa using e, (decide_eq_false e).symm⟩
          have HBE := Lib.hid hbe
          clear hbe
          go_wp2_with fail
          go_round
          case rel => exact ⟨k + 1, bb, by omega, by go_num, rfl, by
            have h' : x ∉ zs.take k := of_decide_eq_false HB.out.symm
            rw [HZ8.out, HBE.out]
            by_cases e : z = x
            · rw [decide_eq_true e]
              exact (decide_eq_true (by simp [e])).symm
            · rw [decide_eq_false e]
              refine (decide_eq_false ?_).symm
              intro hm
              rcases List.mem_append.1 hm with hm | hm
              · exact h' hm
              · simp at hm; exact e hm.symm⟩
          case measure => simp [intOf]; omega
      · obtain rfl : k = n := by omega
        have HIN := Lib.hid (show b = decide (x ∈ zs) by have h := HB.out; rw [List.take_of_length_le (by rw [HL.out]; exact Nat.le_refl _)] at h; exact h)
        have hm100 : (m : Int) ≤ 1000000 := by
          obtain ⟨pre, hpre, hjn⟩ := HG.out
          have := jn_small hjn
          have := HML.out
          omega
        clear hlt HB
        go_wp2_with fail
        go_loopw [9, 33] (fun s9 s33 wr => ∃ (i : Nat) (h : Bool), i ≤ m ∧ s33 = .int .i64 i ∧ s9 = .bool h ∧ Hid (h = (acc.take i).any (hit x)) ∧ Hid (Below w1.heap.size w1 wr)) (fun _ s33 _ => m - (intOf s33).toNat)
        case atStart => exact ⟨0, false, Nat.zero_le _, rfl, rfl, rfl, Below.refl _ _⟩
        case round =>
          obtain ⟨i, h, hi, rfl, rfl, HH, HB1⟩ := hrel
          by_cases hlt : i < m
          · obtain ⟨g, c6, hv6, hg6, hglt⟩ := own_form HO.out.1 (by omega)
            injection hv6 with e1 e2 e3
            subst e1; subst e3
            obtain ⟨⟨p, q⟩, hpq⟩ : ∃ z, acc[i]? = some z := ⟨_, List.getElem?_eq_getElem (by rw [HML.out]; exact hlt)⟩
            obtain ⟨hc1, hc2⟩ := acc_cell HO.out.1 hglt HB1.out hpq
            have HPQ := Lib.hid hpq
            obtain ⟨hp1, hp2, hp3⟩ : 1 ≤ p ∧ p ≤ q ∧ q ≤ 1000000 := by
              obtain ⟨pre, _, hj⟩ := HG.out
              exact hj.ok (p, q) (List.mem_of_getElem? hpq)
            clear hpq e2
            have d1 : decide (p < 1) = false := decide_eq_false (by omega)
            have d2 : decide (q < p) = false := decide_eq_false (by omega)
            have d3 : decide (1000000 < q) = false := decide_eq_false (by omega)
            have HB2 := Lib.hid (show Drw (Below w1.heap.size w1) (wr.alloc (.cells #[.int .i64 p, .int .i64 q] 32)) from HB1.out.alloc HB1.out.size _)
            rcases Nat.eq_zero_or_pos i with hi0 | hi0
            · have d4 : decide (0 < i) = false := decide_eq_false (by omega)
              clear hi0
              cases h with
              | true =>
                go_wp2_with fail
                go_quiet (fail)
                go_wp2_with fail
                go_roundw
                case rel => exact ⟨i + 1, true, by omega, by go_num, rfl, by rw [any_snoc HPQ.out, ← HH.out]; rfl, HB2.out.drewN _⟩
                case measure => simp [intOf]; omega
              | false =>
                by_cases hx : p ≤ x
                · have HX := Lib.hid (show hit x (p, q) = decide (x ≤ q) by unfold hit; simp only [hx, true_and])
                  go_wp2_with fail
                  go_quiet (fail)
                  go_wp2_with fail
                  go_roundw
                  case rel => exact ⟨i + 1, decide (x ≤ q), by omega, by go_num, rfl, by rw [any_snoc HPQ.out, ← HH.out, HX.out]; rfl, HB2.out.drewN _⟩
                  case measure => simp [intOf]; omega
                · have HX := Lib.hid (show hit x (p, q) = false by unfold hit; exact decide_eq_false (fun h => hx h.1))
                  go_wp2_with fail
                  go_quiet (fail)
                  go_wp2_with fail
                  go_roundw
                  case rel => exact ⟨i + 1, false, by omega, by go_num, rfl, by rw [any_snoc HPQ.out, ← HH.out, HX.out]; rfl, HB2.out.drewN _⟩
                  case measure => simp [intOf]; omega
            · obtain ⟨j, hj⟩ : ∃ j, j + 1 = i := ⟨i - 1, by omega⟩
              obtain ⟨⟨p0, q0⟩, hpq0⟩ : ∃ z, acc[j]? = some z := ⟨_, List.getElem?_eq_getElem (by rw [HML.out]; omega)⟩
              obtain ⟨_, hc3⟩ := acc_cell HO.out.1 hglt (HB1.out.alloc HB1.out.size (.cells #[.int .i64 p, .int .i64 q] 32)) hpq0
              have hch : q0 + 1 < p := by
                obtain ⟨pre, _, hjn⟩ := HG.out
                have hpq := HPQ.out
                subst hj
                obtain ⟨l1, e1⟩ := List.getElem?_eq_some_iff.1 hpq0
                obtain ⟨l2, e2⟩ := List.getElem?_eq_some_iff.1 hpq
                have := List.pairwise_iff_getElem.1 hjn.ch j (j + 1) l1 l2 (by omega)
                rw [e1, e2] at this
                exact this
              have hq0 : 1 ≤ q0 := by
                obtain ⟨pre, _, hjn⟩ := HG.out
                have := hjn.ok (p0, q0) (List.mem_of_getElem? hpq0)
                simp only at this
                omega
              have d4 : decide (0 < i) = true := decide_eq_true (by omega)
              have d6 : decide (p ≤ q0 + 1) = false := decide_eq_false (by omega)
              have i1 : IntKind.i64.wrap ((i : Int) - 1) = (j : Int) := by rw [IntKind.wrap_i64]; omega
              have i2 : (j : Int) < (m : Int) := by omega
              have q1 : IntKind.i64.wrap (q0 + 1) = q0 + 1 := by rw [IntKind.wrap_i64]; omega
              clear hi0 hpq0 hj
              cases h with
              | true =>
                go_wp2_with fail
                go_quiet (fail)
                go_wp2_with fail
                go_roundw
                case rel => exact ⟨i + 1, true, by omega, by go_num, rfl, by rw [any_snoc HPQ.out, ← HH.out]; rfl, HB2.out.drewN _⟩
                case measure => simp [intOf]; omega
              | false =>
                by_cases hx : p ≤ x
                · have HX := Lib.hid (show hit x (p, q) = decide (x ≤ q) by unfold hit; simp only [hx, true_and])
                  go_wp2_with fail
                  go_quiet (fail)
                  go_wp2_with fail
                  go_roundw
                  case rel => exact ⟨i + 1, decide (x ≤ q), by omega, by go_num, rfl, by rw [any_snoc HPQ.out, ← HH.out, HX.out]; rfl, HB2.out.drewN _⟩
                  case measure => simp [intOf]; omega
                · have HX := Lib.hid (show hit x (p, q) = false by unfold hit; exact decide_eq_false (fun h => hx h.1))
                  go_wp2_with fail
                  go_quiet (fail)
                  go_wp2_with fail
                  go_roundw
                  case rel => exact ⟨i + 1, false, by omega, by go_num, rfl, by rw [any_snoc HPQ.out, ← HH.out, HX.out]; rfl, HB2.out.drewN _⟩
                  case measure => simp [intOf]; omega
          · obtain rfl : i = m := by omega
            have HHH := Lib.hid (show h = acc.any (hit x) by have h' := HH.out; rw [List.take_of_length_le (by rw [HML.out]; exact Nat.le_refl _)] at h'; exact h')
            have hbw : Below w.heap.size w wr := HO.out.2.trans (HB1.out.mono HO.out.2.size)
            have HA := Lib.hid (awake (HT.out.below hbw (Nat.le_refl _)))
            have HBW := Lib.hid hbw
            have hval : h = (b && decide (1 ≤ x ∧ x ≤ 1000000)) := by
              obtain ⟨pre, hpre, hjn⟩ := HG.out
              rw [HHH.out, HIN.out, any_hit, Bool.eq_iff_iff]
              simp only [Bool.and_eq_true, decide_eq_true_eq]
              rw [hjn.mem x, hpre x]
            clear hbw HH HHH HB1 HG hlt
            cases b with
            | false =>
              obtain rfl : h = false := hval
              go_wp2_with (go_at_call 10; refine HA.out.mono ?_; rintro e w' ⟨rfl, hb9⟩)
              go_ret
              exact ⟨rfl, HBW.out.trans (hb9.mono HBW.out.size)⟩
            | true =>
              by_cases h1 : 1 ≤ x
              · by_cases h2 : x ≤ 1000000
                · obtain rfl : h = true := hval.trans (by rw [decide_eq_true ⟨h1, h2⟩]; rfl)
                  clear hval
                  go_wp2_with (go_at_call 10; refine HA.out.mono ?_; rintro e w' ⟨rfl, hb9⟩)
                  go_ret
                  exact ⟨rfl, HBW.out.trans (hb9.mono HBW.out.size)⟩
                · obtain rfl : h = false := hval.trans (by rw [decide_eq_false (fun h => h2 h.2)]; rfl)
                  clear hval
                  go_wp2_with (go_at_call 10; refine HA.out.mono ?_; rintro e w' ⟨rfl, hb9⟩)
                  go_ret
                  exact ⟨rfl, HBW.out.trans (hb9.mono HBW.out.size)⟩
              · obtain rfl : h = false := hval.trans (by rw [decide_eq_false (fun h => h1 h.1)]; rfl)
                clear hval
                go_wp2_with (go_at_call 10; refine HA.out.mono ?_; rintro e w' ⟨rfl, hb9⟩)
                go_ret
                exact ⟨rfl, HBW.out.trans (hb9.mono HBW.out.size)⟩
end Go.Proofs.YtmojecimmogeaaaDoor.numsJoins
