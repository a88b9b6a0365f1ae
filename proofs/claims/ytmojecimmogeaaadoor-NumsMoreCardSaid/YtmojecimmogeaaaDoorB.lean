/-
  Two rows of spans alike; spans with ends that may be; a text cut at its first comma or colon.
-/
import Derived.Test.YtmojecimmogeaaaDoorA2
import Derived.Lib.Bytealg
namespace Go.Proofs.YtmojecimmogeaaaDoor.B
open Go.RowKit Go.Proofs.YtmojecimmogeaaaDoor.Kit Go.Proofs.YtmojecimmogeaaaDoor.A

def Drawn (w w' : World) : Prop := ∃ n, w' = w.drewN n
theorem Drawn.refl (w : World) : Drawn w w := ⟨0, rfl⟩
theorem Drawn.drewN {w w' : World} (h : Drawn w w') (n : Nat) : Drawn w (w'.drewN n) := by
  obtain ⟨m, rfl⟩ := h
  exact ⟨m + n, World.drewN_drewN _ _ _⟩
theorem Drawn.below {w w' : World} (h : Drawn w w') (B : Nat) : Below B w w' := by
  obtain ⟨m, rfl⟩ := h
  exact below_drewN (Below.refl _ _) m

theorem take_eq_snoc {α : Type} {xs ys : List α} {k : Nat} {x : α} (h : xs.take k = ys.take k) (hx : xs[k]? = some x) (hy : ys[k]? = some x) : xs.take (k + 1) = ys.take (k + 1) := by
  obtain ⟨h1, rfl⟩ := List.getElem?_eq_some_iff.1 hx
  obtain ⟨h2, e⟩ := List.getElem?_eq_some_iff.1 hy
  rw [List.take_succ_eq_append_getElem h1, List.take_succ_eq_append_getElem h2, h, e]

set_option maxHeartbeats 1000000 in
/-- Are the two alike? -/
theorem same_any {A B : Option Addr} {n m cp cq : Nat} {xs ys : List Sp} {w : World} (hx : SpansAt w A n xs) (hy : SpansAt w B m ys) (hn : n ≤ 9223372036854775807) :
    Calls Tryd.prog 12 #[.slice A n cp, .slice B m cq] w fun e w' => e = .returned (.bool (decide (xs = ys))) ∧ Drawn w w' := by
  by_cases hnm : n = m
  · subst hnm
    have HX := Lib.hid hx
    have HY := Lib.hid hy
    have hnb : ((n : Int) != (n : Int)) = false := by simp
    clear hx hy
    go_enter Tryd.func12, Tryd.ntmps12
    go_wp2_with fail
    go_loopw [13] (fun s13 wr => ∃ k : Nat, k ≤ n ∧ s13 = .int .i64 k ∧ Hid (xs.take k = ys.take k) ∧ Hid (Drawn w wr)) (fun s13 _ => n - (intOf s13).toNat)
    case atStart => exact ⟨0, Nat.zero_le _, rfl, rfl, Drawn.refl w⟩
    case round =>
      obtain ⟨k, hk, rfl, HT, HD⟩ := hrel
      by_cases hlt : k < n
      · obtain ⟨ad1, x1, y1, rfl, e1, hc1, hc2⟩ := HX.out.sp (HD.out.below _) (Nat.le_refl _) hlt
        obtain ⟨ad2, x2, y2, rfl, e2, hd1, hd2⟩ := HY.out.sp (HD.out.below _) (Nat.le_refl _) hlt
        have g1 : (0 : Int) ≤ (k : Int) := by omega
        have g2 : (k : Int) < (n : Int) := by omega
        by_cases hq : (x1, y1) = (x2, y2)
        · simp only [Prod.mk.injEq] at hq
          obtain ⟨rfl, rfl⟩ := hq
          have HT2 := Lib.hid (take_eq_snoc HT.out e1 e2)
          clear e1 e2
          go_wp2_with fail
          go_quiet (fail)
          go_wp2_with fail
          go_roundw
          case rel => exact ⟨k + 1, by omega, by go_num, HT2, HD.out.drewN _⟩
          case measure => simp [intOf]; omega
        · have HF := Lib.hid (show decide (xs = ys) = false from decide_eq_false (fun e => hq (by rw [e, e2] at e1; injection e1 with e1; exact e1.symm)))
          clear e1 e2
          by_cases hxx : x1 = x2
          · subst hxx
            have hyy : (y1 == y2) = false := by
              rw [beq_eq_false_iff_ne]
              exact fun e => hq (by rw [e])
            clear hq
            go_wp2_with fail
            go_quiet (fail)
            go_wp2_with fail
            go_ret
            exact ⟨ret_bool HF.out.symm, HD.out.drewN _⟩
          · have hxb : (x1 == x2) = false := by simpa using hxx
            clear hq hxx
            go_wp2_with fail
            go_quiet (fail)
            go_wp2_with fail
            go_ret
            exact ⟨ret_bool HF.out.symm, HD.out.drewN _⟩
      · obtain rfl : k = n := by omega
        have HE := Lib.hid (show decide (xs = ys) = true from decide_eq_true (by have h := HT.out; rw [List.take_of_length_le (by rw [HX.out.1]; omega), List.take_of_length_le (by rw [HY.out.1]; omega)] at h; exact h))
        go_wp2_with fail
        go_ret
        exact ⟨ret_bool HE.out.symm, HD.out⟩
  · have HF := Lib.hid (show decide (xs = ys) = false from decide_eq_false (fun e => hnm (by rw [← hx.1, ← hy.1, e])))
    have hnb : ((n : Int) != (m : Int)) = true := by simp; omega
    clear hnm
    go_enter Tryd.func12, Tryd.ntmps12
    go_wp2_with fail
    go_ret
    exact ⟨ret_bool HF.out.symm, Drawn.refl w⟩

theorem msp_bad {zs : List Sp} {k : Nat} {x y : Int} (hz : zs[k]? = some (x, y)) (h : okS (x, y) = false) : mayB zs = false := may_bad hz h
theorem okS_true {x y : Int} (h1 : 0 ≤ x) (h2 : x ≤ 1000000) (h3 : 0 ≤ y) (h4 : y ≤ 1000000) : okS (x, y) = true := by
  unfold okS okE
  rw [decide_eq_true ⟨h1, h2⟩, decide_eq_true ⟨h3, h4⟩]; rfl
theorem okS_false {x y : Int} (h : x < 0 ∨ 1000000 < x ∨ y < 0 ∨ 1000000 < y) : okS (x, y) = false := by
  unfold okS okE
  rw [Bool.and_eq_false_iff, decide_eq_false_iff_not, decide_eq_false_iff_not]
  omega

set_option maxHeartbeats 2000000 in
theorem maysp_any {A : Option Addr} {n cp : Nat} {zs : List Sp} {w : World} (hz : SpansAt w A n zs) (hn : n ≤ 9223372036854775806) :
    Calls Tryd.prog 15 #[.slice A n cp] w fun e w' => e = .returned (.bool (mayB zs)) ∧ Below w.heap.size w w' := by
  have HZ := Lib.hid hz
  have HL := Lib.hid hz.1
  clear hz
  go_enter Tryd.func15, Tryd.ntmps15
  go_wp2_with fail
  go_loopw [7] (fun s7 wr => ∃ k : Nat, k ≤ n ∧ s7 = .int .i64 k ∧ Hid ((zs.take k).all okS = true) ∧ Hid (Below w.heap.size w wr)) (fun s7 _ => n - (intOf s7).toNat)
  case atStart => exact ⟨0, Nat.zero_le _, rfl, rfl, Below.refl _ _⟩
  case round =>
    obtain ⟨k, hk, rfl, HT, HB⟩ := hrel
    by_cases hlt : k < n
    · obtain ⟨ad, x, y, rfl, hx, hc1, hc2⟩ := HZ.out.sp HB.out (Nat.le_refl _) hlt
      have HX := Lib.hid hx
      clear hx
      by_cases h1 : x < 0
      · have HF := Lib.hid (may_bad HX.out (okS_false (by omega)))
        go_wp2_with fail
        go_ret
        exact ⟨ret_bool HF.out.symm, HB.out.alloc HB.out.size _⟩
      by_cases h2 : 1000000 < x
      · have HF := Lib.hid (may_bad HX.out (okS_false (y := y) (by omega)))
        have h1' : 0 ≤ x := by omega
        clear h1
        go_wp2_with fail
        go_ret
        exact ⟨ret_bool HF.out.symm, HB.out.alloc HB.out.size _⟩
      have h1' : 0 ≤ x := by omega
      have h2' : x ≤ 1000000 := by omega
      clear h1 h2
      by_cases h3 : y < 0
      · have HF := Lib.hid (may_bad HX.out (okS_false (by omega)))
        go_wp2_with fail
        go_ret
        exact ⟨ret_bool HF.out.symm, HB.out.alloc HB.out.size _⟩
      by_cases h4 : 1000000 < y
      · have HF := Lib.hid (may_bad HX.out (okS_false (by omega)))
        have h3' : 0 ≤ y := by omega
        clear h3
        go_wp2_with fail
        go_ret
        exact ⟨ret_bool HF.out.symm, HB.out.alloc HB.out.size _⟩
      have h3' : 0 ≤ y := by omega
      have h4' : y ≤ 1000000 := by omega
      clear h3 h4
      have HO := Lib.hid (okS_true h1' h2' h3' h4')
      go_wp2_with fail
      go_roundw
      case rel => exact ⟨k + 1, by omega, by go_num, by rw [all_snoc HX.out, HT.out, HO.out]; rfl, HB.out.alloc HB.out.size _⟩
      case measure => simp [intOf]; omega
    · obtain rfl : k = n := by omega
      have HALL := Lib.hid (show zs.all okS = true by have h := HT.out; rw [List.take_of_length_le (by rw [HL.out]; omega)] at h; exact h)
      by_cases h1 : k < 1
      · have HF := Lib.hid (may_none (zs := zs) (.inl (by have := HL.out; omega)))
        obtain rfl : k = 0 := by omega
        go_wp2_with fail
        go_ret
        exact ⟨ret_bool HF.out.symm, HB.out⟩
      by_cases h2 : 20 < k
      · have HF := Lib.hid (may_none (zs := zs) (.inr (by have := HL.out; omega)))
        have h1' : 1 ≤ (k : Int) := by omega
        have h2' : 20 < (k : Int) := by omega
        clear h1 h2
        go_wp2_with fail
        go_ret
        exact ⟨ret_bool ((decide_eq_false (by omega)).trans HF.out.symm), HB.out⟩
      have h1' : 1 ≤ (k : Int) := by omega
      have h2' : (k : Int) ≤ 20 := by omega
      have HF := Lib.hid (may_good (zs := zs) (by have := HL.out; omega) (by have := HL.out; omega) rfl (by rw [List.take_of_length_le (Nat.le_refl _)]; exact HALL.out))
      clear h1 h2
      go_wp2_with fail
      go_ret
      exact ⟨ret_bool HF.out.symm, HB.out⟩
end Go.Proofs.YtmojecimmogeaaaDoor.B
