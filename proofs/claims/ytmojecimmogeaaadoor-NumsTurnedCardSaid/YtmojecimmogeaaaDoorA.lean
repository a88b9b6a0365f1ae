/-
  May: is a row of spans a set? mayEnd: is a number an end of one?
-/
import Derived.Test.YtmojecimmogeaaaDoorKit
import Derived.WalkKit
import Derived.BigQuiet
import Derived.Deep.QuietTactic
import Derived.Outline
import Derived.IntWalk
namespace Go.Proofs.YtmojecimmogeaaaDoor.A
open Go.RowKit Go.Proofs.YtmojecimmogeaaaDoor.Kit

theorem ret_int {k : IntKind} {a b : Int} (h : a = b) : Ending.returned (.int k a) = .returned (.int k b) := by rw [h]
theorem ret_bool {a b : Bool} (h : a = b) : Ending.returned (.bool a) = .returned (.bool b) := by rw [h]
theorem ret_str {a b : ByteArray} (h : a = b) : Ending.returned (.string a) = .returned (.string b) := by rw [h]

/-- May n be an end of a span? -/
def okE (n : Int) : Bool := decide (0 ≤ n ∧ n ≤ 1000000)
def okS (s : Sp) : Bool := okE s.1 && okE s.2
/-- May the spans be a set? -/
def mayB (zs : List Sp) : Bool := decide (1 ≤ zs.length ∧ zs.length ≤ 20) && zs.all okS

set_option maxHeartbeats 400000 in
theorem end_any (n : Int) (w : World) : Calls Tryd.prog 16 #[.int .i64 n] w fun e w' => e = .returned (.bool (okE n)) ∧ w = w' := by
  by_cases h0 : n = 0
  · subst h0
    go_enter Tryd.func16, Tryd.ntmps16
    go_wp2
    go_ret
    exact ⟨rfl, rfl⟩
  · have h0b : (n == 0) = false := by simpa using h0
    by_cases h1 : 1 ≤ n
    · by_cases h2 : n ≤ 1000000
      · have hr : okE n = true := decide_eq_true ⟨by omega, h2⟩
        rw [hr]
        clear h0 hr
        go_enter Tryd.func16, Tryd.ntmps16
        go_wp2
        go_ret
        exact ⟨rfl, rfl⟩
      · have hr : okE n = false := decide_eq_false (fun h => h2 h.2)
        rw [hr]
        clear h0 hr
        go_enter Tryd.func16, Tryd.ntmps16
        go_wp2
        go_ret
        exact ⟨rfl, rfl⟩
    · have hr : okE n = false := decide_eq_false (fun h => by omega)
      rw [hr]
      clear h0 hr
      go_enter Tryd.func16, Tryd.ntmps16
      go_wp2
      go_ret
      exact ⟨rfl, rfl⟩

theorem may_none {zs : List Sp} (h : zs.length < 1 ∨ 20 < zs.length) : mayB zs = false := by
  unfold mayB
  rw [decide_eq_false (by omega)]; rfl
theorem may_bad {zs : List Sp} {k : Nat} {z : Sp} (hz : zs[k]? = some z) (h : okS z = false) : mayB zs = false := by
  unfold mayB
  rw [show zs.all okS = false from List.all_eq_false.2 ⟨z, List.mem_of_getElem? hz, by rw [h]; decide⟩]
  simp
theorem may_good {zs : List Sp} {k : Nat} (h1 : 1 ≤ zs.length) (h2 : zs.length ≤ 20) (hk : k = zs.length) (h : (zs.take k).all okS = true) : mayB zs = true := by
  unfold mayB
  rw [List.take_of_length_le (by omega)] at h
  rw [h, decide_eq_true ⟨h1, h2⟩]; rfl
theorem all_snoc {α : Type} {f : α → Bool} {zs : List α} {k : Nat} {z : α} (hz : zs[k]? = some z) : (zs.take (k + 1)).all f = ((zs.take k).all f && f z) := by
  obtain ⟨hl, rfl⟩ := List.getElem?_eq_some_iff.1 hz
  rw [List.take_succ_eq_append_getElem hl, List.all_append]; simp
theorem any_snoc {α : Type} {f : α → Bool} {zs : List α} {k : Nat} {z : α} (hz : zs[k]? = some z) : (zs.take (k + 1)).any f = ((zs.take k).any f || f z) := by
  obtain ⟨hl, rfl⟩ := List.getElem?_eq_some_iff.1 hz
  rw [List.take_succ_eq_append_getElem hl, List.any_append]; simp

set_option maxHeartbeats 1000000 in
theorem may_any {A : Option Addr} {n cp : Nat} {zs : List Sp} {w : World} (hz : SpansAt w A n zs) :
    Calls Tryd.prog 8 #[.slice A n cp] w fun e w' => e = .returned (.bool (mayB zs)) ∧ Below w.heap.size w w' := by
  have hzl := hz.1
  by_cases h1 : n < 1
  · have HF := Lib.hid (may_none (zs := zs) (.inl (by omega)))
    have h1' : (n : Int) < 1 := by omega
    clear hz hzl
    go_enter Tryd.func8, Tryd.ntmps8
    go_wp2_with fail
    go_ret
    exact ⟨ret_bool HF.out.symm, Below.refl _ _⟩
  by_cases h2 : 20 < n
  · have HF := Lib.hid (may_none (zs := zs) (.inr (by omega)))
    have h1' : 1 ≤ (n : Int) := by omega
    have h2' : 20 < (n : Int) := by omega
    clear hz hzl h1 h2
    go_enter Tryd.func8, Tryd.ntmps8
    go_wp2_with fail
    go_ret
    exact ⟨ret_bool HF.out.symm, Below.refl _ _⟩
  have h1' : 1 ≤ (n : Int) := by omega
  have h2' : (n : Int) ≤ 20 := by omega
  have HZ := Lib.hid hz
  have HL := Lib.hid hzl
  clear hz hzl h1 h2
  go_enter Tryd.func8, Tryd.ntmps8
  go_wp2_with fail
  go_loopw [15] (fun s15 wr => ∃ k : Nat, k ≤ n ∧ s15 = .int .i64 k ∧ Hid ((zs.take k).all okS = true) ∧ Hid (Below w.heap.size w wr)) (fun s15 _ => n - (intOf s15).toNat)
  case atStart => exact ⟨0, Nat.zero_le _, rfl, rfl, Below.refl _ _⟩
  case round =>
    obtain ⟨k, hk, rfl, HT, HB⟩ := hrel
    by_cases hlt : k < n
    · obtain ⟨ad, x, y, rfl, hx, hc1, hc2⟩ := HZ.out.sp HB.out (Nat.le_refl _) hlt
      have HX := Lib.hid hx
      have C1 := fun w => end_any x w
      have C2 := fun w => end_any y w
      have hok : okS (x, y) = (okE x && okE y) := rfl
      clear hx
      cases h1 : okE x with
      | false =>
        have HF := Lib.hid (may_bad HX.out (by rw [hok, h1]; rfl))
        rw [h1] at C1
        have K1 := Lib.hid C1
        clear C1 C2 hok h1
        go_wp2_with (go_at_call 16; refine (K1.out _).mono ?_; rintro e w' ⟨rfl, rfl⟩)
        go_ret
        exact ⟨ret_bool HF.out.symm, HB.out.alloc HB.out.size _⟩
      | true =>
        rw [h1] at C1
        have K1 := Lib.hid C1
        have hok2 : okS (x, y) = okE y := by rw [hok, h1]; rfl
        cases h2 : okE y with
        | false =>
          have HF := Lib.hid (may_bad HX.out (hok2.trans h2))
          rw [h2] at C2
          have K2 := Lib.hid C2
          clear C1 C2 hok h1 hok2 h2
          go_wp2_with fail
          refine (K1.out _).mono ?_
          rintro e w' ⟨rfl, rfl⟩
          go_wp2_with fail
          refine (K2.out _).mono ?_
          rintro e w' ⟨rfl, rfl⟩
          go_wp2_with fail
          go_ret
          exact ⟨ret_bool HF.out.symm, HB.out.alloc HB.out.size _⟩
        | true =>
          have HO := Lib.hid (hok2.trans h2)
          rw [h2] at C2
          have K2 := Lib.hid C2
          clear C1 C2 hok h1 hok2 h2
          go_wp2_with fail
          refine (K1.out _).mono ?_
          rintro e w' ⟨rfl, rfl⟩
          go_wp2_with fail
          refine (K2.out _).mono ?_
          rintro e w' ⟨rfl, rfl⟩
          go_wp2_with fail
          go_roundw
          case rel => exact ⟨k + 1, by omega, by go_num, by rw [all_snoc HX.out, HT.out, HO.out]; rfl, HB.out.alloc HB.out.size _⟩
          case measure => simp [intOf]; omega
    · obtain rfl : k = n := by omega
      go_wp2_with fail
      go_ret
      exact ⟨ret_bool (may_good (by have := HL.out; omega) (by have := HL.out; omega) HL.out.symm HT.out).symm, HB.out⟩
end Go.Proofs.YtmojecimmogeaaaDoor.A
