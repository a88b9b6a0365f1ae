/-
  What joining is, number by number; the sort of no element.
-/
import Derived.Test.YtmojecimmogeaaaDoorF
import Derived.Lib.OwnBridge
namespace Go.Proofs.YtmojecimmogeaaaDoor.J
open Go.RowKit Go.Proofs.YtmojecimmogeaaaDoor.Kit Go.Proofs.YtmojecimmogeaaaDoor.A Go.Proofs.YtmojecimmogeaaaDoor.B Go.Proofs.YtmojecimmogeaaaDoor.F

/-- The spans of what has been met: just these numbers, rising, none touching the next. -/
structure Jn (pre : List Int) (acc : List Sp) : Prop where
  mem : ∀ x, (∃ s ∈ acc, s.1 ≤ x ∧ x ≤ s.2) ↔ x ∈ pre
  ok : ∀ s ∈ acc, 1 ≤ s.1 ∧ s.1 ≤ s.2 ∧ s.2 ≤ 1000000
  ch : acc.Pairwise fun s t => s.2 + 1 < t.1
  len : acc.length ≤ pre.length
theorem Jn.start : Jn [] [] := ⟨by simp, by simp, List.Pairwise.nil, Nat.le_refl _⟩
theorem Jn.last_mem {pre : List Int} {acc : List Sp} (h : Jn pre acc) {s : Sp} (hs : s ∈ acc) : s.2 ∈ pre := (h.mem s.2).1 ⟨s, hs, (h.ok s hs).2.1, Int.le_refl _⟩
theorem Jn.first_mem {pre : List Int} {acc : List Sp} (h : Jn pre acc) {s : Sp} (hs : s ∈ acc) : s.1 ∈ pre := (h.mem s.1).1 ⟨s, hs, Int.le_refl _, (h.ok s hs).2.1⟩
theorem Jn.join {pre : List Int} {xs : List Sp} {a b n : Int} (h : Jn pre (xs ++ [(a, b)])) (h1 : b ≤ n) (h2 : n ≤ b + 1) (h3 : n ≤ 1000000) : Jn (pre ++ [n]) (xs ++ [(a, n)]) := by
  have hab := h.ok (a, b) (by simp)
  simp only at hab
  refine ⟨fun x => ?_, fun s hs => ?_, ?_, ?_⟩
  · rw [List.mem_append, List.mem_singleton, ← h.mem x]
    constructor
    · rintro ⟨s, hs, hx⟩
      rcases List.mem_append.1 hs with hs | hs
      · exact .inl ⟨s, List.mem_append_left _ hs, hx⟩
      · obtain rfl : s = (a, n) := by simpa using hs
        simp only at hx
        by_cases e : x ≤ b
        · exact .inl ⟨(a, b), by simp, hx.1, e⟩
        · exact .inr (by omega)
    · rintro (⟨s, hs, hx⟩ | rfl)
      · rcases List.mem_append.1 hs with hs | hs
        · exact ⟨s, List.mem_append_left _ hs, hx⟩
        · obtain rfl : s = (a, b) := by simpa using hs
          simp only at hx
          exact ⟨(a, n), by simp, hx.1, by show x ≤ n; omega⟩
      · exact ⟨(a, x), by simp, by show a ≤ x; omega, Int.le_refl _⟩
  · rcases List.mem_append.1 hs with hs | hs
    · exact h.ok s (List.mem_append_left _ hs)
    · obtain rfl : s = (a, n) := by simpa using hs
      simp only
      omega
  · have hp := List.pairwise_append.1 h.ch
    refine List.pairwise_append.2 ⟨hp.1, by simp, fun s hs t ht => ?_⟩
    obtain rfl : t = (a, n) := by simpa using ht
    exact hp.2.2 s hs (a, b) (by simp)
  · have := h.len
    simp at this ⊢
    omega
theorem Jn.push {pre : List Int} {acc : List Sp} {n : Int} (h : Jn pre acc) (h1 : ∀ s ∈ acc, s.2 + 1 < n) (h2 : 1 ≤ n) (h3 : n ≤ 1000000) : Jn (pre ++ [n]) (acc ++ [(n, n)]) := by
  refine ⟨fun x => ?_, fun s hs => ?_, ?_, ?_⟩
  · rw [List.mem_append, List.mem_singleton, ← h.mem x]
    constructor
    · rintro ⟨s, hs, hx⟩
      rcases List.mem_append.1 hs with hs | hs
      · exact .inl ⟨s, hs, hx⟩
      · obtain rfl : s = (n, n) := by simpa using hs
        simp only at hx
        exact .inr (by omega)
    · rintro (⟨s, hs, hx⟩ | rfl)
      · exact ⟨s, List.mem_append_left _ hs, hx⟩
      · exact ⟨(x, x), by simp, Int.le_refl _, Int.le_refl _⟩
  · rcases List.mem_append.1 hs with hs | hs
    · exact h.ok s hs
    · obtain rfl : s = (n, n) := by simpa using hs
      simp only
      omega
  · refine List.pairwise_append.2 ⟨h.ch, by simp, fun s hs t ht => ?_⟩
    obtain rfl : t = (n, n) := by simpa using ht
    exact h1 s hs
  · have := h.len
    simp
    omega
theorem Jn.below_last {pre : List Int} {xs : List Sp} {a b n : Int} (h : Jn pre (xs ++ [(a, b)])) (hn : b + 1 < n) : ∀ s ∈ xs ++ [(a, b)], s.2 + 1 < n := by
  intro s hs
  have hab := h.ok (a, b) (by simp)
  simp only at hab
  rcases List.mem_append.1 hs with hs | hs
  · have := (List.pairwise_append.1 h.ch).2.2 s hs (a, b) (by simp)
    simp only at this
    omega
  · obtain rfl : s = (a, b) := by simpa using hs
    exact hn

def inR (z : Int) : Bool := decide (1 ≤ z ∧ z ≤ 1000000)
/-- What Join tells of zs. -/
def JGood (zs : List Int) (acc : List Sp) : Prop := ∃ pre : List Int, (∀ x, x ∈ pre ↔ x ∈ zs ∧ 1 ≤ x ∧ x ≤ 1000000) ∧ Jn pre acc
theorem filter_mem (zs : List Int) (x : Int) : x ∈ zs.filter inR ↔ x ∈ zs ∧ 1 ≤ x ∧ x ≤ 1000000 := by
  rw [List.mem_filter]
  unfold inR
  rw [decide_eq_true_eq]
theorem filter_snoc {zs : List Int} {k : Nat} {z : Int} (hz : zs[k]? = some z) : (zs.take (k + 1)).filter inR = (zs.take k).filter inR ++ (if inR z then [z] else []) := by
  obtain ⟨hl, rfl⟩ := List.getElem?_eq_some_iff.1 hz
  rw [List.take_succ_eq_append_getElem hl, List.filter_append]
  congr 1
  cases h : inR zs[k] <;> simp [h]

abbrev srt (ys : List Int) : List Int := ys.mergeSort fun x y => decide (x ≤ y)
theorem srt_mem (ys : List Int) (x : Int) : x ∈ srt ys ↔ x ∈ ys := List.mem_mergeSort
theorem srt_len (ys : List Int) : (srt ys).length = ys.length := List.length_mergeSort ys
theorem srt_le (ys : List Int) {i j : Nat} {x y : Int} (hij : i ≤ j) (hx : (srt ys)[i]? = some x) (hy : (srt ys)[j]? = some y) : x ≤ y := by
  have hp : (srt ys).Pairwise (fun x y => decide (x ≤ y) = true) := List.pairwise_mergeSort (fun a b c h1 h2 => by simp at *; omega) (fun a b => by simp; omega) ys
  obtain ⟨hi, rfl⟩ := List.getElem?_eq_some_iff.1 hx
  obtain ⟨hj, rfl⟩ := List.getElem?_eq_some_iff.1 hy
  rcases Nat.lt_or_eq_of_le hij with h | h
  · have := List.pairwise_iff_getElem.1 hp i j hi hj h
    simpa using this
  · subst h; exact Int.le_refl _

set_option maxHeartbeats 1000000 in
theorem ins_none (p : Option Addr) (cap : Nat) (w : World) : Calls Tryd.prog 35 #[.slice p 0 cap, .int .i64 0, .int .i64 0] w fun e w' => e = .returned (.tuple #[]) ∧ w = w' := by
  go_enter Tryd.func35, Tryd.ntmps35
  go_wp2
  go_loop [6] (fun s6 => s6 = .int .i64 1) (fun _ => 0)
  case atStart => rfl
  case round =>
    obtain rfl := hrel
    go_wp2
    go_end0
    exact ⟨rfl, rfl⟩
set_option maxHeartbeats 1000000 in
theorem len_zero (w : World) : Calls Tryd.prog 30 #[.int .u64 0] w fun e w' => e = .returned (.int .i64 0) ∧ w = w' := by
  have K := Lib.hid (fun w => Tryd.bits_Len64 0 w (by decide) (by decide))
  go_enter Tryd.func30, Tryd.ntmps30
  go_wp2_with (go_at_call 45; refine (K.out _).mono ?_; rintro e w' ⟨rfl, rfl⟩)
  go_ret
  exact ⟨rfl, rfl⟩
set_option maxHeartbeats 1000000 in
theorem pdq_none (p : Option Addr) (cap : Nat) (w : World) : Calls Tryd.prog 29 #[.slice p 0 cap, .int .i64 0, .int .i64 0, .int .i64 0] w fun e w' => e = .returned (.tuple #[]) ∧ w = w' := by
  have K := Lib.hid (fun w => ins_none p cap w)
  go_enter Tryd.func29, Tryd.ntmps29
  go_wp2
  go_loop [1, 2] (fun s1 s2 => s1 = .int .i64 0 ∧ s2 = .int .i64 0) (fun _ _ => 0)
  case atStart => exact ⟨rfl, rfl⟩
  case round =>
    obtain ⟨rfl, rfl⟩ := hrel
    go_wp2_with (go_at_call 35; refine (K.out _).mono ?_; rintro e w' ⟨rfl, rfl⟩)
    (try simp only [Exit.inBlock, Exit.then])
    refine bodyPost_ret (results_none rfl _ _ _) rfl ?_
    exact ⟨rfl, rfl⟩
set_option maxHeartbeats 1000000 in
theorem sort_none (p : Option Addr) (cap : Nat) (w : World) : Calls Tryd.prog 21 #[.slice p 0 cap] w fun e w' => e = .returned (.tuple #[]) ∧ w = w' := by
  have K1 := Lib.hid (fun w => len_zero w)
  have K2 := Lib.hid (fun w => pdq_none p cap w)
  go_enter Tryd.func21, Tryd.ntmps21
  go_wp2_with (first
    | (go_at_call 30; refine (K1.out _).mono ?_; rintro e w' ⟨rfl, rfl⟩)
    | (go_at_call 29; refine (K2.out _).mono ?_; rintro e w' ⟨rfl, rfl⟩))
  go_end0
  exact ⟨rfl, rfl⟩
end Go.Proofs.YtmojecimmogeaaaDoor.J
