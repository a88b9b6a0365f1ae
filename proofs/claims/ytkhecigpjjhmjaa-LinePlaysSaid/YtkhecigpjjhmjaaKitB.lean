/-
  A row of ints that the call owns, as a slice whose cells are known.
-/
import Derived.Test.YtkhecigpjjhmjaaAll
import Derived.Test.YtkhecigpjjhmjaaArg
namespace Go.Proofs.Ytkhecigpjjhmjaa.LI
open Go.RowKit Go.Conc Go.Proofs.Ytkhecigpjjhmjaa.Kit Go.Proofs.Ytkhecigpjjhmjaa.Arg

theorem owns_view {w : World} {base : Nat} {v : Value} {n : Nat} {zs : List Int} (h : w.ownsRow base 3 1 v n (ints zs)) : ∃ A cp, v = .slice A n cp ∧ n ≤ cp ∧ cp ≤ maxLen ∧ IntsAt w A n zs := by
  have hc := fun g (hg : v.ownBlock = some g) => h.cells hg
  have hl := h.1
  have hlt := h.lt
  rcases h.2 with ⟨rfl, rfl⟩ | ⟨g, cap, cur, rfl, hb, hg, hn, hm, hs, ht⟩
  · exact ⟨none, 0, rfl, Nat.le_refl _, Nat.zero_le _, by simpa [ints] using hl, fun h => absurd h (Nat.lt_irrefl 0)⟩
  · refine ⟨_, cap, rfl, hn, hm, by simpa [ints] using hl, fun _ => ⟨_, rfl, (hlt g rfl).2, fun j z hj => ?_⟩⟩
    exact hc g rfl j _ (by unfold ints; rw [List.getElem?_map, hj]; rfl)

theorem ints_length (zs : List Int) : (ints zs).length = zs.length := by simp [ints]
theorem ints_snoc (zs : List Int) (x : Int) : ints (zs ++ [x]) = ints zs ++ [.int .i64 x] := by simp [ints]
theorem take_snoc {zs : List Int} {j : Nat} {x : Int} (h : zs[j]? = some x) : zs.take (j + 1) = zs.take j ++ [x] := by
  have hl := (List.getElem?_eq_some_iff.1 h).1
  rw [List.take_succ_eq_append_getElem hl, (List.getElem?_eq_some_iff.1 h).2]

theorem len_k {w : World} {T c room : Nat} {bs : List Nat} {xs : List Value} (h : L w T c room bs xs) (k : Nat) (hk : xs.length = k) :
    Calls Try.prog 12 #[ptr T] w fun e w' => e = .returned (.int .i64 (k : Nat)) ∧ w = w' := by
  subst hk; exact len_ h
theorem room_k {w : World} {T c room : Nat} {bs : List Nat} {xs : List Value} (h : L w T c room bs xs) (r : Nat) (hr : xs.length + r = room) :
    Calls Try.prog 13 #[ptr T] w fun e w' => e = .returned (.int .i64 (r : Nat)) ∧ Below w.heap.size w w' := by
  have h1 := room_ h
  rw [show room - xs.length = r by omega] at h1
  exact h1
end Go.Proofs.Ytkhecigpjjhmjaa.LI
