/-
  A slice of ints that came in: each is an int of 64 bits.
-/
import Derived.Test.YtnijiimljpbgpaaLaw
namespace Go.Proofs.Ytnijiimljpbgpaa.Law
open Go.ChangeShapes Go.WideShapes Go.ChangeAt Go.RowKit

open Arg in
theorem open_ints_wf {H : Type} {enc : TypeId × Value → H} {W : World} {a0 : Option Addr} {len cap : Nat} {d : DataW H} {p : List MemPlace} (h : DataW.Trod enc Try.prog W 0 (fun _ => true) true 26 (.slice a0 len cap) d p) :
    ∃ zs, IntsAt W a0 len zs ∧ len ≤ maxLen ∧ ∀ z ∈ zs, -9223372036854775808 ≤ z ∧ z ≤ 9223372036854775807 := by
  obtain ⟨fuel, hf⟩ := h
  rcases open_ints Try.underlying26 Try.underlying3 (by kernel_rfl) hf with ⟨hcs, hx⟩ | ⟨a, len', cap', zs, hcs, _, hl, hm, hz, hx, hcell, hwz⟩
  · simp [Value.cells] at hcs
    obtain ⟨rfl, rfl, rfl⟩ := hcs
    exact ⟨[], ⟨rfl, fun h => absurd h (Nat.lt_irrefl 0)⟩, Nat.zero_le _, fun _ h => by cases h⟩
  · simp [Value.cells] at hcs
    obtain ⟨rfl, rfl, rfl⟩ := hcs
    simp only [if_true] at hz
    have hc : ∀ j z, (zs.take len)[j]? = some z → W.cell? (a.add j) = some (.int .i64 z) := by
      intro j z hj
      rw [List.getElem?_take] at hj
      split at hj
      · have hjl := (List.getElem?_eq_some_iff.1 hj).1
        rw [hcell j hjl, List.getD_eq_getElem?_getD, hj]
        rfl
      · cases hj
    refine ⟨zs.take len, ⟨by rw [List.length_take]; omega, fun h0 => ⟨a, rfl, ?_, hc⟩⟩, by omega, fun z hz => ?_⟩
    · have := World.block_lt_of_cell? W _ (hcell 0 (by omega))
      rwa [add_block] at this
    · have := hwz z (List.mem_of_mem_take hz)
      simpa [Lit.wf, IntKind.min, IntKind.max, IntKind.signed, IntKind.bits] using this
end Go.Proofs.Ytnijiimljpbgpaa.Law
