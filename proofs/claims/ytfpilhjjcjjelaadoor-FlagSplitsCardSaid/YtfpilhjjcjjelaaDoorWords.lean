/-
  A slice of texts that came in: its cells, its reading, its weight.
-/
import Derived.Test.YtfpilhjjcjjelaaDoorDoor
import Derived.Test.YtfpilhjjcjjelaaDoorFew
import Derived.SizedLaws
namespace Go.Proofs.YtfpilhjjcjjelaaDoor.Words
open Go.ChangeShapes Go.WideShapes Go.ChangeAt Go.RowKit Go.Proofs.YtfpilhjjcjjelaaDoor.Arg Go.Proofs.YtfpilhjjcjjelaaDoor.Few

theorem open_words {H : Type} {enc : TypeId × Value → H} {W : World} {a0 : Option Addr} {len cap : Nat} {d : DataW H} {p : List MemPlace} (h : DataW.Trod enc Tryd.prog W 0 (fun _ => true) true 22 (.slice a0 len cap) d p) :
    ∃ zs, StrsAt W a0 len zs ∧ (∀ z ∈ zs, z.size ≤ maxLen) ∧ len ≤ maxLen ∧ (len = 0 ∨ ∃ sp, d = .slice (strs zs) sp) := by
  obtain ⟨fuel, hf⟩ := h
  rcases open_strings Tryd.underlying22 Tryd.underlying9 (by kernel_rfl) hf with ⟨hcs, hx⟩ | ⟨a, len', cap', zs, hcs, _, hl, hm, hz, hx, hcell, hwz⟩
  · simp [Value.cells] at hcs
    obtain ⟨rfl, rfl, rfl⟩ := hcs
    exact ⟨[], ⟨rfl, fun h => absurd h (Nat.lt_irrefl 0)⟩, by simp, Nat.zero_le _, .inl rfl⟩
  · simp [Value.cells] at hcs
    obtain ⟨rfl, rfl, rfl⟩ := hcs
    simp only [if_true] at hz
    have hc : ∀ j z, (zs.take len)[j]? = some z → W.cell? (a.add j) = some (.string z) := by
      intro j z hj
      rw [List.getElem?_take] at hj
      split at hj
      · have hjl := (List.getElem?_eq_some_iff.1 hj).1
        rw [hcell j hjl, List.getD_eq_getElem?_getD, hj]
        rfl
      · cases hj
    refine ⟨zs.take len, ⟨by rw [List.length_take]; omega, fun h0 => ⟨a, rfl, ?_, hc⟩⟩, fun z hz => hwz z (List.mem_of_mem_take hz), by omega, .inr ⟨_, (Prod.mk.inj hx).1⟩⟩
    have := World.block_lt_of_cell? W _ (hcell 0 (by omega))
    rwa [add_block] at this

theorem bulk_strs {H : Type} : ∀ zs : List ByteArray, Rows.uptoBulkAll (strs (H := H) zs) = zs.length + letters zs
  | [] => by simp [strs, Rows.uptoBulkAll, letters]
  | z :: zs => by
    have ih := bulk_strs (H := H) zs
    have e : strs (H := H) (z :: zs) = .lit (.string z.data.toList) :: strs zs := rfl
    rw [e]
    simp only [Rows.uptoBulkAll, Rows.uptoBulk, ih, letters, List.map_cons, List.sum_cons, List.length_cons]
    have : z.data.toList.length = z.size := by simp
    omega
theorem bytes9 : Tryd.prog.bytesOf 9 = 16 := by kernel_rfl
theorem strs_len {H : Type} (zs : List ByteArray) : (strs (H := H) zs).length = zs.length := by simp [strs]
end Go.Proofs.YtfpilhjjcjjelaaDoor.Words
