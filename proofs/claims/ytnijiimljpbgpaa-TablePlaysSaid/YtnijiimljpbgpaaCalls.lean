/-
  A slice of calls that came in: three ints each.
-/
import Derived.Test.YtnijiimljpbgpaaLaw
import Derived.Test.YtnijiimljpbgpaaPlA
import Derived.Deep.Slices
import Derived.Deep.Fields
namespace Go.Proofs.Ytnijiimljpbgpaa.PL
open Go.ChangeShapes Go.WideShapes Go.ChangeAt Go.RowKit Go.Deep Go.Proofs.Ytnijiimljpbgpaa.Arg

theorem und28 : ∃ fs, Try.prog.underlying 28 = some (.struct fs) ∧ fs.size = 3 ∧ (∀ j, j < 3 → ∃ f, fs[j]? = some f ∧ f.offset = j ∧ f.type = 3) := by
  refine ⟨_, Try.underlying28, rfl, fun j hj => ?_⟩
  match j, hj with
  | 0, _ => exact ⟨_, rfl, rfl, rfl⟩
  | 1, _ => exact ⟨_, rfl, rfl, rfl⟩
  | 2, _ => exact ⟨_, rfl, rfl, rfl⟩
theorem cells28 : Try.prog.cellsOf 28 = 3 := by kernel_rfl
theorem cells3 : Try.prog.cellsOf 3 = 1 := by kernel_rfl

theorem open_calls {H : Type} {enc : TypeId × Value → H} {W : World} {a0 : Option Addr} {len cap : Nat} {d : DataW H} {p : List MemPlace} (h : DataW.Trod enc Try.prog W 0 (fun _ => true) true 22 (.slice a0 len cap) d p) : CallsAt W a0 len ∧ len ≤ maxLen := by
  obtain ⟨fuel, hf⟩ := h
  rcases open_slice Try.underlying22 hf with ⟨hcs, hx⟩ | ⟨a, len', cap', m, n, D, Pl, hcs, _, hl, hm, hmm, hx, hi⟩
  · simp [Value.cells] at hcs
    obtain ⟨rfl, rfl, rfl⟩ := hcs
    exact ⟨fun h => absurd h (Nat.lt_irrefl 0), Nat.zero_le _⟩
  · simp [Value.cells] at hcs
    obtain ⟨rfl, rfl, rfl⟩ := hcs
    simp only [if_true] at hmm
    obtain ⟨fs, hu, hfs, hfj⟩ := und28
    have each : ∀ j, j < len → ∀ k, k < 3 → ∃ z : Int, W.cell? (a.add (j * 3 + k)) = some (.int .i64 z) := by
      intro j hj k hk
      obtain ⟨cs', hc, ht⟩ := hi j (by omega)
      rw [cells28] at hc
      obtain ⟨xs, n', _, _, hcl, hxl, hfld⟩ := DataW.trod_struct hu ht
      obtain ⟨_, hlen, hat⟩ := World.cells?_some hc
      obtain ⟨f, hf1, hf2, hf3⟩ := hfj k hk
      have h1 := hfld k f hf1
      rw [hf2, hf3, cells3] at h1
      obtain ⟨y, hy⟩ : ∃ y, xs[k]? = some y := ⟨xs[k]'(by omega), List.getElem?_eq_getElem _⟩
      rw [hy] at h1
      obtain ⟨z, hz, _, _⟩ := DataW.trod_int Try.underlying3 h1
      refine ⟨z, ?_⟩
      have h2 := hat k (by omega)
      rw [PL.add_add] at h2
      rw [h2]
      have hk2 : k < cs'.length := by omega
      have h9 : (cs'.drop k).take 1 = [cs'[k]] := by
        rw [List.drop_eq_getElem_cons hk2]
        rfl
      rw [h9] at hz
      injection hz with hz _
      rw [List.getElem?_eq_getElem hk2, hz]
    refine ⟨fun h0 => ⟨a, rfl, ?_, fun j hj => ?_⟩, by omega⟩
    · obtain ⟨z, hz⟩ := each 0 h0 0 (by omega)
      have := World.block_lt_of_cell? W _ hz
      rwa [add_block] at this
    · obtain ⟨z0, h0⟩ := each j hj 0 (by omega)
      obtain ⟨z1, h1⟩ := each j hj 1 (by omega)
      obtain ⟨z2, h2⟩ := each j hj 2 (by omega)
      exact ⟨z0, z1, z2, h0, h1, h2⟩
end Go.Proofs.Ytnijiimljpbgpaa.PL
