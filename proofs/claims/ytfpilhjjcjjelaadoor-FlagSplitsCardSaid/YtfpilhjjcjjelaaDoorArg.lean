/-
  A slice of ints, or of texts, that came in: its cells lie among what was there, and they stay as long as nothing turns there.
-/
import Derived.Below
import Derived.Lib.Hide
namespace Go.Proofs.YtfpilhjjcjjelaaDoor.Arg
open Go.RowKit

theorem add_block (a : Addr) (j : Nat) : (a.add j).block = a.block := by unfold Addr.add; split <;> rfl

/-- A slice of ints that came in. -/
def IntsAt (w : World) (A : Option Addr) (n : Nat) (zs : List Int) : Prop :=
  zs.length = n ∧ (0 < n → ∃ ad, A = some ad ∧ ad.block < w.heap.size ∧ ∀ j z, zs[j]? = some z → w.cell? (ad.add j) = some (.int .i64 z))
/-- A slice of texts that came in. -/
def StrsAt (w : World) (A : Option Addr) (n : Nat) (zs : List ByteArray) : Prop :=
  zs.length = n ∧ (0 < n → ∃ ad, A = some ad ∧ ad.block < w.heap.size ∧ ∀ j z, zs[j]? = some z → w.cell? (ad.add j) = some (.string z))

theorem IntsAt.at_ {w wr : World} {A : Option Addr} {n B : Nat} {zs : List Int} (h : IntsAt w A n zs) (hb : Below B w wr) (hB : w.heap.size ≤ B) {j : Nat} (hj : j < n) :
    ∃ ad x, A = some ad ∧ zs[j]? = some x ∧ wr.cell? (ad.add j) = some (.int .i64 x) := by
  obtain ⟨hl, hc⟩ := h
  obtain ⟨ad, rfl, hlt, hcell⟩ := hc (by omega)
  refine ⟨ad, zs[j]'(by omega), rfl, List.getElem?_eq_getElem (by omega), ?_⟩
  rw [hb.cell (p := ad.add j) (by rw [add_block]; omega)]
  exact hcell j _ (List.getElem?_eq_getElem (by omega))
theorem StrsAt.at_ {w wr : World} {A : Option Addr} {n B : Nat} {zs : List ByteArray} (h : StrsAt w A n zs) (hb : Below B w wr) (hB : w.heap.size ≤ B) {j : Nat} (hj : j < n) :
    ∃ ad x, A = some ad ∧ zs[j]? = some x ∧ wr.cell? (ad.add j) = some (.string x) := by
  obtain ⟨hl, hc⟩ := h
  obtain ⟨ad, rfl, hlt, hcell⟩ := hc (by omega)
  refine ⟨ad, zs[j]'(by omega), rfl, List.getElem?_eq_getElem (by omega), ?_⟩
  rw [hb.cell (p := ad.add j) (by rw [add_block]; omega)]
  exact hcell j _ (List.getElem?_eq_getElem (by omega))
end Go.Proofs.YtfpilhjjcjjelaaDoor.Arg
