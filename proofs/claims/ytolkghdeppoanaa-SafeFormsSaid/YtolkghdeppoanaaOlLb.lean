/-
  A law's argument of bytes, opened.
-/
import Derived.Test.YtolkghdeppoanaaBxLaw
import Derived.Test.YtolkghdeppoanaaJ1
set_option linter.unusedVariables false
set_option linter.unusedSimpArgs false
namespace Go.Proofs.Ytolkghdeppoanaa.OlLb
open Go.ChangeShapes Go.WideShapes Go.ChangeAt Go.ChangeMaps Go.WideMaps Go.WideElems Go.RowKit Go.Proofs.Ytolkghdeppoanaa.BxKit Go.Proofs.Ytolkghdeppoanaa.BxLaw
open Go.Proofs.Ytolkghdeppoanaa.PkKit (BytesAt)

def bytC (w : World) (_B : Nat) (p : Addr) (c : UInt8) : Prop := w.cell? p = some (.int .u8 (c.toNat : Int))
section
variable {H : Type} {enc : TypeId × Value → H} {W : World}
set_option maxRecDepth 100000 in
theorem rd_bytes {n : Nat} {v : Value} {y : DataW H × List MemPlace} (h : Rd enc W n 23 [v] y) (hs : Small 23 y.1) : ∃ A m c l, v = .slice A m c ∧ m ≤ c ∧ RowAt bytC 1 W W.heap.size A m l := by
  obtain ⟨A, m, c, l, e, h1, h2⟩ := BxLaw.open_row (C := bytC) (sz := 1) Try.underlying23 (by kernel_rfl) (by decide) (by rw [show Try.prog.bytesOf 5 = 1 by kernel_rfl]; decide)
    (fun n cs x p hl hc hr _ => by
      obtain ⟨z, e, _, hw⟩ := DataW.trod_int Try.underlying5 hr
      subst e
      have hc0 := hc 0 (by decide)
      have hwr : IntKind.u8.min ≤ z ∧ z ≤ IntKind.u8.max := by simpa [Lit.wf] using hw
      have hwr1 : 0 ≤ z := hwr.1
      have hwr2 : z ≤ 255 := hwr.2
      refine ⟨z.toNat.toUInt8, ?_⟩
      unfold bytC
      have e : ((z.toNat.toUInt8.toNat : Nat) : Int) = z := by rw [Nat.toUInt8_eq, UInt8.toNat_ofNat', Nat.mod_eq_of_lt (by omega)]; omega
      rw [e]
      exact hc0) h hs
  exact ⟨A, m, c, l, by simpa using e, h1, h2⟩
set_option maxRecDepth 100000 in
theorem open_bytesl {r : Reach} {b0 : Nat} {v : Value} {d : DataW H} {p : List MemPlace} (hv : Value.okWide Try.prog W r b0 23 v) (h : DataW.Trod enc Try.prog W 0 (fun _ => true) true 23 v d p) (hs : Small 23 d) :
    ∃ A n c l, v = .slice A n c ∧ n ≤ c ∧ BytesAt W W.heap.size A n l ∧ n ≤ 140737488355328 := by
  obtain ⟨a, n, c, rfl⟩ := okWide_slice Try.underlying23 hv
  obtain ⟨fuel, hf⟩ := h
  obtain ⟨A, m, c', l, e, h1, h2⟩ := rd_bytes (v := .slice a n c) hf hs
  refine ⟨A, m, c', l, e, h1, ⟨h2.len, fun h0 => ?_⟩, h2.max⟩
  obtain ⟨ad, e2, h3, h4⟩ := h2.2.2 h0
  refine ⟨ad, e2, h3, fun j x hj => ?_⟩
  have := h4 j x hj
  rw [Nat.mul_one] at this
  exact this
end
end Go.Proofs.Ytolkghdeppoanaa.OlLb
