/-
  Fixed: four bytes; by the program, and by the document's own answer.
-/
import Derived.Test.YtdgcihgohkgecaaDoorPkB
namespace Go.Proofs.YtdgcihgohkgecaaDoor.PkC
open Go.RowKit Go.Proofs.YtdgcihgohkgecaaDoor.PkKit Go.Proofs.YtdgcihgohkgecaaDoor.PkA Go.Proofs.YtdgcihgohkgecaaDoor.PkB

/-- Four bytes of a number. -/
def fx (m : Nat) : List UInt8 := [(m / 16777216 % 256).toUInt8, (m / 65536 % 256).toUInt8, (m / 256 % 256).toUInt8, (m % 256).toUInt8]
def mx (x : Int) : Nat := (max x 0).toNat
set_option maxRecDepth 100000 in
theorem by_single {c : Nat} (h : c < 256) : by_ [c.toUInt8] = [Value.int .u8 (c : Int)] := by
  have := Lib.byteCells_snoc [] h
  simpa [Lib.byteCells] using this
set_option maxRecDepth 100000 in
theorem by_fx (m : Nat) : by_ (fx m) = [.int .u8 ((m : Int) / 16777216 % 256), .int .u8 ((m : Int) / 65536 % 256), .int .u8 ((m : Int) / 256 % 256), .int .u8 ((m : Int) % 256)] := by
  have e : ∀ k : Nat, (((m / k % 256 : Nat)) : Int) = (m : Int) / (k : Int) % 256 := fun k => by omega
  unfold fx
  rw [show ([(m / 16777216 % 256).toUInt8, (m / 65536 % 256).toUInt8, (m / 256 % 256).toUInt8, (m % 256).toUInt8] : List UInt8) = [(m / 16777216 % 256).toUInt8] ++ ([(m / 65536 % 256).toUInt8] ++ ([(m / 256 % 256).toUInt8] ++ [(m % 256).toUInt8])) from rfl,
    by_append, by_append, by_append, by_single (by omega), by_single (by omega), by_single (by omega), by_single (by omega)]
  simp only [List.cons_append, List.nil_append, Int.natCast_emod, Int.natCast_ediv]
  rfl

set_option maxRecDepth 100000 in
theorem fx_at (m : Nat) : (fx m)[0]? = some (m / 16777216 % 256).toUInt8 ∧ (fx m)[1]? = some (m / 65536 % 256).toUInt8 ∧ (fx m)[2]? = some (m / 256 % 256).toUInt8 ∧ (fx m)[3]? = some (m % 256).toUInt8 := ⟨rfl, rfl, rfl, rfl⟩
set_option maxRecDepth 100000 in
theorem by_int {c : Nat} {x : Int} (h : c < 256) (hx : x = c) : by_ [c.toUInt8] = [Value.int .u8 x] := by rw [hx]; exact by_single h
end Go.Proofs.YtdgcihgohkgecaaDoor.PkC
