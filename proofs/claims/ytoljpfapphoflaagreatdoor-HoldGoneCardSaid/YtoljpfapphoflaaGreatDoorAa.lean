/-
 Short names.
-/
import Derived.Lib.Hide
set_option linter.unusedVariables false
set_option linter.unusedSimpArgs false
namespace Go.Proofs.YtoljpfapphoflaaGreatDoor
theorem H_ {p:Prop} (h:p):Go.RowKit.Hid p:=h
theorem lr_ {n:Nat}:n<=n:=Nat.le_refl n
theorem gs_ {α:Type _} {xs:Array α} {b:α} {i:Nat} (h:xs[i]? = some b):∃ h:i<xs.size,xs[i]=b:=Array.getElem?_eq_some_iff.1 h
end Go.Proofs.YtoljpfapphoflaaGreatDoor
