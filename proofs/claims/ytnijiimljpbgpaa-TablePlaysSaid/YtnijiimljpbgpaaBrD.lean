/-
  A branch of the law's switch, each a theorem of its own: what one call leaves of the table and of the law's two rows.
-/
import Derived.Test.YtnijiimljpbgpaaPlB
import Derived.Test.YtnijiimljpbgpaaReg
import Derived.Deep.QuietTactic
import Derived.BigQuiet
import Derived.Deep.Cut
namespace Go.Proofs.Ytnijiimljpbgpaa.PL
open Go.RowKit Go.Proofs.Ytnijiimljpbgpaa.Kit Go.Proofs.Ytnijiimljpbgpaa.Arg

def findBlock (n : Nat) : Code → Option Code
  | .block id c => if id = n then some (.block id c) else findBlock n c
  | .loop c => findBlock n c
  | .seq a b => match findBlock n a with
    | some c => some c
    | none => findBlock n b
  | .scope c => findBlock n c
  | .cond _ a b => match findBlock n a with
    | some c => some c
    | none => findBlock n b
  | _ => none
noncomputable def code4 : Code := ((Try.f3.body.bind (findBlock 4)).getD .skip)
def NoExit : Exit → Act → World → Prop := fun _ _ _ => False
end Go.Proofs.Ytnijiimljpbgpaa.PL
