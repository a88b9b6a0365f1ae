/-
  The heap that the program's own start leaves meets what the rows list; what the rows list gives the table.
-/
import Derived.Test.YtmojecimmogeaaaDoorKit
import Derived.Test.YtmojecimmogeaaaDoorLaw
import Derived.Test.YtmojecimmogeaaaDoorCards
import Derived.Test.YtmojecimmogeaaaDoorTie
import Derived.WalkKit
import Derived.ProofKit
import Derived.LaidMore
import Derived.OpenShut
import Derived.Stop.Joined
import Derived.SevenTiedAt
namespace Go.Proofs.YtmojecimmogeaaaDoor.Door
open Go.ChangeShapes Go.WideShapes Go.ChangeAt Go.WideMaps Go.WideElems Go.RowKit Go.Proofs.YtmojecimmogeaaaDoor.Kit

theorem door_met (os : Os) (args : Array Value) : laidMetH Tryd.prog laid ((World.doorLaid Tryd.prog 400 os).forCall (fun _ _ => 0) ⟨#[], args, []⟩).memory :=
  laidMetH_of_parts3 (fuel := 8) (laidMet_of_run' 8 (by kernel_rfl) (by kernel_rfl)) (by kernel_rfl) (by kernel_rfl)
end Go.Proofs.YtmojecimmogeaaaDoor.Door
