/- What every claim needs of the seat. -/
import Derived.Test.YtikkobmccagdlaaGreatDoorRows
import Derived.WalkKit
import Derived.ProofKit
import Derived.OpenShut
import Derived.ShutString
import Derived.ChangeOld
import Derived.Below
import Derived.Handy
namespace Go.Proofs.YtikkobmccagdlaaGreatDoor
open Go Go.RowKit Go.ChangeShapes

theorem own : ownKnob Tryz.prog.godebug = none := by kernel_rfl
theorem laidOut : laidOutB Tryz.prog = true := by kernel_rfl
end Go.Proofs.YtikkobmccagdlaaGreatDoor
