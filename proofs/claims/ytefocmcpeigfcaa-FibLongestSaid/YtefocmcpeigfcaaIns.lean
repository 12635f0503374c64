/- What every claim needs of the seat. -/
import Derived.Test.YtefocmcpeigfcaaRows
import Derived.WalkKit
import Derived.ProofKit
import Derived.OpenShut
import Derived.ShutString
import Derived.ChangeOld
import Derived.Below
import Derived.Handy
namespace Go.Proofs.Ytefocmcpeigfcaa
open Go Go.RowKit Go.ChangeShapes

theorem own : ownKnob Try.prog.godebug = none := by kernel_rfl
theorem laidOut : laidOutB Try.prog = true := by kernel_rfl
end Go.Proofs.Ytefocmcpeigfcaa
