/- What every row needs besides its walk where the road names no package variable. -/
import Derived.Test.YtimlpehgafjkpaaRows
import Derived.Test.YtimlpehgafjkpaaKB
import Derived.ProofKit
import Derived.OpenShut
import Derived.ShutString
import Derived.ChangeOld
import Derived.LaidLaws
import Derived.Deep.DeepHandedRow
namespace Go.Proofs.Ytimlpehgafjkpaa
open Go.ChangeShapes Go.WideShapes Go.ChangeAt Go.RowKit
set_option linter.unusedVariables false

theorem ownGodebug : ownKnob Try.prog.godebug = none := by kernel_rfl
theorem laidOutAll : laidOutB Try.prog = true := by kernel_rfl
/-- The witness's world, as it is. -/
def relaid (w : World) : World := w
end Go.Proofs.Ytimlpehgafjkpaa
