/- The program's rational numbers: Add, Sub. -/
import Derived.Test.YtfegepkhfckamaaGreatDoorXP7
namespace Go.Proofs.YtfegepkhfckamaaGreatDoor
open Go.RowKit
set_option linter.unusedVariables false

end Go.Proofs.YtfegepkhfckamaaGreatDoor
