/- The program's rational numbers: join, of differences. -/
import Derived.Test.YtfegepkhfckamaaGreatDoorXP6
namespace Go.Proofs.YtfegepkhfckamaaGreatDoor
open Go.RowKit
set_option linter.unusedVariables false

end Go.Proofs.YtfegepkhfckamaaGreatDoor
