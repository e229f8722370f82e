/- The program's rational numbers: size, Of, Mul, Quo. -/
import Derived.Test.YtbhehgodnfcdgaaDoorXP2
import Derived.Deep.RegionHeld3
namespace Go.Proofs.YtbhehgodnfcdgaaDoor
open Go.RowKit
set_option linter.unusedVariables false

end Go.Proofs.YtbhehgodnfcdgaaDoor
