/- The second telling's Next. -/
import Derived.Test.YtbhehgodnfcdgaaDoorXF19
namespace Go.Proofs.YtbhehgodnfcdgaaDoor
open Go.RowKit
set_option linter.unusedVariables false
set_option linter.unusedSimpArgs false

end Go.Proofs.YtbhehgodnfcdgaaDoor
