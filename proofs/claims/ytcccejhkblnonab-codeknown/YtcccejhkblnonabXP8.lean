/- The program's rational numbers: Add, Sub. -/
import Derived.Test.YtcccejhkblnonabXP7
namespace Go.Proofs.Ytcccejhkblnonab
open Go.RowKit
set_option linter.unusedVariables false

end Go.Proofs.Ytcccejhkblnonab
