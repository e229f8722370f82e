/- The program's rational numbers: join, of differences. -/
import Derived.Test.YtcccejhkblnonabXP6
namespace Go.Proofs.Ytcccejhkblnonab
open Go.RowKit
set_option linter.unusedVariables false

end Go.Proofs.Ytcccejhkblnonab
