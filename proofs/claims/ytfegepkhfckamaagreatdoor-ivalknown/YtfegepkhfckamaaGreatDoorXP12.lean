/- Rational numbers: the second telling's Same, Nought as numbers; differences' sizes. -/
import Derived.Test.YtfegepkhfckamaaGreatDoorXP10
import Derived.Test.YtfegepkhfckamaaGreatDoorKI
namespace Go.Proofs.YtfegepkhfckamaaGreatDoor
open Go.RowKit
set_option linter.unusedVariables false

theorem nr_sub (a b : Rat) : nr (a - b) ≤ nr a + nr b + 1 := by
  rw [Rat.sub_eq_add_neg]
  have := nr_add a (-b)
  rw [nr_neg] at this
  exact this

end Go.Proofs.YtfegepkhfckamaaGreatDoor
