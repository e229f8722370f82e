/- Rational numbers: Right of numbers, both ways of telling it. -/
import Derived.Test.YtnknbeinnfhomaaGreatDoorXP9
import Derived.Test.YtnknbeinnfhomaaGreatDoorKI
namespace Go.Proofs.YtnknbeinnfhomaaGreatDoor
open Go.RowKit
set_option linter.unusedVariables false
set_option linter.unusedSimpArgs false

theorem right_parts (q : Rat) : q.den ≠ 0 ∧ (q.num.natAbs = 0 → negQ q = false) ∧ Nat.gcd q.num.natAbs q.den = 1 := by
  refine ⟨q.den_nz, fun h => ?_, q.reduced⟩
  unfold negQ
  simp only [decide_eq_false_iff_not]
  omega

end Go.Proofs.YtnknbeinnfhomaaGreatDoor
