/- The second telling's Int. -/
import Derived.Test.YtnknbeinnfhomaaGreatDoorKI
import Derived.Test.YtnknbeinnfhomaaGreatDoorKL
import Derived.Deep.DeepCutAuto
namespace Go.Proofs.YtnknbeinnfhomaaGreatDoor
open Go.RowKit
set_option linter.unusedVariables false

theorem mkQ_int (n : Int) : mkQ (!(decide (n < 0) == decide ((1 : Int) < 0))) n.natAbs (1 : Int).natAbs = (n : Rat) := by
  have h1 : decide ((1 : Int) < 0) = false := by decide
  have h2 : (1 : Int).natAbs = 1 := rfl
  have h3 : sgQ (!(decide (n < 0) == false)) n.natAbs = n := by
    by_cases h : n < 0
    · simp [sgQ, h]; omega
    · simp [sgQ, h]; omega
  unfold mkQ
  rw [h1, h2, h3, Rat.mkRat_one]

end Go.Proofs.YtnknbeinnfhomaaGreatDoor
