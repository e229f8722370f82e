/- The program's gen: a number that is refused; the second telling's Neg. -/
import Derived.Test.YtnknbeinnfhomaaGreatDoorXN2
import Derived.Test.YtnknbeinnfhomaaGreatDoorXP14
namespace Go.Proofs.YtnknbeinnfhomaaGreatDoor
open Go.RowKit
set_option linter.unusedVariables false
set_option linter.unusedSimpArgs false

theorem Rd.sl {w : World} {v : Value} {xs : List Nat} (h : Rd w v xs) : ∃ a c, v = .slice a xs.length c ∧ xs.length ≤ c ∧ c ≤ maxLen := by
  rcases h.2 with ⟨rfl, rfl⟩ | ⟨b, off, cap, rfl, h1, h2, _⟩
  · exact ⟨none, 0, rfl, Nat.le_refl _, by unfold maxLen; omega⟩
  · exact ⟨_, cap, rfl, h1, h2⟩

def refusedR (s : Bool) (xs ys : List Nat) : Bool := decide (4 < xs.length) || (decide (4 < ys.length) || !rightR s xs ys)

end Go.Proofs.YtnknbeinnfhomaaGreatDoor
