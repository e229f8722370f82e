/- Rational numbers: Right of any struct, both ways of telling it. -/
import Derived.Test.YtnknbeinnfhomaaGreatDoorYXP9
import Derived.Test.YtnknbeinnfhomaaGreatDoorXU1
namespace Go.Proofs.YtnknbeinnfhomaaGreatDoor
open Go.RowKit
set_option linter.unusedVariables false
set_option linter.unusedSimpArgs false

/-- Is a sign, a size, a denominator a right number? -/
def rightM (s : Bool) (m d : Nat) : Bool := !(d == 0) && (!(m == 0 && s) && Nat.gcd m d == 1)
/-- Are a sign and two rows of limbs? -/
def rightR (s : Bool) (xs ys : List Nat) : Bool := rightB xs && (rightB ys && rightM s (val xs) (val ys))
theorem rightB_lim' {xs : List Nat} (h : Ok xs) (hr : rightB xs = true) : xs = lim (val xs) := by
  refine (lim_val h ?_).symm
  unfold rightB at hr
  unfold Norm
  intro e
  rw [List.getLast?_eq_getElem?] at e
  have hl : xs.length ≠ 0 := by
    intro h0
    have : xs = [] := List.eq_nil_of_length_eq_zero h0
    subst this
    simp at e
  rw [List.getD_eq_getElem?_getD, e] at hr
  simp at hr
  exact hl (by simp [hr])
theorem Rd.num {w : World} {v : Value} {xs : List Nat} (h : Rd w v xs) (hr : rightB xs = true) : Num w v (val xs) := by
  unfold Num
  rw [← rightB_lim' h.ok hr]
  exact h

end Go.Proofs.YtnknbeinnfhomaaGreatDoor
