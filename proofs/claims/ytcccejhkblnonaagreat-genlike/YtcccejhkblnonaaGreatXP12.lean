/- Rational numbers: the second telling's Same, Nought as numbers; differences' sizes. -/
import Derived.Test.YtcccejhkblnonaaGreatXP10
import Derived.Test.YtcccejhkblnonaaGreatKI
namespace Go.Proofs.YtcccejhkblnonaaGreat
open Go.RowKit
set_option linter.unusedVariables false

theorem nr_sub (a b : Rat) : nr (a - b) ≤ nr a + nr b + 1 := by
  rw [Rat.sub_eq_add_neg]
  have := nr_add a (-b)
  rw [nr_neg] at this
  exact this

theorem same2_num {w : World} {a b : Value} {p q : Rat} (ha : RV w a p) (hb : RV w b q) (bp : nr p ≤ 5000) (bq : nr q ≤ 5000) :
    Calls Tryz.prog 13 #[a, b] w fun e w' => e = .returned (.bool (decide (p = q))) ∧ Fwd w w' := by
  rw [← same_parts]
  exact same2_any ha.rw' (nr_le bp).1 (nr_le bp).2 hb.rw' (nr_le bq).1 (nr_le bq).2
theorem same2_true {w : World} {a b : Value} {p q : Rat} (ha : RV w a p) (hb : RV w b q) (bp : nr p ≤ 5000) (bq : nr q ≤ 5000) (h : p = q) :
    Calls Tryz.prog 13 #[a, b] w fun e w' => e = .returned (.bool true) ∧ Fwd w w' := by
  have := same2_num ha hb bp bq
  rwa [decide_eq_true h] at this

end Go.Proofs.YtcccejhkblnonaaGreat
