/- The program's rational numbers: Same. -/
/- Rational numbers: the second telling's Same, Nought as numbers; differences' sizes. -/
import Derived.Test.YtcccejhkblnonabYKL
import Derived.Test.YtcccejhkblnonabKI
namespace Go.Proofs.Ytcccejhkblnonab
open Go.RowKit
set_option linter.unusedVariables false
set_option linter.unusedSimpArgs false

theorem shape_eql (w : World) (s t : Bool) (x y x' y' : Int) : (binOp .eql 101 (.agg #[.bool s, .int .i64 x, .int .i64 y]) (.agg #[.bool t, .int .i64 x', .int .i64 y'])).run Try.prog w = .ok (.bool (s == t && x == x' && y == y')) w := by
  simp [binOp, Op.equal, Op.maxDepth, go_sem]
  by_cases h1 : s = t <;> by_cases h2 : x = x' <;> by_cases h3 : y = y' <;> simp [h1, h2, h3]

theorem same_parts (p q : Rat) : (negQ p == negQ q && p.num.natAbs == q.num.natAbs && p.den == q.den) = decide (p = q) := by
  rw [Bool.eq_iff_iff]
  simp only [Bool.and_eq_true, beq_iff_eq, decide_eq_true_eq]
  constructor
  · rintro ⟨⟨h1, h2⟩, h3⟩
    rw [← mkQ_self p, ← mkQ_self q, h1, h2, h3]
  · rintro rfl
    exact ⟨⟨rfl, rfl⟩, rfl⟩

end Go.Proofs.Ytcccejhkblnonab

namespace Go.Proofs.Ytcccejhkblnonab
open Go.RowKit
set_option linter.unusedVariables false

theorem nr_sub (a b : Rat) : nr (a - b) ≤ nr a + nr b + 1 := by
  rw [Rat.sub_eq_add_neg]
  have := nr_add a (-b)
  rw [nr_neg] at this
  exact this

theorem same2_num {w : World} {a b : Value} {p q : Rat} (ha : RV w a p) (hb : RV w b q) (bp : nr p ≤ 5000) (bq : nr q ≤ 5000) :
    Calls Try.prog 34 #[a, b] w fun e w' => e = .returned (.bool (decide (p = q))) ∧ Fwd w w' := by
  rw [← same_parts]
  exact same2_any ha.rw' (nr_le bp).1 (nr_le bp).2 hb.rw' (nr_le bq).1 (nr_le bq).2
theorem same2_true {w : World} {a b : Value} {p q : Rat} (ha : RV w a p) (hb : RV w b q) (bp : nr p ≤ 5000) (bq : nr q ≤ 5000) (h : p = q) :
    Calls Try.prog 34 #[a, b] w fun e w' => e = .returned (.bool true) ∧ Fwd w w' := by
  have := same2_num ha hb bp bq
  rwa [decide_eq_true h] at this

end Go.Proofs.Ytcccejhkblnonab
