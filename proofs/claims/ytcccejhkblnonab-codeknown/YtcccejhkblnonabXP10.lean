/- The program's rational numbers: Same. -/
import Derived.Test.YtcccejhkblnonabXP9
namespace Go.Proofs.Ytcccejhkblnonab
open Go.RowKit
set_option linter.unusedVariables false
set_option linter.unusedSimpArgs false

theorem shape_eql (w : World) (s t : Bool) (x y x' y' : Int) : (binOp .eql 101 (.agg #[.bool s, .int .i64 x, .int .i64 y]) (.agg #[.bool t, .int .i64 x', .int .i64 y'])).run Try.prog w = .ok (.bool (s == t && x == x' && y == y')) w := by
  simp [binOp, Op.equal, Op.maxDepth, go_sem]
  by_cases h1 : s = t <;> by_cases h2 : x = x' <;> by_cases h3 : y = y' <;> simp [h1, h2, h3]

theorem same_parts (p q : Rat) : (negQ p == negQ q && p.num.natAbs == q.num.natAbs && p.den == q.den) = decide (p = q) := by
  rw [Bool.eq_iff_iff]
  simp only [Bool.and_eq_true, beq_iff_eq, decide_eq_true_eq]
  constructor
  · rintro ⟨⟨h1, h2⟩, h3⟩
    rw [← mkQ_self p, ← mkQ_self q, h1, h2, h3]
  · rintro rfl
    exact ⟨⟨rfl, rfl⟩, rfl⟩

end Go.Proofs.Ytcccejhkblnonab
