/- The program's rational numbers: Same. -/
import Derived.Test.YtfegepkhfckamaaGreatDoorXP9
namespace Go.Proofs.YtfegepkhfckamaaGreatDoor
open Go.RowKit
set_option linter.unusedVariables false
set_option linter.unusedSimpArgs false

theorem same_parts (p q : Rat) : (negQ p == negQ q && p.num.natAbs == q.num.natAbs && p.den == q.den) = decide (p = q) := by
  rw [Bool.eq_iff_iff]
  simp only [Bool.and_eq_true, beq_iff_eq, decide_eq_true_eq]
  constructor
  · rintro ⟨⟨h1, h2⟩, h3⟩
    rw [← mkQ_self p, ← mkQ_self q, h1, h2, h3]
  · rintro rfl
    exact ⟨⟨rfl, rfl⟩, rfl⟩

end Go.Proofs.YtfegepkhfckamaaGreatDoor
