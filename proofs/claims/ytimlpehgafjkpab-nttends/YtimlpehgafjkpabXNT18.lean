/- Contracts: Conv, the program's. -/
import Derived.Test.YtimlpehgafjkpabXNT17
namespace Go.Proofs.Ytimlpehgafjkpab
open Go.RowKit Go.Maps
set_option linter.unusedVariables false
set_option linter.unusedSimpArgs false

/-- The answer of Conv. -/
def cvA (xs ys : List Nat) : List Nat × Nat := if xs.length = 0 ∨ ys.length = 0 ∨ 1025 < xs.length + ys.length then ([], 3) else if allR xs && allR ys then (cvL xs ys, 0) else ([], 1)

theorem Rd.len {w : World} {v : Value} {xs : List Nat} (h : Rd w v xs) : ∃ ao cap, v = .slice ao xs.length cap ∧ xs.length ≤ cap ∧ cap ≤ 9223372036854775807 := by
  obtain ⟨ao, cap, e, h1, h2, _⟩ := h.parts
  exact ⟨ao, cap, e, h1, by unfold maxLen at h2; omega⟩

end Go.Proofs.Ytimlpehgafjkpab
