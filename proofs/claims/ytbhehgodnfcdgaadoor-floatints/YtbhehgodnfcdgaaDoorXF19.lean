/- The second telling's kinds of floats, Cmp, Next. -/
import Derived.Test.YtbhehgodnfcdgaaDoorXF18
namespace Go.Proofs.YtbhehgodnfcdgaaDoor
open Go.RowKit
set_option linter.unusedVariables false
set_option linter.unusedSimpArgs false

theorem none3_any {w : World} (f : Nat) (hf : f < 18446744073709551616) : Calls Tryd.prog 40 #[.int .u64 f] w fun e w' => e = .returned (.bool (isNan f)) ∧ w' = w := by
  have h1 := andNot_sign f hf
  go_enter Tryd.func40, Tryd.ntmps40
  go_wp2
  go_ret
  exact ⟨ret_bool (by unfold isNan; rw [Bool.eq_iff_iff]; simp; omega), rfl⟩

theorem endless3_any {w : World} (f : Nat) (hf : f < 18446744073709551616) : Calls Tryd.prog 41 #[.int .u64 f] w fun e w' => e = .returned (.bool (decide (fsz f = 9218868437227405312))) ∧ w' = w := by
  have h1 := andNot_sign f hf
  go_enter Tryd.func41, Tryd.ntmps41
  go_wp2
  go_ret
  exact ⟨ret_bool (by rw [Bool.eq_iff_iff]; simp; omega), rfl⟩

theorem minus3_any {w : World} (f : Nat) (hf : f < 18446744073709551616) : Calls Tryd.prog 46 #[.int .u64 f] w fun e w' => e = .returned (.bool (fneg f)) ∧ w' = w := by
  have h1 := and_sign_ne f hf
  go_enter Tryd.func46, Tryd.ntmps46
  go_wp2
  go_ret
  exact ⟨ret_bool (by first | exact h1 | simp), rfl⟩

end Go.Proofs.YtbhehgodnfcdgaaDoor
