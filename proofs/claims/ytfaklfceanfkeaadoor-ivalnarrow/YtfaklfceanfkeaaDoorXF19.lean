/- The second telling's kinds of floats, Cmp, Next. -/
import Derived.Test.YtfaklfceanfkeaaDoorXF18
namespace Go.Proofs.YtfaklfceanfkeaaDoor
open Go.RowKit
set_option linter.unusedVariables false
set_option linter.unusedSimpArgs false

theorem none3_any {w : World} (f : Nat) (hf : f < 18446744073709551616) : Calls Tryd.prog 16 #[.int .u64 f] w fun e w' => e = .returned (.bool (isNan f)) ∧ w' = w := by
  have h1 := andNot_sign f hf
  go_enter Tryd.func16, Tryd.ntmps16
  go_wp2
  go_ret
  exact ⟨ret_bool (by unfold isNan; rw [Bool.eq_iff_iff]; simp; omega), rfl⟩

theorem endless3_any {w : World} (f : Nat) (hf : f < 18446744073709551616) : Calls Tryd.prog 17 #[.int .u64 f] w fun e w' => e = .returned (.bool (decide (fsz f = 9218868437227405312))) ∧ w' = w := by
  have h1 := andNot_sign f hf
  go_enter Tryd.func17, Tryd.ntmps17
  go_wp2
  go_ret
  exact ⟨ret_bool (by rw [Bool.eq_iff_iff]; simp; omega), rfl⟩

theorem nought3_any {w : World} (f : Nat) (hf : f < 18446744073709551616) : Calls Tryd.prog 25 #[.int .u64 f] w fun e w' => e = .returned (.bool (decide (fsz f = 0))) ∧ w' = w := by
  have h1 := andNot_sign f hf
  go_enter Tryd.func25, Tryd.ntmps25
  go_wp2
  go_ret
  exact ⟨ret_bool (by rw [Bool.eq_iff_iff]; simp), rfl⟩

theorem minus3_any {w : World} (f : Nat) (hf : f < 18446744073709551616) : Calls Tryd.prog 21 #[.int .u64 f] w fun e w' => e = .returned (.bool (fneg f)) ∧ w' = w := by
  have h1 := and_sign_ne f hf
  go_enter Tryd.func21, Tryd.ntmps21
  go_wp2
  go_ret
  exact ⟨ret_bool (by first | exact h1 | simp), rfl⟩

theorem signed3_any {w : World} (s : Bool) (z : Nat) (hz : z < 9223372036854775808) : Calls Tryd.prog 26 #[.bool s, .int .u64 z] w fun e w' => e = .returned (.int .u64 ((sgn s + z : Nat) : Int)) ∧ w' = w := by
  have h1 := bits_or_u64_nat z 9223372036854775808 (by omega) (by decide)
  have h2 := or_add 1 z 63 hz
  rw [show (1 * 2 ^ 63 : Nat) = 9223372036854775808 from rfl, Nat.or_comm] at h2
  rw [h2] at h1
  unfold sgn
  cases s
  · go_enter Tryd.func26, Tryd.ntmps26
    go_wp2
    go_ret
    exact ⟨ret_int (by simp), rfl⟩
  · go_enter Tryd.func26, Tryd.ntmps26
    go_wp2
    go_ret
    exact ⟨ret_int (by first | exact h1 | simp), rfl⟩

end Go.Proofs.YtfaklfceanfkeaaDoor
