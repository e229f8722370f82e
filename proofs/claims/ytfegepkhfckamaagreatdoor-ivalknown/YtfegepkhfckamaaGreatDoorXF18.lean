/- sfloat's rank, Cmp, Next. -/
import Derived.Test.YtfegepkhfckamaaGreatDoorXFM
namespace Go.Proofs.YtfegepkhfckamaaGreatDoor
open Go.RowKit
set_option linter.unusedVariables false
set_option linter.unusedSimpArgs false

/-- A float's place among all; the order of two numbers, of two floats; the next float. -/
def rk (f : Nat) : Int := if fneg f then -(fsz f : Int) else (fsz f : Int)
def cmpI (x y : Int) : Int := if x < y then -1 else if y < x then 1 else 0
def cmpF (f g : Nat) : Int × Bool := if isNan f || isNan g then (0, false) else (cmpI (rk f) (rk g), true)
def nxF (f : Nat) (up : Bool) : Nat := if isNan f then 9221120237041090560 else if fsz f = 0 then (if up then 1 else 9223372036854775809) else if fneg f = up then f - 1 else if fsz f = 9218868437227405312 then f else f + 1
theorem isNone_nan' {w : World} (f : Nat) (hf : f < 18446744073709551616) : Calls Tryz.prog 37 #[.int .u64 f] w fun e w' => e = .returned (.bool (isNan f)) ∧ w' = w := isNone_any f hf
theorem rk_lo (f : Nat) : -9223372036854775808 < rk f ∧ rk f < 9223372036854775808 := by
  have := fsz_lt f
  unfold rk; split <;> omega
theorem ret_ib {k : IntKind} {a c : Int} {b d : Bool} (h : a = c) (g : b = d) : Ending.returned (.tuple #[.int k a, .bool b]) = .returned (.tuple #[.int k c, .bool d]) := by rw [h, g]

set_option maxHeartbeats 4000000 in
theorem rank_any {w : World} (f : Nat) (hf : f < 18446744073709551616) : Calls Tryz.prog 39 #[.int .u64 f] w fun e w' => e = .returned (.int .i64 (rk f)) ∧ w' = w := by
  have h1 := andNot_sign f hf
  have h2 := and_sign_ne f hf
  have h3 := fsz_lt f
  unfold rk
  generalize fsz f = z at *
  generalize fneg f = s at *
  have h4 : IntKind.i64.wrap (z : Int) = z := by simp [IntKind.wrap, IntKind.bits, IntKind.signed]; omega
  cases s
  · go_enter Tryz.func39, Tryz.ntmps39
    go_wp2
    go_ret
    exact ⟨ret_int (by simp), rfl⟩
  · go_enter Tryz.func39, Tryz.ntmps39
    go_wp2
    go_ret
    exact ⟨ret_int (by simp), rfl⟩

set_option maxHeartbeats 4000000 in
theorem compare_any {w : World} (x y : Int) : Calls Tryz.prog 38 #[.int .i64 x, .int .i64 y] w fun e w' => e = .returned (.int .i64 (cmpI x y)) ∧ w' = w := by
  unfold cmpI
  by_cases c : x < y
  · have i1 : decide (x < y) = true := decide_eq_true c
    rw [if_pos c]
    go_enter Tryz.func38, Tryz.ntmps38
    go_wp2
    go_ret
    exact ⟨rfl, rfl⟩
  · have i1 : decide (x < y) = false := decide_eq_false c
    rw [if_neg c]
    by_cases d : y < x
    · have i2 : decide (y < x) = true := decide_eq_true d
      rw [if_pos d]
      go_enter Tryz.func38, Tryz.ntmps38
      go_wp2
      go_ret
      exact ⟨rfl, rfl⟩
    · have i2 : decide (y < x) = false := decide_eq_false d
      rw [if_neg d]
      go_enter Tryz.func38, Tryz.ntmps38
      go_wp2
      go_ret
      exact ⟨rfl, rfl⟩

set_option maxHeartbeats 4000000 in
theorem cmpF_any {w : World} (f g : Nat) (hf : f < 18446744073709551616) (hg : g < 18446744073709551616) : Calls Tryz.prog 25 #[.int .u64 f, .int .u64 g] w fun e w' => e = .returned (.tuple #[.int .i64 (cmpF f g).1, .bool (cmpF f g).2]) ∧ w' = w := by
  have n1 := fun w => isNone_nan' (w := w) f hf
  have n2 := fun w => isNone_nan' (w := w) g hg
  have r1 := fun w => rank_any (w := w) f hf
  have r2 := fun w => rank_any (w := w) g hg
  have cc := fun w => compare_any (w := w) (rk f) (rk g)
  unfold cmpF
  generalize rk f = x at *
  generalize rk g = y at *
  generalize cmpI x y = o at *
  generalize isNan f = a at *
  generalize isNan g = b at *
  cases a
  · cases b
    · go_enter Tryz.func25, Tryz.ntmps25
      go_wp2_with fail
      refine (n1 _).mono ?_
      rintro e wq ⟨rfl, rfl⟩
      go_wp2_with fail
      refine (n2 _).mono ?_
      rintro e wq ⟨rfl, rfl⟩
      go_wp2_with fail
      refine (r1 _).mono ?_
      rintro e wq ⟨rfl, rfl⟩
      go_wp2_with fail
      refine (r2 _).mono ?_
      rintro e wq ⟨rfl, rfl⟩
      go_wp2_with fail
      refine (cc _).mono ?_
      rintro e wq ⟨rfl, rfl⟩
      go_wp2
      go_ret2
      exact ⟨ret_ib rfl rfl, rfl⟩
    · go_enter Tryz.func25, Tryz.ntmps25
      go_wp2_with fail
      refine (n1 _).mono ?_
      rintro e wq ⟨rfl, rfl⟩
      go_wp2_with fail
      refine (n2 _).mono ?_
      rintro e wq ⟨rfl, rfl⟩
      go_wp2
      go_ret2
      exact ⟨ret_ib rfl rfl, rfl⟩
  · go_enter Tryz.func25, Tryz.ntmps25
    go_wp2_with fail
    refine (n1 _).mono ?_
    rintro e wq ⟨rfl, rfl⟩
    go_wp2
    go_ret2
    exact ⟨ret_ib rfl rfl, rfl⟩

theorem nx_one {z f : Nat} (h0 : z ≠ 0) (hz : z = f % 9223372036854775808) (hf : f < 18446744073709551616) : IntKind.u64.wrap ((f : Int) - 1) = ((f - 1 : Nat) : Int) := by
  rw [IntKind.wrap_u64]; omega
theorem nx_more {f : Nat} (hf : f + 1 < 18446744073709551616) : IntKind.u64.wrap ((f : Int) + 1) = ((f + 1 : Nat) : Int) := by
  rw [IntKind.wrap_u64]; omega

end Go.Proofs.YtfegepkhfckamaaGreatDoor
