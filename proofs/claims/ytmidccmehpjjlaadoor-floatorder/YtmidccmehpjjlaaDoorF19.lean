/- The second telling's kinds of floats, Cmp, Next. -/
import Derived.Test.YtmidccmehpjjlaaDoorF18
namespace Go.Proofs.YtmidccmehpjjlaaDoor
open Go.RowKit
set_option linter.unusedVariables false
set_option linter.unusedSimpArgs false

theorem none3_any {w : World} (f : Nat) (hf : f < 18446744073709551616) : Calls Tryd.prog 41 #[.int .u64 f] w fun e w' => e = .returned (.bool (isNan f)) ∧ w' = w := by
  have h1 := andNot_sign f hf
  go_enter Tryd.func41, Tryd.ntmps41
  go_wp2
  go_ret
  exact ⟨ret_bool (by unfold isNan; rw [Bool.eq_iff_iff]; simp; omega), rfl⟩

theorem endless3_any {w : World} (f : Nat) (hf : f < 18446744073709551616) : Calls Tryd.prog 42 #[.int .u64 f] w fun e w' => e = .returned (.bool (decide (fsz f = 9218868437227405312))) ∧ w' = w := by
  have h1 := andNot_sign f hf
  go_enter Tryd.func42, Tryd.ntmps42
  go_wp2
  go_ret
  exact ⟨ret_bool (by rw [Bool.eq_iff_iff]; simp; omega), rfl⟩

theorem nought3_any {w : World} (f : Nat) (hf : f < 18446744073709551616) : Calls Tryd.prog 43 #[.int .u64 f] w fun e w' => e = .returned (.bool (decide (fsz f = 0))) ∧ w' = w := by
  have h1 := andNot_sign f hf
  go_enter Tryd.func43, Tryd.ntmps43
  go_wp2
  go_ret
  exact ⟨ret_bool (by rw [Bool.eq_iff_iff]; simp), rfl⟩

theorem minus3_any {w : World} (f : Nat) (hf : f < 18446744073709551616) : Calls Tryd.prog 48 #[.int .u64 f] w fun e w' => e = .returned (.bool (fneg f)) ∧ w' = w := by
  have h1 := and_sign_ne f hf
  go_enter Tryd.func48, Tryd.ntmps48
  go_wp2
  go_ret
  exact ⟨ret_bool (by first | exact h1 | simp), rfl⟩

theorem signed3_any {w : World} (s : Bool) (z : Nat) (hz : z < 9223372036854775808) : Calls Tryd.prog 44 #[.bool s, .int .u64 z] w fun e w' => e = .returned (.int .u64 ((sgn s + z : Nat) : Int)) ∧ w' = w := by
  have h1 := bits_or_u64_nat z 9223372036854775808 (by omega) (by decide)
  have h2 := or_add 1 z 63 hz
  rw [show (1 * 2 ^ 63 : Nat) = 9223372036854775808 from rfl, Nat.or_comm] at h2
  rw [h2] at h1
  unfold sgn
  cases s
  · go_enter Tryd.func44, Tryd.ntmps44
    go_wp2
    go_ret
    exact ⟨ret_int (by simp), rfl⟩
  · go_enter Tryd.func44, Tryd.ntmps44
    go_wp2
    go_ret
    exact ⟨ret_int (by first | exact h1 | simp), rfl⟩

set_option maxHeartbeats 4000000 in
theorem place3_any {w : World} (f : Nat) (hf : f < 18446744073709551616) : Calls Tryd.prog 65 #[.int .u64 f] w fun e w' => e = .returned (.int .i64 (rk f)) ∧ w' = w := by
  have h1 := andNot_sign f hf
  have h3 := fsz_lt f
  have mi := fun w => minus3_any (w := w) f hf
  unfold rk
  by_cases c : fneg f = true
  · simp only [c] at mi
    rw [if_pos c]
    generalize fsz f = z at *
    have h4 : IntKind.i64.wrap (z : Int) = z := by simp [IntKind.wrap, IntKind.bits, IntKind.signed]; omega
    clear c
    go_enter Tryd.func65, Tryd.ntmps65
    go_wp2_with fail
    refine (mi _).mono ?_
    rintro e wq ⟨rfl, rfl⟩
    go_wp2
    go_ret
    exact ⟨ret_int (by omega), rfl⟩
  · have c' : fneg f = false := by simpa using c
    have hlt : f < 9223372036854775808 := by
      have : ¬ 9223372036854775808 ≤ f := fun h => c (decide_eq_true h)
      omega
    have e : fsz f = f := Nat.mod_eq_of_lt hlt
    simp only [c'] at mi
    rw [if_neg c, e]
    have h4 : IntKind.i64.wrap (f : Int) = f := by simp [IntKind.wrap, IntKind.bits, IntKind.signed]; omega
    clear c c' e h1 h3
    go_enter Tryd.func65, Tryd.ntmps65
    go_wp2_with fail
    refine (mi _).mono ?_
    rintro e wq ⟨rfl, rfl⟩
    go_wp2
    go_ret
    exact ⟨ret_int (by first | rfl | omega), rfl⟩

set_option maxHeartbeats 4000000 in
theorem cmp3_any {w : World} (f g : Nat) (hf : f < 18446744073709551616) (hg : g < 18446744073709551616) : Calls Tryd.prog 24 #[.int .u64 f, .int .u64 g] w fun e w' => e = .returned (.tuple #[.int .i64 (cmpF f g).1, .bool (cmpF f g).2]) ∧ w' = w := by
  have n1 := fun w => none3_any (w := w) f hf
  have n2 := fun w => none3_any (w := w) g hg
  have r1 := fun w => place3_any (w := w) f hf
  have r2 := fun w => place3_any (w := w) g hg
  unfold cmpF
  generalize rk f = x at *
  generalize rk g = y at *
  generalize isNan f = a at *
  generalize isNan g = b at *
  cases a
  · cases b
    · unfold cmpI
      by_cases c : x < y
      · have i1 : decide (x < y) = true := decide_eq_true c
        rw [if_pos c]
        go_enter Tryd.func24, Tryd.ntmps24
        go_wp2_with fail
        refine (n1 _).mono ?_
        rintro e wq ⟨rfl, rfl⟩
        go_wp2_with fail
        refine (n2 _).mono ?_
        rintro e wq ⟨rfl, rfl⟩
        go_wp2_with fail
        refine (r1 _).mono ?_
        rintro e wq ⟨rfl, rfl⟩
        go_wp2_with fail
        refine (r2 _).mono ?_
        rintro e wq ⟨rfl, rfl⟩
        go_wp2
        go_ret2
        exact ⟨ret_ib rfl rfl, rfl⟩
      · have i1 : decide (x < y) = false := decide_eq_false c
        rw [if_neg c]
        by_cases d : y < x
        · have i2 : decide (y < x) = true := decide_eq_true d
          rw [if_pos d]
          go_enter Tryd.func24, Tryd.ntmps24
          go_wp2_with fail
          refine (n1 _).mono ?_
          rintro e wq ⟨rfl, rfl⟩
          go_wp2_with fail
          refine (n2 _).mono ?_
          rintro e wq ⟨rfl, rfl⟩
          go_wp2_with fail
          refine (r1 _).mono ?_
          rintro e wq ⟨rfl, rfl⟩
          go_wp2_with fail
          refine (r2 _).mono ?_
          rintro e wq ⟨rfl, rfl⟩
          go_wp2
          go_ret2
          exact ⟨ret_ib rfl rfl, rfl⟩
        · have i2 : decide (y < x) = false := decide_eq_false d
          rw [if_neg d]
          go_enter Tryd.func24, Tryd.ntmps24
          go_wp2_with fail
          refine (n1 _).mono ?_
          rintro e wq ⟨rfl, rfl⟩
          go_wp2_with fail
          refine (n2 _).mono ?_
          rintro e wq ⟨rfl, rfl⟩
          go_wp2_with fail
          refine (r1 _).mono ?_
          rintro e wq ⟨rfl, rfl⟩
          go_wp2_with fail
          refine (r2 _).mono ?_
          rintro e wq ⟨rfl, rfl⟩
          go_wp2
          go_ret2
          exact ⟨ret_ib rfl rfl, rfl⟩
    · go_enter Tryd.func24, Tryd.ntmps24
      go_wp2_with fail
      refine (n1 _).mono ?_
      rintro e wq ⟨rfl, rfl⟩
      go_wp2_with fail
      refine (n2 _).mono ?_
      rintro e wq ⟨rfl, rfl⟩
      go_wp2
      go_ret2
      exact ⟨ret_ib rfl rfl, rfl⟩
  · go_enter Tryd.func24, Tryd.ntmps24
    go_wp2_with fail
    refine (n1 _).mono ?_
    rintro e wq ⟨rfl, rfl⟩
    go_wp2
    go_ret2
    exact ⟨ret_ib rfl rfl, rfl⟩
end Go.Proofs.YtmidccmehpjjlaaDoor
