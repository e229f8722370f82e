/- The second telling's kinds of floats, Cmp, Next. -/
/- The second telling's Next. -/
/- Floats, mathematics: a float's number is rounded to it again. -/
/- The second telling of floats: parts, shift, Rat. -/
import Derived.Test.YtcfhajnboamnnabGreatDoorYXF26
import Derived.Test.YtcfhajnboamnnabGreatDoorYXFM
import Derived.Test.YtcfhajnboamnnabGreatDoorYXP1
import Derived.Test.YtcfhajnboamnnabGreatDoorKD
namespace Go.Proofs.YtcfhajnboamnnabGreatDoor
open Go.RowKit
set_option linter.unusedVariables false
set_option linter.unusedSimpArgs false

theorem none3_any {w : World} (f : Nat) (hf : f < 18446744073709551616) : Calls Tryz.prog 67 #[.int .u64 f] w fun e w' => e = .returned (.bool (isNan f)) ∧ w' = w := by
  have h1 := andNot_sign f hf
  go_enter Tryz.func67, Tryz.ntmps67
  go_wp2
  go_ret
  exact ⟨ret_bool (by unfold isNan; rw [Bool.eq_iff_iff]; simp; omega), rfl⟩

theorem endless3_any {w : World} (f : Nat) (hf : f < 18446744073709551616) : Calls Tryz.prog 70 #[.int .u64 f] w fun e w' => e = .returned (.bool (decide (fsz f = 9218868437227405312))) ∧ w' = w := by
  have h1 := andNot_sign f hf
  go_enter Tryz.func70, Tryz.ntmps70
  go_wp2
  go_ret
  exact ⟨ret_bool (by rw [Bool.eq_iff_iff]; simp; omega), rfl⟩

theorem nought3_any {w : World} (f : Nat) (hf : f < 18446744073709551616) : Calls Tryz.prog 68 #[.int .u64 f] w fun e w' => e = .returned (.bool (decide (fsz f = 0))) ∧ w' = w := by
  have h1 := andNot_sign f hf
  go_enter Tryz.func68, Tryz.ntmps68
  go_wp2
  go_ret
  exact ⟨ret_bool (by rw [Bool.eq_iff_iff]; simp), rfl⟩

theorem minus3_any {w : World} (f : Nat) (hf : f < 18446744073709551616) : Calls Tryz.prog 71 #[.int .u64 f] w fun e w' => e = .returned (.bool (fneg f)) ∧ w' = w := by
  have h1 := and_sign_ne f hf
  go_enter Tryz.func71, Tryz.ntmps71
  go_wp2
  go_ret
  exact ⟨ret_bool (by first | exact h1 | simp), rfl⟩

theorem signed3_any {w : World} (s : Bool) (z : Nat) (hz : z < 9223372036854775808) : Calls Tryz.prog 69 #[.bool s, .int .u64 z] w fun e w' => e = .returned (.int .u64 ((sgn s + z : Nat) : Int)) ∧ w' = w := by
  have h1 := bits_or_u64_nat z 9223372036854775808 (by omega) (by decide)
  have h2 := or_add 1 z 63 hz
  rw [show (1 * 2 ^ 63 : Nat) = 9223372036854775808 from rfl, Nat.or_comm] at h2
  rw [h2] at h1
  unfold sgn
  cases s
  · go_enter Tryz.func69, Tryz.ntmps69
    go_wp2
    go_ret
    exact ⟨ret_int (by simp), rfl⟩
  · go_enter Tryz.func69, Tryz.ntmps69
    go_wp2
    go_ret
    exact ⟨ret_int (by first | exact h1 | simp), rfl⟩

set_option maxHeartbeats 4000000 in
theorem place3_any {w : World} (f : Nat) (hf : f < 18446744073709551616) : Calls Tryz.prog 75 #[.int .u64 f] w fun e w' => e = .returned (.int .i64 (rk f)) ∧ w' = w := by
  have h1 := andNot_sign f hf
  have h3 := fsz_lt f
  have mi := fun w => minus3_any (w := w) f hf
  unfold rk
  by_cases c : fneg f = true
  · simp only [c] at mi
    rw [if_pos c]
    generalize fsz f = z at *
    have h4 : IntKind.i64.wrap (z : Int) = z := by simp [IntKind.wrap, IntKind.bits, IntKind.signed]; omega
    clear c
    go_enter Tryz.func75, Tryz.ntmps75
    go_wp2_with fail
    refine (mi _).mono ?_
    rintro e wq ⟨rfl, rfl⟩
    go_wp2
    go_ret
    exact ⟨ret_int (by omega), rfl⟩
  · have c' : fneg f = false := by simpa using c
    have hlt : f < 9223372036854775808 := by
      have : ¬ 9223372036854775808 ≤ f := fun h => c (decide_eq_true h)
      omega
    have e : fsz f = f := Nat.mod_eq_of_lt hlt
    simp only [c'] at mi
    rw [if_neg c, e]
    have h4 : IntKind.i64.wrap (f : Int) = f := by simp [IntKind.wrap, IntKind.bits, IntKind.signed]; omega
    clear c c' e h1 h3
    go_enter Tryz.func75, Tryz.ntmps75
    go_wp2_with fail
    refine (mi _).mono ?_
    rintro e wq ⟨rfl, rfl⟩
    go_wp2
    go_ret
    exact ⟨ret_int (by first | rfl | omega), rfl⟩

set_option maxHeartbeats 4000000 in
theorem cmp3_any {w : World} (f g : Nat) (hf : f < 18446744073709551616) (hg : g < 18446744073709551616) : Calls Tryz.prog 37 #[.int .u64 f, .int .u64 g] w fun e w' => e = .returned (.tuple #[.int .i64 (cmpF f g).1, .bool (cmpF f g).2]) ∧ w' = w := by
  have n1 := fun w => none3_any (w := w) f hf
  have n2 := fun w => none3_any (w := w) g hg
  have r1 := fun w => place3_any (w := w) f hf
  have r2 := fun w => place3_any (w := w) g hg
  unfold cmpF
  generalize rk f = x at *
  generalize rk g = y at *
  generalize isNan f = a at *
  generalize isNan g = b at *
  cases a
  · cases b
    · unfold cmpI
      by_cases c : x < y
      · have i1 : decide (x < y) = true := decide_eq_true c
        rw [if_pos c]
        go_enter Tryz.func37, Tryz.ntmps37
        go_wp2_with fail
        refine (n1 _).mono ?_
        rintro e wq ⟨rfl, rfl⟩
        go_wp2_with fail
        refine (n2 _).mono ?_
        rintro e wq ⟨rfl, rfl⟩
        go_wp2_with fail
        refine (r1 _).mono ?_
        rintro e wq ⟨rfl, rfl⟩
        go_wp2_with fail
        refine (r2 _).mono ?_
        rintro e wq ⟨rfl, rfl⟩
        go_wp2
        go_ret2
        exact ⟨ret_ib rfl rfl, rfl⟩
      · have i1 : decide (x < y) = false := decide_eq_false c
        rw [if_neg c]
        by_cases d : y < x
        · have i2 : decide (y < x) = true := decide_eq_true d
          rw [if_pos d]
          go_enter Tryz.func37, Tryz.ntmps37
          go_wp2_with fail
          refine (n1 _).mono ?_
          rintro e wq ⟨rfl, rfl⟩
          go_wp2_with fail
          refine (n2 _).mono ?_
          rintro e wq ⟨rfl, rfl⟩
          go_wp2_with fail
          refine (r1 _).mono ?_
          rintro e wq ⟨rfl, rfl⟩
          go_wp2_with fail
          refine (r2 _).mono ?_
          rintro e wq ⟨rfl, rfl⟩
          go_wp2
          go_ret2
          exact ⟨ret_ib rfl rfl, rfl⟩
        · have i2 : decide (y < x) = false := decide_eq_false d
          rw [if_neg d]
          go_enter Tryz.func37, Tryz.ntmps37
          go_wp2_with fail
          refine (n1 _).mono ?_
          rintro e wq ⟨rfl, rfl⟩
          go_wp2_with fail
          refine (n2 _).mono ?_
          rintro e wq ⟨rfl, rfl⟩
          go_wp2_with fail
          refine (r1 _).mono ?_
          rintro e wq ⟨rfl, rfl⟩
          go_wp2_with fail
          refine (r2 _).mono ?_
          rintro e wq ⟨rfl, rfl⟩
          go_wp2
          go_ret2
          exact ⟨ret_ib rfl rfl, rfl⟩
    · go_enter Tryz.func37, Tryz.ntmps37
      go_wp2_with fail
      refine (n1 _).mono ?_
      rintro e wq ⟨rfl, rfl⟩
      go_wp2_with fail
      refine (n2 _).mono ?_
      rintro e wq ⟨rfl, rfl⟩
      go_wp2
      go_ret2
      exact ⟨ret_ib rfl rfl, rfl⟩
  · go_enter Tryz.func37, Tryz.ntmps37
    go_wp2_with fail
    refine (n1 _).mono ?_
    rintro e wq ⟨rfl, rfl⟩
    go_wp2
    go_ret2
    exact ⟨ret_ib rfl rfl, rfl⟩
end Go.Proofs.YtcfhajnboamnnabGreatDoor

namespace Go.Proofs.YtcfhajnboamnnabGreatDoor
open Go.RowKit
set_option linter.unusedVariables false
set_option linter.unusedSimpArgs false

set_option maxHeartbeats 4000000 in
theorem next3_any {w : World} (f : Nat) (up : Bool) (hf : f < 18446744073709551616) : Calls Tryz.prog 35 #[.int .u64 f, .bool up] w fun e w' => e = .returned (.int .u64 (nxF f up : Nat)) ∧ w' = w := by
  have hz : fsz f = f % 9223372036854775808 := rfl
  have n1 := fun w => none3_any (w := w) f hf
  have n2 := fun w => nought3_any (w := w) f hf
  have n3 := fun w => endless3_any (w := w) f hf
  have n4 := fun w => minus3_any (w := w) f hf
  have n5 := fun w => signed3_any (w := w) (!up) 1 (by omega)
  unfold nxF
  by_cases c : isNan f = true
  · rw [if_pos c]
    simp only [c] at n1
    clear c hz n2 n3 n4 n5
    go_enter Tryz.func35, Tryz.ntmps35
    go_wp2_with fail
    refine (n1 _).mono ?_
    rintro e wq ⟨rfl, rfl⟩
    go_wp2
    go_ret
    exact ⟨rfl, rfl⟩
  · rw [if_neg c]
    have c' : isNan f = false := by simpa using c
    have hle : fsz f ≤ 9218868437227405312 := by
      have : ¬ 9218868437227405312 < fsz f := fun h => c (decide_eq_true h)
      omega
    simp only [c'] at n1
    clear c c'
    by_cases d : fsz f = 0
    · rw [if_pos d]
      simp only [decide_eq_true d] at n2
      clear d hz hle n3 n4
      cases up
      · simp only [sgn, Bool.not_false, if_true] at n5
        go_enter Tryz.func35, Tryz.ntmps35
        go_wp2_with fail
        refine (n1 _).mono ?_
        rintro e wq ⟨rfl, rfl⟩
        go_wp2_with fail
        refine (n2 _).mono ?_
        rintro e wq ⟨rfl, rfl⟩
        go_wp2_with fail
        refine (n5 _).mono ?_
        rintro e wq ⟨rfl, rfl⟩
        go_wp2
        go_ret
        exact ⟨ret_int (by first | rfl | simp), rfl⟩
      · simp only [sgn, Bool.not_true, Bool.false_eq_true, if_false] at n5
        go_enter Tryz.func35, Tryz.ntmps35
        go_wp2_with fail
        refine (n1 _).mono ?_
        rintro e wq ⟨rfl, rfl⟩
        go_wp2_with fail
        refine (n2 _).mono ?_
        rintro e wq ⟨rfl, rfl⟩
        go_wp2_with fail
        refine (n5 _).mono ?_
        rintro e wq ⟨rfl, rfl⟩
        go_wp2
        go_ret
        exact ⟨ret_int (by first | rfl | simp), rfl⟩
    · rw [if_neg d]
      simp only [decide_eq_false d] at n2
      have hw1 := nx_one d hz hf
      by_cases s : fneg f = up
      · rw [if_pos s]
        have i2 : (fneg f == up) = true := by simp [s]
        clear s n5
        by_cases t : fsz f = 9218868437227405312
        · simp only [decide_eq_true t] at n3
          clear d hz hle t
          generalize fneg f = s at *
          generalize f - 1 = f' at *
          go_enter Tryz.func35, Tryz.ntmps35
          go_wp2_with fail
          refine (n1 _).mono ?_
          rintro e wq ⟨rfl, rfl⟩
          go_wp2_with fail
          refine (n2 _).mono ?_
          rintro e wq ⟨rfl, rfl⟩
          go_wp2_with fail
          refine (n3 _).mono ?_
          rintro e wq ⟨rfl, rfl⟩
          go_wp2_with fail
          refine (n4 _).mono ?_
          rintro e wq ⟨rfl, rfl⟩
          go_wp2_with fail
          refine (n4 _).mono ?_
          rintro e wq ⟨rfl, rfl⟩
          go_wp2
          go_ret
          exact ⟨ret_int (by first | rfl | omega), rfl⟩
        · simp only [decide_eq_false t] at n3
          clear d hz hle t
          generalize fneg f = s at *
          generalize f - 1 = f' at *
          go_enter Tryz.func35, Tryz.ntmps35
          go_wp2_with fail
          refine (n1 _).mono ?_
          rintro e wq ⟨rfl, rfl⟩
          go_wp2_with fail
          refine (n2 _).mono ?_
          rintro e wq ⟨rfl, rfl⟩
          go_wp2_with fail
          refine (n3 _).mono ?_
          rintro e wq ⟨rfl, rfl⟩
          go_wp2_with fail
          refine (n4 _).mono ?_
          rintro e wq ⟨rfl, rfl⟩
          go_wp2
          go_ret
          exact ⟨ret_int (by first | rfl | omega), rfl⟩
      · rw [if_neg s]
        have i2 : (fneg f == up) = false := by simpa using s
        clear n5
        by_cases t : fsz f = 9218868437227405312
        · rw [if_pos t]
          simp only [decide_eq_true t] at n3
          clear s d hz hle t hw1
          generalize fneg f = s at *
          go_enter Tryz.func35, Tryz.ntmps35
          go_wp2_with fail
          refine (n1 _).mono ?_
          rintro e wq ⟨rfl, rfl⟩
          go_wp2_with fail
          refine (n2 _).mono ?_
          rintro e wq ⟨rfl, rfl⟩
          go_wp2_with fail
          refine (n3 _).mono ?_
          rintro e wq ⟨rfl, rfl⟩
          go_wp2_with fail
          refine (n4 _).mono ?_
          rintro e wq ⟨rfl, rfl⟩
          go_wp2
          go_ret
          exact ⟨rfl, rfl⟩
        · rw [if_neg t]
          simp only [decide_eq_false t] at n3
          have hw2 := nx_more (f := f) (by omega)
          clear s d hz hle t hw1
          generalize fneg f = s at *
          generalize hf1 : f + 1 = f1 at *
          clear hf1
          go_enter Tryz.func35, Tryz.ntmps35
          go_wp2_with fail
          refine (n1 _).mono ?_
          rintro e wq ⟨rfl, rfl⟩
          go_wp2_with fail
          refine (n2 _).mono ?_
          rintro e wq ⟨rfl, rfl⟩
          go_wp2_with fail
          refine (n3 _).mono ?_
          rintro e wq ⟨rfl, rfl⟩
          go_wp2_with fail
          refine (n4 _).mono ?_
          rintro e wq ⟨rfl, rfl⟩
          go_wp2
          go_ret
          exact ⟨ret_int (by first | rfl | omega), rfl⟩
theorem nxF_lt {f : Nat} (up : Bool) (hf : f < 18446744073709551616) : nxF f up < 18446744073709551616 := by
  have hz : fsz f = f % 9223372036854775808 := rfl
  unfold nxF
  split
  · decide
  · rename_i c
    have : ¬ 9218868437227405312 < fsz f := fun h => c (decide_eq_true h)
    split
    · split <;> decide
    · split
      · omega
      · split <;> omega
end Go.Proofs.YtcfhajnboamnnabGreatDoor

namespace Go.Proofs.YtcfhajnboamnnabGreatDoor
open Go.RowKit
set_option linter.unusedVariables false

theorem dvd_two_pow {g : Nat} (t : Nat) (h : g ∣ 2 ^ t) : ∃ i, i ≤ t ∧ g = 2 ^ i := by
  induction t generalizing g with
  | zero => exact ⟨0, Nat.le_refl _, Nat.eq_one_of_dvd_one h⟩
  | succ t ih =>
    by_cases c : g % 2 = 0
    · obtain ⟨k, hk⟩ : ∃ k, g = 2 * k := ⟨g / 2, by omega⟩
      rw [hk, Nat.pow_succ, Nat.mul_comm (2 ^ t) 2] at h
      obtain ⟨i, hi, e⟩ := ih (Nat.dvd_of_mul_dvd_mul_left (by omega) h)
      exact ⟨i + 1, by omega, by rw [hk, e, Nat.pow_succ]; omega⟩
    · have hc : Nat.Coprime g 2 := by
        have e : g % 2 = 1 := by omega
        unfold Nat.Coprime
        rw [Nat.gcd_comm, Nat.gcd_rec, e]; decide
      exact ⟨0, by omega, Nat.eq_one_of_dvd_one ((Nat.Coprime.pow_right (t + 1) hc).dvd_of_dvd_mul_left (by rw [Nat.mul_one]; exact h))⟩
theorem blen_two_pow (j : Nat) : blen (2 ^ j) = j + 1 := blen_eq (Nat.le_refl _) (Nat.pow_lt_pow_right (by omega) (by omega))
/-- A number as the program's ratio tells it, where its terms are a size times a power of two. -/
theorem ratV_pow (s : Bool) {N n j : Nat} {x : Int} (hn : n ≠ 0) (hb : blen n ≤ 53) (hN : (∃ i, n = N * 2 ^ i ∧ -x = ((i + j : Nat) : Int)) ∨ (j = 0 ∧ ∃ e : Nat, x = (e : Int) ∧ N = n * 2 ^ e)) :
    ratV s N (2 ^ j) = (s, false, n * 2 ^ (128 - blen n), x - ((128 - blen n : Nat) : Int)) := by
  have q : rtN N (2 ^ j) = n * 2 ^ (64 - blen n) * rtD N (2 ^ j) ∧ -(rtS N (2 ^ j)) - 64 = x - ((128 - blen n : Nat) : Int) := by
    rcases hN with ⟨i, h1, h2⟩ | ⟨h1, e, h2, h3⟩
    · have hN0 : N ≠ 0 := fun c => hn (by rw [h1, c, Nat.zero_mul])
      have bn : blen n = blen N + i := by rw [h1, blen_mul i hN0]
      have hS : rtS N (2 ^ j) = 64 - (blen N : Int) + j := by unfold rtS; rw [blen_two_pow]; omega
      have hp : (rtS N (2 ^ j)).toNat = 64 - blen n + i + j := by rw [hS]; omega
      have hm : (-(rtS N (2 ^ j))).toNat = 0 := by rw [hS]; omega
      refine ⟨?_, by rw [hS]; omega⟩
      unfold rtN rtD
      rw [hp, hm, Nat.pow_zero, Nat.mul_one, Nat.pow_add, Nat.pow_add]
      generalize 2 ^ (64 - blen n) = a
      rw [h1]
      generalize 2 ^ i = b
      generalize 2 ^ j = c
      rw [Nat.mul_comm a b, ← Nat.mul_assoc, ← Nat.mul_assoc]
    · subst h1
      have bN : blen N = blen n + e := by rw [h3, blen_mul e hn]
      have hS : rtS N (2 ^ 0) = 64 - (blen N : Int) := by unfold rtS; rw [blen_two_pow]; omega
      refine ⟨?_, by rw [hS]; omega⟩
      unfold rtN rtD
      by_cases c : 0 ≤ rtS N (2 ^ 0)
      · have hp : (rtS N (2 ^ 0)).toNat = 64 - blen n - e := by rw [hS]; omega
        have hm : (-(rtS N (2 ^ 0))).toNat = 0 := by omega
        rw [hp, hm, h3]
        have e1 : 64 - blen n = e + (64 - blen n - e) := by omega
        rw [Nat.pow_zero, Nat.mul_one, Nat.mul_assoc, ← Nat.pow_add]
        congr 2
        omega
      · have hp : (rtS N (2 ^ 0)).toNat = 0 := by omega
        have hm : (-(rtS N (2 ^ 0))).toNat = blen n + e - 64 := by rw [hS]; omega
        rw [hp, hm, h3, Nat.pow_zero, Nat.mul_one, Nat.one_mul, Nat.mul_assoc, ← Nat.pow_add]
        congr 2
        omega
  have hd := rtD_pos (N := N) (D := 2 ^ j) (by have := Nat.two_pow_pos j; omega)
  unfold ratV
  rw [q.2, q.1, Nat.mul_div_cancel _ hd, Nat.mul_mod_left]
  have e2 : n * 2 ^ (64 - blen n) * 18446744073709551616 = n * 2 ^ (128 - blen n) := by
    rw [show (18446744073709551616 : Nat) = 2 ^ 64 from rfl, Nat.mul_assoc, ← Nat.pow_add]; congr 2; omega
  rw [e2]
  simp [stk]
/-- A finite float's number, above and below. -/
def ratA (f : Nat) : Nat := vsz f * 2 ^ (vex f).toNat
def ratB (f : Nat) : Nat := 1 * 2 ^ (-(vex f)).toNat
theorem ratB_pos (f : Nat) : ratB f ≠ 0 := by unfold ratB; have := Nat.two_pow_pos (-(vex f)).toNat; omega
/-- A float's own number, in lowest terms, is rounded to it. -/
theorem back_own {f : Nat} (hf : f < 18446744073709551616) (h0 : fsz f ≠ 0) (h1 : fsz f < 9218868437227405312) (m : Int) :
    rdV m (ratV (fneg f) (ratA f / Nat.gcd (ratA f) (ratB f)) (ratB f / Nat.gcd (ratA f) (ratB f))) = (f, 0) := by
  have hn := vsz_ne h0
  have hb : blen (vsz f) ≤ 53 := blen_vsz f
  obtain ⟨o1, o2⟩ := own_rnd hf h0 h1 m
  have key : ∃ N j, ratA f / Nat.gcd (ratA f) (ratB f) = N ∧ ratB f / Nat.gcd (ratA f) (ratB f) = 2 ^ j ∧ ((∃ i, vsz f = N * 2 ^ i ∧ -(vex f) = ((i + j : Nat) : Int)) ∨ (j = 0 ∧ ∃ e : Nat, vex f = (e : Int) ∧ N = vsz f * 2 ^ e)) := by
    by_cases c : 0 ≤ vex f
    · have e1 : ratB f = 1 := by unfold ratB; rw [show (-(vex f)).toNat = 0 by omega]
      rw [e1, Nat.gcd_one_right, Nat.div_one, Nat.div_one]
      exact ⟨_, 0, rfl, rfl, Or.inr ⟨rfl, (vex f).toNat, by omega, rfl⟩⟩
    · have e1 : ratB f = 2 ^ (-(vex f)).toNat := by unfold ratB; rw [Nat.one_mul]
      have e2 : ratA f = vsz f := by unfold ratA; rw [show (vex f).toNat = 0 by omega, Nat.pow_zero, Nat.mul_one]
      obtain ⟨i, hi, hg⟩ := dvd_two_pow (g := Nat.gcd (ratA f) (ratB f)) (-(vex f)).toNat (by rw [← e1]; exact Nat.gcd_dvd_right _ _)
      have hd : 2 ^ i ∣ vsz f := by rw [← hg, ← e2]; exact Nat.gcd_dvd_left _ _
      rw [hg, e1, e2]
      refine ⟨_, (-(vex f)).toNat - i, rfl, ?_, Or.inl ⟨i, (Nat.div_mul_cancel hd).symm, by omega⟩⟩
      rw [Nat.pow_div hi (by omega)]
  obtain ⟨N, j, k1, k2, k3⟩ := key
  rw [k1, k2, ratV_pow (fneg f) hn hb k3, rdV_mul m (fneg f) (vex f) (by omega)]
  unfold rdV
  rw [if_neg (fun h => by cases h), if_neg hn, o1, o2]
theorem back_nought (m : Int) : rdV m (ratV false 0 1) = (0, 0) := by
  have e : ratV false 0 1 = (false, false, 0, -(rtS 0 1) - 64) := by
    unfold ratV
    rw [rtS_zero]
    simp [stk]
  rw [e]
  unfold rdV
  rw [if_neg (fun h => by cases h), if_pos rfl]
  rfl
end Go.Proofs.YtcfhajnboamnnabGreatDoor

namespace Go.Proofs.YtcfhajnboamnnabGreatDoor
open Go.RowKit
set_option linter.unusedVariables false
set_option linter.unusedSimpArgs false

theorem nl_two' {n : Nat} (h : n < 9007199254740992) : nl n ≤ 2 := by
  rw [nl_le_iff]
  exact Nat.lt_trans h (by decide)

set_option maxHeartbeats 4000000 in
set_option maxRecDepth 20000 in
theorem parts3_any {w : World} (f : Nat) (hf : f < 18446744073709551616) : Calls Tryz.prog 72 #[.int .u64 f] w fun e w' => e = .returned (.tuple #[.int .u64 (vsz f : Nat), .int .i64 (vex f)]) ∧ w' = w := by
  have h1 := andNot_sign f hf
  have h2 := and_frac f hf
  have hl := fsz_lt f
  have hm : f % 4503599627370496 < 4503599627370496 := Nat.mod_lt _ (by omega)
  have h3 := or_lead (f % 4503599627370496) hm
  unfold vsz vex
  have h4 : (fsz f : Int) / 4503599627370496 = ((fsz f / 4503599627370496 : Nat) : Int) := by omega
  have h5 : fsz f / 4503599627370496 < 2048 := by omega
  generalize f % 4503599627370496 = m at *
  generalize fsz f / 4503599627370496 = e at *
  have h6 : IntKind.i64.wrap (e : Int) = (e : Int) := by simp [IntKind.wrap, IntKind.bits, IntKind.signed]; omega
  generalize fsz f = z at *
  by_cases c : e = 0
  · subst c
    go_enter Tryz.func72, Tryz.ntmps72
    go_wp2
    go_ret2
    exact ⟨ret_pair rfl rfl, rfl⟩
  · rw [if_neg c, if_neg c]
    have i1 : ((e : Int) == 0) = false := by
      have : (e : Int) ≠ 0 := by omega
      simpa using this
    have w1 : IntKind.i64.wrap ((e : Int) - 1023) = (e : Int) - 1023 := by simp [IntKind.wrap, IntKind.bits, IntKind.signed]; omega
    have w2 : IntKind.i64.wrap ((e : Int) - 1023 - 52) = (e : Int) - 1023 - 52 := by simp [IntKind.wrap, IntKind.bits, IntKind.signed]; omega
    generalize m + 4503599627370496 = m' at *
    clear c
    go_enter Tryz.func72, Tryz.ntmps72
    go_wp2
    go_ret2
    exact ⟨ret_pair rfl (by omega), rfl⟩

set_option maxHeartbeats 4000000 in
set_option maxRecDepth 20000 in
theorem shift3_zero {w : World} (n d : Value) : Calls Tryz.prog 73 #[n, d, .int .i64 0] w fun e w' => e = .returned (.tuple #[n, d]) ∧ w' = w := by
  go_enter Tryz.func73, Tryz.ntmps73
  go_wp2_with fail
  refine wp_loop_rounds 1 ?_
  rw [rounds_succ]
  go_wp2_with fail
  refine wp_loop_rounds 1 ?_
  rw [rounds_succ]
  go_wp2
  go_ret2
  exact ⟨rfl, rfl⟩

set_option maxHeartbeats 4000000 in
set_option maxRecDepth 20000 in
theorem shift3_up {w : World} {n : Value} {N : Nat} (d : Value) (k : Nat) (hk : 0 < k) (hk2 : k ≤ 9000) (hn : Num w n N) (bn : nl N ≤ 100000) : Calls Tryz.prog 73 #[n, d, .int .i64 k] w fun e w' => ∃ v, e = .returned (.tuple #[v, d]) ∧ Num w' v (N * 2 ^ k) ∧ Fwd w w' := by
  have c := refShl_any k hn (by omega) (by omega)
  have m1 : (0 : Int) < (k : Int) := by omega
  have m2 : (k : Int) ≤ 9000 := by omega
  have m3 : ¬ (9000 : Int) < (k : Int) := by omega
  have m4 : IntKind.i64.wrap 0 = 0 := rfl
  obtain ⟨no, nc, rfl, n1, n2, -⟩ := hn.parts
  clear hn
  go_enter Tryz.func73, Tryz.ntmps73
  go_wp2_with fail
  refine wp_loop_rounds 2 ?_
  rw [rounds_succ]
  go_wp2_with fail
  refine c.mono ?_
  rintro e w1 ⟨v, rfl, hv, hf⟩
  clear c
  go_wp2_with fail
  rw [rounds_succ]
  go_wp2_with fail
  refine wp_loop_rounds 1 ?_
  rw [rounds_succ]
  go_wp2
  go_ret2
  exact ⟨v, rfl, hv, hf⟩

set_option maxHeartbeats 4000000 in
set_option maxRecDepth 20000 in
theorem shift3_down {w : World} {d : Value} {D : Nat} (n : Value) (k : Nat) (hk : 0 < k) (hk2 : k ≤ 9000) (hn : Num w d D) (bn : nl D ≤ 100000) : Calls Tryz.prog 73 #[n, d, .int .i64 (-(k : Int))] w fun e w' => ∃ v, e = .returned (.tuple #[n, v]) ∧ Num w' v (D * 2 ^ k) ∧ Fwd w w' := by
  have c := refShl_any k hn (by omega) (by omega)
  have m1 : (0 : Int) < (k : Int) := by omega
  have m2 : (k : Int) ≤ 9000 := by omega
  have m3 : ¬ (9000 : Int) < (k : Int) := by omega
  have m4 : IntKind.i64.wrap 0 = 0 := rfl
  have m5 : ¬ (0 : Int) < -(k : Int) := by omega
  have m6 : -(k : Int) < 0 := by omega
  have m7 : IntKind.i64.wrap (k : Int) = (k : Int) := by simp [IntKind.wrap, IntKind.bits, IntKind.signed]; omega
  have m8 : -(k : Int) + (k : Int) = 0 := by omega
  obtain ⟨no, nc, rfl, n1, n2, -⟩ := hn.parts
  clear hn
  go_enter Tryz.func73, Tryz.ntmps73
  go_wp2_with fail
  refine wp_loop_rounds 1 ?_
  rw [rounds_succ]
  go_wp2_with fail
  refine wp_loop_rounds 2 ?_
  rw [rounds_succ]
  go_wp2_with fail
  refine c.mono ?_
  rintro e w1 ⟨v, rfl, hv, hf⟩
  clear c
  go_wp2_with fail
  rw [rounds_succ]
  go_wp2
  go_ret2
  exact ⟨v, rfl, hv, hf⟩

theorem shift3_any {w : World} {n d : Value} {N D : Nat} (k : Int) (hk1 : -9000 ≤ k) (hk2 : k ≤ 9000) (hn : Num w n N) (hd : Num w d D) (bn : nl N ≤ 100000) (bd : nl D ≤ 100000) :
    Calls Tryz.prog 73 #[n, d, .int .i64 k] w fun e w' => ∃ a b, e = .returned (.tuple #[a, b]) ∧ Num w' a (N * 2 ^ k.toNat) ∧ Num w' b (D * 2 ^ (-k).toNat) ∧ Fwd w w' := by
  by_cases c : k = 0
  · subst c
    refine (shift3_zero n d).mono fun e w' h => ?_
    obtain ⟨rfl, rfl⟩ := h
    exact ⟨n, d, rfl, by simpa using hn, by simpa using hd, Fwd.refl _⟩
  · by_cases p : 0 < k
    · have e1 : ((k.toNat : Nat) : Int) = k := by omega
      have := shift3_up (w := w) d k.toNat (by omega) (by omega) hn bn
      rw [e1] at this
      refine this.mono fun e w' h => ?_
      obtain ⟨v, rfl, hv, hf⟩ := h
      exact ⟨v, d, rfl, hv, by rw [show (-k).toNat = 0 by omega, Nat.pow_zero, Nat.mul_one]; exact hd.fwd hf, hf⟩
    · have e1 : -(((-k).toNat : Nat) : Int) = k := by omega
      have := shift3_down (w := w) n (-k).toNat (by omega) (by omega) hd bd
      rw [e1] at this
      refine this.mono fun e w' h => ?_
      obtain ⟨v, rfl, hv, hf⟩ := h
      exact ⟨n, v, rfl, by rw [show k.toNat = 0 by omega, Nat.pow_zero, Nat.mul_one]; exact hn.fwd hf, hv, hf⟩

theorem lim_one : lim 1 = [1] := by rw [lim_pos (by omega)]; simp [lim_zero]
theorem num_one (w : World) : Num (w.alloc (.cells #[.int .u32 1] 65)) (.slice (some ⟨w.heap.size, 0, none⟩) 1 1) 1 := by
  have h := BlkV.cell (BlkV.made w 65 [.int .u32 1]) 0 rfl
  unfold Num
  rw [lim_one]
  refine ⟨?_, Or.inr ⟨w.heap.size, 0, 1, rfl, by simp, by unfold maxLen; omega, ?_, by simp⟩⟩
  · have := ok_lim 1
    rw [lim_one] at this
    exact this
  · intro i hi
    obtain rfl : i = 0 := by simp at hi; omega
    exact h

set_option maxHeartbeats 4000000 in
set_option maxRecDepth 20000 in
theorem refRat_range {w : World} (f : Nat) (hf : f < 18446744073709551616) (hi : 9218868437227405312 ≤ fsz f) :
    Calls Tryz.prog 36 #[.int .u64 f] w fun e w' => e = .returned (.tuple #[ratZero, .int .i64 10]) ∧ Fwd w w' := by
  have n1 := fun w => none3_any (w := w) f hf
  have n2 := fun w => endless3_any (w := w) f hf
  by_cases c : isNan f = true
  · simp only [c] at n1
    clear n2 c hi
    have kR : BlkV (w.alloc (.cells #[.bool false, .slice none 0 0, .slice none 0 0] 27)) (w.heap.size) 27 [.bool false, .slice none 0 0, .slice none 0 0] := BlkV.made' w (w.heap.size) (by simp) 27 [.bool false, .slice none 0 0, .slice none 0 0]
    have hF : Fwd w (w.alloc (.cells #[.bool false, .slice none 0 0, .slice none 0 0] 27)) := (Fwd.refl w).alloc _
    go_enter Tryz.func36, Tryz.ntmps36
    have rc0 := BlkV.cell kR 0 rfl
    have rz0 := BlkV.frozen kR 0
    have rc1 := BlkV.cell kR 1 rfl
    have rz1 := BlkV.frozen kR 1
    have rc2 := BlkV.cell kR 2 rfl
    have rz2 := BlkV.frozen kR 2
    go_wp2_with fail
    refine (n1 _).mono ?_
    rintro e wq ⟨rfl, rfl⟩
    go_wp2
    refine bodyPost_ret (by simp [results, Tryz.results36, go_sem, rc0, rc1, rc2]; try rfl) rfl ?_
    exact ⟨rfl, hF⟩
  · have c' : isNan f = false := by simpa using c
    have d : fsz f = 9218868437227405312 := by
      have : ¬ 9218868437227405312 < fsz f := fun h => c (decide_eq_true h)
      omega
    simp only [c'] at n1
    simp only [d, decide_true] at n2
    clear c c' d hi
    have kR : BlkV (w.alloc (.cells #[.bool false, .slice none 0 0, .slice none 0 0] 27)) (w.heap.size) 27 [.bool false, .slice none 0 0, .slice none 0 0] := BlkV.made' w (w.heap.size) (by simp) 27 [.bool false, .slice none 0 0, .slice none 0 0]
    have hF : Fwd w (w.alloc (.cells #[.bool false, .slice none 0 0, .slice none 0 0] 27)) := (Fwd.refl w).alloc _
    go_enter Tryz.func36, Tryz.ntmps36
    have rc0 := BlkV.cell kR 0 rfl
    have rz0 := BlkV.frozen kR 0
    have rc1 := BlkV.cell kR 1 rfl
    have rz1 := BlkV.frozen kR 1
    have rc2 := BlkV.cell kR 2 rfl
    have rz2 := BlkV.frozen kR 2
    go_wp2_with fail
    refine (n1 _).mono ?_
    rintro e wq ⟨rfl, rfl⟩
    go_wp2_with fail
    refine (n2 _).mono ?_
    rintro e wq ⟨rfl, rfl⟩
    go_wp2
    refine bodyPost_ret (by simp [results, Tryz.results36, go_sem, rc0, rc1, rc2]; try rfl) rfl ?_
    exact ⟨rfl, hF⟩

theorem nl_ratA' {f : Nat} (h : fsz f < 9218868437227405312) : nl (ratA f) ≤ 1000 := by
  have h1 := nl_two' (vsz_lt f)
  have h2 := nl_shl (vsz f) (vex f).toNat
  have h3 := vex_le h
  have h4 : nl (ratA f) = nl (vsz f * 2 ^ (vex f).toNat) := rfl
  omega
theorem nl_ratB' (f : Nat) : nl (ratB f) ≤ 1000 := by
  have h1 := nl_two' (n := 1) (by decide)
  have h2 := nl_shl 1 (-(vex f)).toNat
  have h3 := vex_ge f
  have h4 : nl (ratB f) = nl (1 * 2 ^ (-(vex f)).toNat) := rfl
  omega

set_option maxHeartbeats 8000000 in
set_option maxRecDepth 20000 in
theorem refRat_any {w : World} (f : Nat) (hf : f < 18446744073709551616) (hi : fsz f < 9218868437227405312) :
    Calls Tryz.prog 36 #[.int .u64 f] w fun e w' => ∃ v, e = .returned (.tuple #[v, .int .i64 0]) ∧ RV w' v (mkQ (fneg f) (ratA f) (ratB f)) ∧ Fwd w w' := by
  have n1 := fun w => none3_any (w := w) f hf
  have n2 := fun w => endless3_any (w := w) f hf
  have c1 : isNan f = false := decide_eq_false (by omega)
  have c2 : decide (fsz f = 9218868437227405312) = false := decide_eq_false (by omega)
  simp only [c1] at n1
  simp only [c2] at n2
  have cp := fun w => parts3_any (w := w) f hf
  have cm := fun w => minus3_any (w := w) f hf
  have b1 := nl_ratA' hi
  have b2 := nl_ratB' f
  have hB0 := ratB_pos f
  have co := fun (w : World) => refOf_any w (vsz f) (by have := vsz_lt f; omega)
  have x1 := vex_ge f
  have x2 := vex_le hi
  have hs : ∀ (w : World) (n d : Value), Num w n (vsz f) → Num w d 1 → Calls Tryz.prog 73 #[n, d, .int .i64 (vex f)] w fun e w' => ∃ a b, e = .returned (.tuple #[a, b]) ∧ Num w' a (ratA f) ∧ Num w' b (ratB f) ∧ Fwd w w' :=
    fun w n d hn hd => shift3_any (vex f) (by omega) (by omega) hn hd (by have := nl_two' (vsz_lt f); omega) (by have := nl_two' (n := 1) (by decide); omega)
  clear c1 c2 x1 x2 hi
  generalize ratA f = A at *
  generalize ratB f = B at *
  generalize vex f = x at *
  generalize vsz f = m at *
  generalize fneg f = s at *
  have kR : BlkV (w.alloc (.cells #[.bool false, .slice none 0 0, .slice none 0 0] 27)) (w.heap.size) 27 [.bool false, .slice none 0 0, .slice none 0 0] := BlkV.made' w (w.heap.size) (by simp) 27 [.bool false, .slice none 0 0, .slice none 0 0]
  have hF : Fwd w (w.alloc (.cells #[.bool false, .slice none 0 0, .slice none 0 0] 27)) := (Fwd.refl w).alloc _
  go_enter Tryz.func36, Tryz.ntmps36
  have rc0 := BlkV.cell kR 0 rfl
  have rz0 := BlkV.frozen kR 0
  have rc1 := BlkV.cell kR 1 rfl
  have rz1 := BlkV.frozen kR 1
  have rc2 := BlkV.cell kR 2 rfl
  have rz2 := BlkV.frozen kR 2
  go_wp2_with fail
  refine (n1 _).mono ?_
  rintro e wq ⟨rfl, rfl⟩
  go_wp2_with fail
  refine (n2 _).mono ?_
  rintro e wq ⟨rfl, rfl⟩
  go_wp2_with fail
  refine (cp _).mono ?_
  rintro e wq ⟨rfl, rfl⟩
  go_wp2_with fail
  refine (co _).mono ?_
  rintro e w1 ⟨xa, rfl, ha, hf1⟩
  replace kR := kR.fwd hf1
  replace hF := hF.trans hf1
  clear hf1
  clear rc0 rz0 rc1 rz1 rc2 rz2
  have rc0 := BlkV.cell kR 0 rfl
  have rz0 := BlkV.frozen kR 0
  have rc1 := BlkV.cell kR 1 rfl
  have rz1 := BlkV.frozen kR 1
  have rc2 := BlkV.cell kR 2 rfl
  have rz2 := BlkV.frozen kR 2
  have hfB : Fwd w1 (w1.alloc (.cells #[.int .u32 1] 65)) := (Fwd.refl _).alloc _
  replace ha := ha.fwd hfB
  replace kR := kR.fwd hfB
  replace hF := hF.trans hfB
  have h1 := num_one w1
  clear hfB
  go_wp2_with fail
  refine (hs _ _ _ ha h1).mono ?_
  rintro e w2 ⟨yA, yB, rfl, hA, hB, hf2⟩
  clear ha h1
  replace kR := kR.fwd hf2
  replace hF := hF.trans hf2
  clear hf2
  clear rc0 rz0 rc1 rz1 rc2 rz2
  have rc0 := BlkV.cell kR 0 rfl
  have rz0 := BlkV.frozen kR 0
  have rc1 := BlkV.cell kR 1 rfl
  have rz1 := BlkV.frozen kR 1
  have rc2 := BlkV.cell kR 2 rfl
  have rz2 := BlkV.frozen kR 2
  go_wp2_with fail
  refine (cm _).mono ?_
  rintro e wq ⟨rfl, rfl⟩
  go_wp2_with fail
  refine (make2_any s hA hB (by omega) (by omega) hB0).mono ?_
  rintro e w3 ⟨xr, rfl, hv, hf3⟩
  obtain ⟨po, pc, qo, qc, rfl, p1, p2, p3, p4, -, -⟩ := RW.open hv
  replace kR := kR.fwd hf3
  replace hF := hF.trans hf3
  clear hf3
  clear rc0 rz0 rc1 rz1 rc2 rz2
  have rc0 := BlkV.cell kR 0 rfl
  have rz0 := BlkV.frozen kR 0
  have rc1 := BlkV.cell kR 1 rfl
  have rz1 := BlkV.frozen kR 1
  have rc2 := BlkV.cell kR 2 rfl
  have rz2 := BlkV.frozen kR 2
  generalize hQ : mkQ s A B = Q at *
  have HQ := hid hQ
  clear hQ hA hB co hs n1 n2 cp cm
  have HV := hid hv
  clear hv
  go_wp2
  have r0 := BlkV.set kR 0 (.bool (negQ Q))
  have rs0 := BlkV.cell r0 0 rfl
  have r1 := BlkV.set r0 1 (.slice po (nl Q.num.natAbs) pc)
  have rs1 := BlkV.cell r1 1 rfl
  have r2 := BlkV.set r1 2 (.slice qo (nl Q.den) qc)
  have rs2 := BlkV.cell r2 2 rfl
  have hon := ((Only.set (w.heap.size) w3 0 (.bool (negQ Q))).setv 1 (.slice po (nl Q.num.natAbs) pc)).setv 2 (.slice qo (nl Q.den) qc)
  refine bodyPost_ret (by simp [results, Tryz.results36, go_sem, rs0, rs1, rs2]; try rfl) rfl ?_
  exact ⟨_, rfl, (by rw [HQ.out]; exact HV.out.keepV kR (by simp) hon), hF.wrote hon (by omega)⟩
end Go.Proofs.YtcfhajnboamnnabGreatDoor
