/- Floats, mathematics: answers are of 64 bits. -/
import Derived.Test.YtcfhajnboamnnaaDoorYXFM
import Derived.Test.YtcfhajnboamnnaaDoorKJ
namespace Go.Proofs.YtcfhajnboamnnaaDoor
open Go.RowKit
set_option linter.unusedVariables false

theorem rnd_lt (m : Int) (s : Bool) (n : Nat) (x : Int) : rnd m s n x < 18446744073709551616 := by
  have h1 := grt_lt m s 7
  have h2 : sgn s ≤ 9223372036854775808 := by unfold sgn; split <;> omega
  unfold rnd
  split <;> omega
theorem sgn_le (s : Bool) : sgn s ≤ 9223372036854775808 := by unfold sgn; split <;> omega
theorem rdV_lt (m : Int) (v : Bool × Bool × Nat × Int) : (rdV m v).1 < 18446744073709551616 := by
  obtain ⟨s, en, n, x⟩ := v
  have h1 := rnd_lt m s n x
  have h2 := sgn_le s
  unfold rdV
  by_cases c : en = true
  · rw [if_pos c]; show sgn s + 9218868437227405312 < _; omega
  · rw [if_neg c]
    by_cases d : n = 0
    · rw [if_pos d]; show sgn s < _; omega
    · rw [if_neg d]; exact h1
theorem nan_lt : (9221120237041090560 : Nat) < 18446744073709551616 := by omega
theorem addV_lt (m : Int) (v w : Bool × Bool × Nat × Int) : (addV m v w).1 < 18446744073709551616 := by
  have h1 := rdV_lt m v
  have h2 := rdV_lt m w
  have h3 := rdV_lt m (plusV v w)
  have h4 := sgn_le (rMinus m)
  unfold addV
  by_cases c1 : v.2.1 = true ∧ w.2.1 = true ∧ v.1 ≠ w.1
  · rw [if_pos c1]; exact nan_lt
  · rw [if_neg c1]
    by_cases c2 : v.2.1 = true
    · rw [if_pos c2]; exact h1
    · rw [if_neg c2]
      by_cases c3 : w.2.1 = true
      · rw [if_pos c3]; exact h2
      · rw [if_neg c3]
        by_cases c4 : (plusV v w).2.2.1 = 0 ∧ v.1 ≠ w.1
        · rw [if_pos c4]; show sgn (rMinus m) < _; omega
        · rw [if_neg c4]; exact h3
theorem addF_lt (m : Int) (f g : Nat) : (addF m f g).1 < 18446744073709551616 := by
  have h := addV_lt m (valF f) (valF g)
  unfold addF
  by_cases c : (isNan f || isNan g) = true
  · rw [if_pos c]; exact nan_lt
  · rw [if_neg c]; exact h
theorem mulF_lt (m : Int) (f g : Nat) : (mulF m f g).1 < 18446744073709551616 := by
  unfold mulF
  by_cases c : (isNan f || isNan g) = true
  · rw [if_pos c]; exact nan_lt
  · rw [if_neg c]
    cases mulV (valF f) (valF g) with
    | none => simp only [withMul]; exact nan_lt
    | some v => simp only [withMul]; exact rdV_lt m v
theorem divV_lt (m : Int) (v w o : Bool × Bool × Nat × Int) : (divV m v w o).1 < 18446744073709551616 := by
  have h1 := rdV_lt m (v.1 != w.1, true, 0, 0)
  have h2 := rdV_lt m (v.1 != w.1, false, 0, 0)
  have h3 := rdV_lt m o
  unfold divV
  by_cases c1 : (v.2.1 = true ∧ w.2.1 = true) ∨ ((v.2.1 = false ∧ v.2.2.1 = 0) ∧ w.2.1 = false ∧ w.2.2.1 = 0)
  · rw [if_pos c1]; exact nan_lt
  · rw [if_neg c1]
    by_cases c2 : v.2.1 = true
    · rw [if_pos c2]; exact h1
    · rw [if_neg c2]
      by_cases c3 : w.2.1 = true ∨ v.2.2.1 = 0
      · rw [if_pos c3]; exact h2
      · rw [if_neg c3]
        by_cases c4 : w.2.2.1 = 0
        · rw [if_pos c4]; exact h1
        · rw [if_neg c4]; exact h3
theorem divF_lt (m : Int) (f g : Nat) (o : Bool × Bool × Nat × Int) : (divF m f g o).1 < 18446744073709551616 := by
  have h := divV_lt m (valF f) (valF g) o
  unfold divF
  by_cases c : (isNan f || isNan g) = true
  · rw [if_pos c]; exact nan_lt
  · rw [if_neg c]; exact h
end Go.Proofs.YtcfhajnboamnnaaDoor
