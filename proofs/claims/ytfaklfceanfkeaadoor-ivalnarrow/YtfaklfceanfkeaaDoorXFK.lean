/- Floats, mathematics: a float's number is rounded to it again. -/
import Derived.Test.YtfaklfceanfkeaaDoorXFR
namespace Go.Proofs.YtfaklfceanfkeaaDoor
open Go.RowKit
set_option linter.unusedVariables false

theorem dvd_two_pow {g : Nat} (t : Nat) (h : g ∣ 2 ^ t) : ∃ i, i ≤ t ∧ g = 2 ^ i := by
  induction t generalizing g with
  | zero => exact ⟨0, Nat.le_refl _, Nat.eq_one_of_dvd_one h⟩
  | succ t ih =>
    by_cases c : g % 2 = 0
    · obtain ⟨k, hk⟩ : ∃ k, g = 2 * k := ⟨g / 2, by omega⟩
      rw [hk, Nat.pow_succ, Nat.mul_comm (2 ^ t) 2] at h
      obtain ⟨i, hi, e⟩ := ih (Nat.dvd_of_mul_dvd_mul_left (by omega) h)
      exact ⟨i + 1, by omega, by rw [hk, e, Nat.pow_succ]; omega⟩
    · have hc : Nat.Coprime g 2 := by
        have e : g % 2 = 1 := by omega
        unfold Nat.Coprime
        rw [Nat.gcd_comm, Nat.gcd_rec, e]; decide
      exact ⟨0, by omega, Nat.eq_one_of_dvd_one ((Nat.Coprime.pow_right (t + 1) hc).dvd_of_dvd_mul_left (by rw [Nat.mul_one]; exact h))⟩
theorem blen_two_pow (j : Nat) : blen (2 ^ j) = j + 1 := blen_eq (Nat.le_refl _) (Nat.pow_lt_pow_right (by omega) (by omega))
/-- A number as the program's ratio tells it, where its terms are a size times a power of two. -/
theorem ratV_pow (s : Bool) {N n j : Nat} {x : Int} (hn : n ≠ 0) (hb : blen n ≤ 53) (hN : (∃ i, n = N * 2 ^ i ∧ -x = ((i + j : Nat) : Int)) ∨ (j = 0 ∧ ∃ e : Nat, x = (e : Int) ∧ N = n * 2 ^ e)) :
    ratV s N (2 ^ j) = (s, false, n * 2 ^ (128 - blen n), x - ((128 - blen n : Nat) : Int)) := by
  have q : rtN N (2 ^ j) = n * 2 ^ (64 - blen n) * rtD N (2 ^ j) ∧ -(rtS N (2 ^ j)) - 64 = x - ((128 - blen n : Nat) : Int) := by
    rcases hN with ⟨i, h1, h2⟩ | ⟨h1, e, h2, h3⟩
    · have hN0 : N ≠ 0 := fun c => hn (by rw [h1, c, Nat.zero_mul])
      have bn : blen n = blen N + i := by rw [h1, blen_mul i hN0]
      have hS : rtS N (2 ^ j) = 64 - (blen N : Int) + j := by unfold rtS; rw [blen_two_pow]; omega
      have hp : (rtS N (2 ^ j)).toNat = 64 - blen n + i + j := by rw [hS]; omega
      have hm : (-(rtS N (2 ^ j))).toNat = 0 := by rw [hS]; omega
      refine ⟨?_, by rw [hS]; omega⟩
      unfold rtN rtD
      rw [hp, hm, Nat.pow_zero, Nat.mul_one, Nat.pow_add, Nat.pow_add]
      generalize 2 ^ (64 - blen n) = a
      rw [h1]
      generalize 2 ^ i = b
      generalize 2 ^ j = c
      rw [Nat.mul_comm a b, ← Nat.mul_assoc, ← Nat.mul_assoc]
    · subst h1
      have bN : blen N = blen n + e := by rw [h3, blen_mul e hn]
      have hS : rtS N (2 ^ 0) = 64 - (blen N : Int) := by unfold rtS; rw [blen_two_pow]; omega
      refine ⟨?_, by rw [hS]; omega⟩
      unfold rtN rtD
      by_cases c : 0 ≤ rtS N (2 ^ 0)
      · have hp : (rtS N (2 ^ 0)).toNat = 64 - blen n - e := by rw [hS]; omega
        have hm : (-(rtS N (2 ^ 0))).toNat = 0 := by omega
        rw [hp, hm, h3]
        have e1 : 64 - blen n = e + (64 - blen n - e) := by omega
        rw [Nat.pow_zero, Nat.mul_one, Nat.mul_assoc, ← Nat.pow_add]
        congr 2
        omega
      · have hp : (rtS N (2 ^ 0)).toNat = 0 := by omega
        have hm : (-(rtS N (2 ^ 0))).toNat = blen n + e - 64 := by rw [hS]; omega
        rw [hp, hm, h3, Nat.pow_zero, Nat.mul_one, Nat.one_mul, Nat.mul_assoc, ← Nat.pow_add]
        congr 2
        omega
  have hd := rtD_pos (N := N) (D := 2 ^ j) (by have := Nat.two_pow_pos j; omega)
  unfold ratV
  rw [q.2, q.1, Nat.mul_div_cancel _ hd, Nat.mul_mod_left]
  have e2 : n * 2 ^ (64 - blen n) * 18446744073709551616 = n * 2 ^ (128 - blen n) := by
    rw [show (18446744073709551616 : Nat) = 2 ^ 64 from rfl, Nat.mul_assoc, ← Nat.pow_add]; congr 2; omega
  rw [e2]
  simp [stk]
/-- A finite float's number, above and below. -/
def ratA (f : Nat) : Nat := vsz f * 2 ^ (vex f).toNat
def ratB (f : Nat) : Nat := 1 * 2 ^ (-(vex f)).toNat
theorem ratB_pos (f : Nat) : ratB f ≠ 0 := by unfold ratB; have := Nat.two_pow_pos (-(vex f)).toNat; omega
/-- A float's own number, in lowest terms, is rounded to it. -/
theorem back_own {f : Nat} (hf : f < 18446744073709551616) (h0 : fsz f ≠ 0) (h1 : fsz f < 9218868437227405312) (m : Int) :
    rdV m (ratV (fneg f) (ratA f / Nat.gcd (ratA f) (ratB f)) (ratB f / Nat.gcd (ratA f) (ratB f))) = (f, 0) := by
  have hn := vsz_ne h0
  have hb : blen (vsz f) ≤ 53 := blen_vsz f
  obtain ⟨o1, o2⟩ := own_rnd hf h0 h1 m
  have key : ∃ N j, ratA f / Nat.gcd (ratA f) (ratB f) = N ∧ ratB f / Nat.gcd (ratA f) (ratB f) = 2 ^ j ∧ ((∃ i, vsz f = N * 2 ^ i ∧ -(vex f) = ((i + j : Nat) : Int)) ∨ (j = 0 ∧ ∃ e : Nat, vex f = (e : Int) ∧ N = vsz f * 2 ^ e)) := by
    by_cases c : 0 ≤ vex f
    · have e1 : ratB f = 1 := by unfold ratB; rw [show (-(vex f)).toNat = 0 by omega]
      rw [e1, Nat.gcd_one_right, Nat.div_one, Nat.div_one]
      exact ⟨_, 0, rfl, rfl, Or.inr ⟨rfl, (vex f).toNat, by omega, rfl⟩⟩
    · have e1 : ratB f = 2 ^ (-(vex f)).toNat := by unfold ratB; rw [Nat.one_mul]
      have e2 : ratA f = vsz f := by unfold ratA; rw [show (vex f).toNat = 0 by omega, Nat.pow_zero, Nat.mul_one]
      obtain ⟨i, hi, hg⟩ := dvd_two_pow (g := Nat.gcd (ratA f) (ratB f)) (-(vex f)).toNat (by rw [← e1]; exact Nat.gcd_dvd_right _ _)
      have hd : 2 ^ i ∣ vsz f := by rw [← hg, ← e2]; exact Nat.gcd_dvd_left _ _
      rw [hg, e1, e2]
      refine ⟨_, (-(vex f)).toNat - i, rfl, ?_, Or.inl ⟨i, (Nat.div_mul_cancel hd).symm, by omega⟩⟩
      rw [Nat.pow_div hi (by omega)]
  obtain ⟨N, j, k1, k2, k3⟩ := key
  rw [k1, k2, ratV_pow (fneg f) hn hb k3, rdV_mul m (fneg f) (vex f) (by omega)]
  unfold rdV
  rw [if_neg (fun h => by cases h), if_neg hn, o1, o2]
theorem back_nought (m : Int) : rdV m (ratV false 0 1) = (0, 0) := by
  have e : ratV false 0 1 = (false, false, 0, -(rtS 0 1) - 64) := by
    unfold ratV
    rw [rtS_zero]
    simp [stk]
  rw [e]
  unfold rdV
  rw [if_neg (fun h => by cases h), if_pos rfl]
  rfl
end Go.Proofs.YtfaklfceanfkeaaDoor
